import PyProof.Rows.All
import Wide.All
import OpenK.AllK
import Wide.FinOn
import Lean
import PyProof.EqAt
import PyProof.EqKinds
import PyProof.TupleCall
import PySem.Challenge.RW_rowrules_k51_ranks_of_pairs
set_option Elab.async false
set_option linter.all false
set_option maxRecDepth 100000
abbrev qC:=@PySem.wpAny_bind
abbrev qD:=@PySem.wpAny_pure
abbrev qE:=@if_neg
abbrev qF:=@if_pos
abbrev qG:=@absurd
abbrev qH:=@decide_eq_true
abbrev qI:=@decide_eq_false
abbrev qJ:=@PyProof.Rows.wpS_bind
abbrev qK:=@PyProof.Rows.wpS_pure
abbrev qL:=@PyProof.Rows.wpS_forRange
abbrev qM:=@PySem.wpAny_mono
abbrev qN:=@of_decide_eq_true
abbrev qO:=@PySem.wpAny_holding
abbrev qP:=@congrArg
abbrev qQ:=@PySem.Value
abbrev qR:=@PySem.Addr
abbrev qS:=@PySem.Shared
abbrev qT:=@PySem.Program
abbrev qU:=@PySem.World
abbrev qV:=PySem.W.Frag
abbrev qW:=List Int
abbrev qX:=Nat×Nat
abbrev Xf:=@List.length_map
abbrev Xg:=@List.getElem?_eq_some_iff
abbrev Xh:=@PySem.Heap.get?_push_of_some
abbrev Xi:=@Nat.le_refl
abbrev Xj:=@List.getElem?_eq_getElem
abbrev Xk:=@List.getD_eq_getElem?_getD
abbrev Xl:=@List.getElem?_map
abbrev Xm:=@PySem.Heap.lt_size
abbrev Xn:=@Nat.lt_of_lt_of_le
abbrev Xo:=@Int.toNat_natCast
abbrev Xp:=@List.map_append
abbrev Xq:=@List.mem_of_getElem?
abbrev Xr:=@List.mem_append
abbrev Xs:=@PySem.Heap.get?_push_size
abbrev Xt:=@List.length_append
abbrev Xu:=@List.mem_singleton
abbrev Xv:=@List.mem_append_right
abbrev Xw:=@List.mem_cons_of_mem
abbrev Xx:=@Bool.false_ne_true
abbrev Xy:=@List.mem_map
abbrev Xz:=@Option.map_eq_some_iff
abbrev X0:=@Array.length_toList
abbrev X1:=@List.mem_range
abbrev X3:=@List.mem_cons
abbrev X4:=@Nat.zero_le
abbrev X5:=@List.mem_cons_self
abbrev X6:=@List.append_nil
abbrev X7:=@List.not_mem_nil
abbrev X8:=@Nat.lt_irrefl
abbrev X9:=@List.getElem?_append_right
abbrev YA:=@Nat.ne_of_lt
abbrev YB:=@List.mem_filter
abbrev YC:=@List.mem_iff_getElem?
abbrev YD:=@List.append_assoc
abbrev YE:=@Array.toList_append
abbrev YF:=@List.length_range
abbrev YG:=@Nat.le_trans
abbrev YH:=@Int.pow_succ
abbrev YI:=@Int.le_of_lt
abbrev YJ:=@Int.zero_add
abbrev YK:=@List.take_length
abbrev YL:=@List.length_take
abbrev YM:=@List.take_add_one
abbrev YN:=@Int.toNat_of_nonneg
abbrev YO:=@Int.natCast_emod
abbrev YQ:=@List.getElem?_append_left
abbrev YR:=@PySem.boot_len
abbrev YS:=@List.size_toArray
abbrev YT:=@List.length_cons
abbrev YU:=@PyProof.Rows.callWith_type1
abbrev YV:=@PySem.mem_of_lookup
abbrev YW:=@List.map_congr_left
abbrev YX:=@List.take_of_length_le
abbrev YY:=@List.getElem_mem
abbrev YZ:=@List.length_singleton
abbrev Ya:=@Int.pow_zero
abbrev Yb:=@List.range_succ
abbrev Yc:=@Nat.div_lt_of_lt_mul
abbrev Yd:=@List.nodup_cons
abbrev Ye:=@List.length_filter_le
abbrev Yf:=@Nat.eq_of_beq_eq_true
abbrev Yg:=@List.map_cons
abbrev Yh:=@List.nodup_append
abbrev Yi:=@Array.getElem_toList
abbrev Yj:=@List.filter_append
abbrev Yk:=@PySem.W.kia_one
abbrev Yl:=@List.take_append_drop
abbrev Ym:=@Int.emod_eq_of_lt
abbrev Yn:=@Nat.mod_lt
abbrev Yo:=@Nat.mul_le_mul
abbrev Yp:=@List.length_drop
abbrev Yq:=@Int.natCast_ediv
abbrev Yr:=@PySem.Heap.get?_update_ne
abbrev Ys:=@List.length_replicate
abbrev Yt:=@Int.le_trans
abbrev Yu:=@PySem.F.slot_dict_setdefault
abbrev Yv:=@Nat.lt_of_le_of_ne
abbrev Yw:=@List.mem_append_left
abbrev Yx:=@Nat.mod_eq_of_lt
abbrev Yy:=@Bool.and_eq_true
abbrev Yz:=@Int.le_refl
abbrev Y0:=@List.flatMap_append
abbrev Y1:=@PySem.Heap.size_push
abbrev Y2:=@List.nodup_nil
abbrev Y3:=@List.extract_eq_take_drop
abbrev Y4:=@Int.emod_nonneg
abbrev Y5:=@Array.getElem?_toList
abbrev Y6:=@Nat.div_add_mod
abbrev Y7:=@Int.emod_lt_of_pos
abbrev Y8:=@Int.mul_le_mul_of_nonneg_left
abbrev Y9:=@Nat.le_of_lt
abbrev ZA:=@Int.add_zero
abbrev ZB:=@List.flatMap_cons
abbrev ZC:=@List.pairwise_map
abbrev ZD:=@Nat.le_succ
abbrev ZE:=@List.getElem_inj
abbrev ZF:=@List.flatMap_nil
abbrev ZG:=@Nat.lt_of_le_of_lt
abbrev ZH:=@Nat.sub_self
abbrev ZI:=@Int.one_mul
abbrev ZJ:=@Array.toList_extract
abbrev ZK:=@Option.isSome_iff_exists
abbrev ZL:=@List.length_set
abbrev ZM:=@Int.natCast_mul
abbrev ZN:=@Int.natCast_pow
abbrev ZO:=@Nat.ne_of_gt
abbrev ZP:=@Nat.mul_comm
abbrev ZQ:=@List.length_pos_iff
abbrev ZR:=@PyProof.Rows.boot_tuple
abbrev ZS:=@List.lookup_cons
abbrev ZT:=@Int.mul_le_mul
abbrev ZU:=@List.pairwise_lt_range
abbrev ZV:=@List.pairwise_cons
abbrev ZW:=@PySem.F.type_dict_setdefault
abbrev ZX:=@List.of_mem_zip
abbrev ZY:=@List.getElem?_eq_none
abbrev ZZ:=@Int.zero_mul
abbrev Za:=@List.map_map
abbrev Zb:=@List.Perm.append_left
abbrev Zc:=@List.perm_append_comm
abbrev Zd:=@Array.getElem?_eq_getElem
abbrev Ze:=@List.findIdx?_eq_none_iff
abbrev Zf:=@List.drop_eq_getElem_cons
abbrev Zg:=@List.all_eq_true
abbrev Zh:=@Nat.le_add_right
abbrev Zi:=@List.mem_flatMap
abbrev Zj:=@PySem.W.hideAll_get
abbrev Zk:=@List.getElem?_range
abbrev Zl:=@List.map_eq_nil_iff
abbrev Zm:=@Int.mul_comm
abbrev Zn:=@Nat.add_zero
abbrev Zo:=@List.mem_filterMap
abbrev Zp:=@Bool.eq_iff_iff
abbrev Zq:=@Nat.mul_div_cancel
abbrev Zr:=@PySem.F.plainAttrs_dict
abbrev Zs:=@PySem.F.plainAttrs_list
abbrev Zt:=@List.getElem?_set_self
abbrev Zu:=@PySem.W.cellsFrom_some
abbrev Zv:=@Int.ediv_eq_zero_of_lt
abbrev Zw:=@List.Perm.append_right
abbrev Zx:=@PySem.W.kitx_list
abbrev Zy:=@PySem.W.kitx_dict
abbrev Zz:=@Nat.lt_succ_of_lt
abbrev Z0:=@Nat.add_mul
abbrev Z1:=@List.getElem?_zipWith
abbrev Z2:=@PyProof.Rows.boot_int
abbrev Z3:=@Nat.le_of_not_lt
abbrev Z4:=@List.getElem?_set_ne
abbrev Z5:=@PySem.W.looks_findIn
abbrev Z6:=@List.mem_of_mem_drop
abbrev Z7:=@List.mem_iff_getElem
abbrev Z8:=@List.mem_of_mem_take
abbrev Z9:=@Nat.mul_le_mul_right
abbrev aB:=@Nat.add_assoc
abbrev aC:=@List.length_nil
abbrev aD:=@Int.natCast_add
abbrev aE:=@Nat.not_lt_zero
abbrev aG:=@Int.natCast_sub
abbrev aH:=@Nat.le_of_eq
theorem byG{T:Prop}(h:∀G:Prop,(T->G)->G):T:=h T id
namespace L2
open PySem PySem.Spec PyProof.Rows
abbrev BQ:=Sum Int Str
noncomputable def II:BQ->qQ->Bool
 |.inl k,v=>Value.isInt k v
 |.inr x,v=>Value.isStrOf x v
noncomputable def Wd(w:qU):BQ->Int
 |.inl k=>hashInt k
 |.inr x=>hashStr w x
theorem BR:∀{k:BQ} {v:qQ},II k v=true->(∃i t,k=Sum.inl i/\v=Value.int i t)\/(∃x t,k=Sum.inr x/\v=Value.str x t)
 |.inl i,v,h=>by obtain⟨t,e⟩:=Value.isInt_shape (k:=i) (v:=v) h;exact .inl ⟨i,t,rfl,e⟩
 |.inr x,v,h=>by obtain⟨t,e⟩:=Value.isStrOf_shape (x:=x) (v:=v) h;exact .inr ⟨x,t,rfl,e⟩
theorem M6(i:Int)(t:Tok):II (.inl i) (.int i t)=true:=by simp[II,Value.isInt]
theorem M7(x:Str)(t:Tok):II (.inr x) (.str x t)=true:=by simp[II,Value.isStrOf]
theorem Sb(a b:Int):decide ((Sum.inl a:BQ)=Sum.inl b)=(a==b):=by
 by_cases e:a=b
 ·subst e;simp
 ·have h:¬(Sum.inl a:BQ)=Sum.inl b:=λq=>e (Sum.inl.inj q)
  rw[qI h];exact (beq_eq_false_iff_ne.mpr e).symm
theorem Sc(a b:Str):decide ((Sum.inr a:BQ)=Sum.inr b)=decide (a=b):=by
 by_cases e:a=b
 ·subst e;simp
 ·have h:¬(Sum.inr a:BQ)=Sum.inr b:=λq=>e (Sum.inr.inj q)
  rw[qI h,qI e]
theorem Se(a:Int)(b:Str):decide ((Sum.inl a:BQ)=Sum.inr b)=false:=qI (λq=>nomatch q)
theorem Sf(a:Str)(b:Int):decide ((Sum.inr a:BQ)=Sum.inl b)=false:=qI (λq=>nomatch q)
noncomputable def Au(prog:qT)(w:qU):PySem.KeyKind prog w BQ where
 is:=II
 hash:=Wd w
 inj:=λv a b ha hb=>by
  rcases BR ha with⟨i,t,rfl,rfl⟩|⟨x,t,rfl,rfl⟩
  ·rcases BR hb with⟨j,u,rfl,e⟩|⟨y,u,rfl,e⟩
   ·injection e with e1 _;rw[e1]
   ·exact nomatch e
  ·rcases BR hb with⟨j,u,rfl,e⟩|⟨y,u,rfl,e⟩
   ·exact nomatch e
   ·injection e with e1 _;rw[e1]
 byValue:=λk v h=>by rcases BR h with⟨i,t,rfl,rfl⟩|⟨x,t,rfl,rfl⟩<;>rfl
 pyHash:=λhv h=>by
  rcases BR hv with⟨i,t,rfl,rfl⟩|⟨x,t,rfl,rfl⟩
  ·exact wpAny_pyHash_int h
  ·exact wpAny_pyHash_str h
 eqBool:=λhu hv h=>by
  rcases BR hu with⟨i,t,rfl,rfl⟩|⟨x,t,rfl,rfl⟩
  ·rcases BR hv with⟨j,u,rfl,rfl⟩|⟨y,u,rfl,rfl⟩
   ·rw[Sb]at h;exact wpAny_eqBool_int h
   ·rw[Se]at h;exact SeqAt.EqAt.int_str i t y u _ _ _ _ h
  ·rcases BR hv with⟨j,u,rfl,rfl⟩|⟨y,u,rfl,rfl⟩
   ·rw[Sf]at h;exact SeqAt.EqAt.str_int x t j u _ _ _ _ h
   ·rw[Sc]at h;exact wpAny_eqBool_str h
 «strs»:=λk x t v h=>by
  rcases BR h with⟨i,u,rfl,e⟩|⟨y,u,rfl,e⟩
  ·exact nomatch e
  ·injection e with e1 _
   subst e1;cases v<;>rfl
theorem Jk(prog:qT)(w:qU)(i:Int)(t:Tok):(Au prog w).is (.inl i) (.int i t)=true:=M6 i t
theorem Jl(prog:qT)(w:qU)(x:Str)(t:Tok):(Au prog w).is (.inr x) (.str x t)=true:=M7 x t
inductive V where
 |non|bl (b:Bool)|int (i:Int)|str (x:Str)|byt (b:Array UInt8)|flt (b:UInt64)|ref (a:qR)|ty (n:String)
 deriving DecidableEq
def A4:V->qQ->Prop
 |.non,u=>u=Value.none
 |.bl b,u=>u=Value.bool b
 |.int i,u=>∃t,u=Value.int i t
 |.str x,u=>∃t,u=Value.str x t
 |.byt b,u=>∃t,u=Value.bytes b t
 |.flt b,u=>∃t,u=Value.float b t
 |.ref a,u=>u=Value.ref a
 |.ty n,u=>u=Value.type n
abbrev Aq:List V->List qQ->Prop:=Paired A4
variable{xs:List V}{us:List qQ}
theorem Aq.length(r:Aq xs us):xs.length=us.length:=Paired.length r
theorem Aq.get:∀{xs:List V} {us:List qQ} {i:Nat} {x:V},Aq xs us->xs[i]?=some x->∃u,us[i]?=some u/\A4 x u
 |_,_,_,_,.nil,e=>by simp at e
 |_,_,0,_,.cons r _,e=>by simp at e;subst e;exact⟨_,rfl,r⟩
 |_,_,i+1,x,.cons _ t,e=>by obtain⟨u,h1,h2⟩:=Aq.get (i:=i) (x:=x) t (by simpa using e);exact⟨u,by simpa using h1,h2⟩
theorem Aq.append:∀{xs ys:List V} {us ws:List qQ},Aq xs us->Aq ys ws->Aq (xs++ys) (us++ws):=by
 intro _ _ _ _ h s
 induction h with
 |nil=>exact s
 |cons r _ ih=>exact .cons r ih
theorem Aq.take:∀{xs:List V} {us:List qQ} (n:Nat),Aq xs us->Aq (xs.take n) (us.take n)
 |_,_,0,_=>.nil
 |_,_,_+1,.nil=>.nil
 |_,_,n+1,.cons r t=>.cons r (Aq.take n t)
theorem Aq.drop:∀{xs:List V} {us:List qQ} (n:Nat),Aq xs us->Aq (xs.drop n) (us.drop n)
 |_,_,0,r=>r
 |_,_,_+1,.nil=>.nil
 |_,_,n+1,.cons _ t=>Aq.drop n t
noncomputable def Ge:Option V->Option qQ->Prop
 |some v,some u=>A4 v u
 |none,none=>True
 |_,_=>False
def KV{κ:Type}:List (κ×V)->List (κ×qQ)->Prop:=Paired λ(p:κ×V) (q:κ×qQ)=>p.1=q.1/\A4 p.2 q.2
def kV:BQ->V
 |.inl i=>.int i
 |.inr x=>.str x
inductive HO where
 |lst (xs:List V)
 |tup (xs:List V)
 |dK (kvs:List (BQ×V))|dT (kvs:List (List BQ×V))
 |set (S:Int->Bool) (n:Nat)
 |ins (C dx:qR) (fs:List (Str×V))
 |own (x:qR)
 |xd (fs:List (Str×V))
 |met (f x:qR)
 |rng (lo hi:Int)
 |frz (o:Obj) (u:HO)
 |tbl (ps:Array qQ)
 |ext (φ:Heap->Prop)
abbrev Hp:=qR->Option HO
noncomputable def AT(H:Hp)(a:qR)(o:HO):Hp:=λb=>if b=a then some o else H b
variable{H:Hp}{a:qR}
theorem AE{o:HO}:AT H a o a=some o:=by unfold AT;rw[qF rfl]
theorem AJ{b:qR}{o:HO}(h:b≠a):AT H a o b=H b:=by unfold AT;rw[qE h]
theorem GL{o u:HO}:AT (AT H a o) a u=AT H a u:=by
 funext b;unfold AT;split<;>rfl
theorem Bu{b:qR}{o u:HO}(h:H a=some o)(h':H b=some u)(d:o≠u):a≠b:=by intro e;subst e;rw[h]at h';exact d (Option.some.inj h')
theorem BE{b:qR}{o:HO}(h:H a=some o)(h':H b=none):a≠b:=by intro e;subst e;rw[h]at h';cases h'
section
variable(P:qT)(w:qU)
noncomputable def Ag(H:Hp)(h:Heap)(a:qR):HO->Prop
 |.lst xs=>xs.length<=sizeLine/\∃(its:List qQ) (n:Nat),Aq xs its/\h.get? a=some {cls:=.type "list",data:=.seq its.toArray n}
 |.tup xs=>xs.length<=sizeLine/\∃its:List qQ,Aq xs its/\IsTup h a its.toArray
 |.dK kvs=>kvs.length<=sizeLine/\(a==sysModules)=false/\∃vs,KV kvs vs/\h.DictOf (Au P w) a vs
 |.dT kvs=>kvs.length<=sizeLine/\(a==sysModules)=false/\∃xs:List (List BQ×qR×qQ),
   Paired (λ(p:List BQ×V) (q:List BQ×qR×qQ)=>p.1=q.1/\H q.2.1=some (.tup (p.1.map kV))/\A4 p.2 q.2.2) kvs xs /\
   ∃o es ep,h.get? a=some o/\o.ExactDict/\o.data=.dict es ep/\es.toList=xs.map (entryOfKey (tupleKind (Au P w)))/\(xs.map (·.1)).Nodup
 |.set S n=>h.SetOf (intKind P w) a S n
 |.ins C dx fs=>H dx=some (.own a)/\fs.length<=1000/\dx≠a/\h.get? a=some (PySem.W.instObj C dx) /\
   ∃mA,h.Ns1 dx mA/\(∀f,Ge (fs.lookup f) (mA f))/\PySem.Within mA (fs.map (·.1))
 |.own _=>∃o,h.get? a=some o
 |.xd fs=>∃mA,h.Ns1 a mA/\∀f,Ge (fs.lookup f) (mA f)
 |.rng lo hi=>∃t u v,h.get? a=some {cls:=.type "range",data:=.fields #[.int lo t,.int hi u,.int 1 v]}
 |.frz o u=>h.get? a=some o/\Ag H h a u
 |.tbl ps=>h.get? a=some {cls:=.none,data:=.fields ps}
 |.met f x=>h.get? a=some (PySem.W.methodObj (.ref f) (.ref x))
 |.ext φ=>φ h/\(∃o,h.get? a=some o)/\∀h1 h2:Heap,φ h1->(∀o,h1.get? a=some o->h2.get? a=some o)->φ h2
def Dk(H:Hp)(h:Heap):Prop:=∀a o,H a=some o->Ag P w H h a o
end
variable{α β:Type}
section
variable{P:qT}{w:qU}{H':Hp}{h h':Heap}{o:HO}
theorem Ag.lt(x:Ag P w H h a o):a<h.objs.size:=by
 cases o with
 |lst xs=>obtain⟨_,_,_,_,e⟩:=x;exact Xm e
 |tup xs=>obtain⟨_,_,_,p⟩:=x;exact p.lt
 |dK kvs=>obtain⟨_,_,_,_,o,_,_,e,_⟩:=x;exact Xm e
 |dT kvs=>obtain⟨_,_,_,_,o,_,_,e,_⟩:=x;exact Xm e
 |set S n=>obtain⟨o,_,_,_,e,_⟩:=x;exact Xm e
 |ins C dx fs=>obtain⟨_,_,_,e,_⟩:=x;exact Xm e
 |own y=>obtain⟨_,e⟩:=x;exact Xm e
 |xd fs=>obtain⟨_,⟨_,_,_,e,_⟩,_⟩:=x;exact Xm e
 |rng lo hi=>obtain⟨_,_,_,e⟩:=x;exact Xm e
 |frz ob u=>obtain⟨e,_⟩:=x;exact Xm e
 |tbl ps=>exact Xm (show h.get? a=some _ from x)
 |met f y=>exact Xm (show h.get? a=some _ from x)
 |ext φ=>obtain⟨_,⟨_,e⟩,_⟩:=x;exact Xm e
theorem Paired.mapP{F G:α->β->Prop}:∀{l₁:List α} {l₂:List β},Paired F l₁ l₂->(∀a b,F a b->G a b)->Paired G l₁ l₂:=by
 intro _ _ h f
 induction h with
 |nil=>exact .nil
 |cons r _ ih=>exact .cons (f _ _ r) ih
theorem Ag.stay(x:Ag P w H h a o)(k:∀b u,(b=a\/H b=some (.own a))->h.get? b=some u->h'.get? b=some u)
  (ho:∀b,H b=some (.own a)->H' b=some (.own a)) (ht:∀b xs,H b=some (.tup xs)->H' b=some (.tup xs)):Ag P w H' h' a o:=by
 induction o with
 |lst xs=>obtain⟨z,its,n,r,e⟩:=x;exact⟨z,its,n,r,k _ _ (.inl rfl) e⟩
 |tup xs=>obtain⟨z,its,r,ob,e,c⟩:=x;exact⟨z,its,r,ob,k _ _ (.inl rfl) e,c⟩
 |dK kvs=>obtain⟨z,y,vs,r,ob,es,ep,e,c⟩:=x;exact⟨z,y,vs,r,ob,es,ep,k _ _ (.inl rfl) e,c⟩
 |dT kvs =>
  obtain⟨z,y,xs,r,ob,es,ep,e,c⟩:=x;exact⟨z,y,xs,Paired.mapP r λp q z=>⟨z.1,ht _ _ z.2.1,z.2.2⟩,ob,es,ep,k _ _ (.inl rfl) e,c⟩
 |set S n=>obtain⟨ob,es,ep,t,e,c⟩:=x;exact⟨ob,es,ep,t,k _ _ (.inl rfl) e,c⟩
 |ins C dx fs =>
  obtain⟨d,z,ne,e,mA,⟨od,es,ep,e2,c⟩,r⟩:=x;exact⟨ho _ d,z,ne,k _ _ (.inl rfl) e,mA,⟨od,es,ep,k _ _ (.inr d) e2,c⟩,r⟩
 |own y=>obtain⟨ob,e⟩:=x;exact⟨ob,k _ _ (.inl rfl) e⟩
 |xd fs=>obtain⟨mA,⟨od,es,ep,e,c⟩,r⟩:=x;exact⟨mA,⟨od,es,ep,k _ _ (.inl rfl) e,c⟩,r⟩
 |rng lo hi=>obtain⟨t,u,v,e⟩:=x;exact⟨t,u,v,k _ _ (.inl rfl) e⟩
 |frz ob u ih=>obtain⟨e,q⟩:=x;exact⟨k _ _ (.inl rfl) e,ih q⟩
 |tbl ps =>
  have e:h.get? a=some {cls:=.none,data:=.fields ps}:=x;show h'.get? a=some {cls:=.none,data:=.fields ps};exact k a _ (.inl rfl) e
 |met f y =>
  have e:h.get? a=some (PySem.W.methodObj (.ref f) (.ref y)):=x;show h'.get? a=some (PySem.W.methodObj (.ref f) (.ref y));exact k a _ (.inl rfl) e
 |ext φ=>obtain⟨p,⟨o,e⟩,st⟩:=x;exact⟨st _ _ p λo q=>k _ _ (.inl rfl) q,⟨o,k _ _ (.inl rfl) e⟩,st⟩
theorem Dk.lt(x:Dk P w H h)(e:H a=some o):a<h.objs.size:=(x a o e).lt
theorem Dk.fresh(x:Dk P w H h)(e:h.objs.size<=a):H a=none:=by
 cases q:H a with
 |none=>rfl
 |some u=>exact qG (Xn (x.lt q) e) (X8 _)
theorem Dk.kept(x:Dk P w H h)(k:∀b u,h.get? b=some u->h'.get? b=some u):Dk P w H h':=λa o e =>
 (x a o e).stay (λb u _ q=>k b u q) (λ_ q=>q) λ_ _ q=>q
theorem Dk.laid(x:Dk P w H h)(k:∀b u,h.get? b=some u->h'.get? b=some u)(hp:h.objs.size<=a)(new:Ag P w (AT H a o) h' a o):Dk P w (AT H a o) h':=λb u e=>by
 have hn:=x.fresh hp
 by_cases hb:b=a
 ·subst hb;rw[AE]at e;cases e;exact new
 ·rw[AJ hb]at e;exact (x b u e).stay (λc v _ q=>k c v q) (λc q=>by rw[AJ (BE q hn)];exact q) λc xs q=>by rw[AJ (BE q hn)];exact q
end
def Rd(H:Hp)(a:qR)(u:HO):Prop:=H a=some u\/∃o,H a=some (.frz o u)
theorem Rd.ok{P:qT}{w:qU}{h:Heap}{u:HO}(r:Rd H a u)(x:Dk P w H h):Ag P w H h a u:=by
 rcases r with r|⟨o,r⟩
 ·exact x a u r
 ·obtain⟨_,q⟩:=x a _ r;exact q
noncomputable def Uq:Option HO->Prop
 |some (.lst _)=>True
 |some (.dK _)=>True
 |some (.dT _)=>True
 |some (.set _ _)=>True
 |some (.ins _ _ _)=>True
 |some (.ext _)=>True
 |_=>False
section
variable{P:qT}{w:qU}{h h':Heap}{x e:qR}{o':HO}
theorem Dk.write(ok:Dk P w H h)(mu:Uq (H x))(he:e=x\/H e=some (.own x))(k:∀b u,b≠e->h.get? b=some u->h'.get? b=some u)(heo:∃u,h'.get? e=some u)
  (new:Ag P w (AT H x o') h' x o'):Dk P w (AT H x o') h':=λb u q=>by
 have nown:∀c y,H c=some (.own y)->c≠x:=λc y r z=>by subst z;rw[r]at mu;exact mu
 have ntup:∀c xs,H c=some (.tup xs)->c≠x:=λc xs r z=>by subst z;rw[r]at mu;exact mu
 by_cases hb:b=x
 ·subst hb;rw[AE]at q;cases q;exact new
 ·rw[AJ hb]at q
  by_cases hbe:b=e
  ·have q':H b=some (.own x):=by
    rcases he with z|z
    ·exact qG (hbe.trans z) hb
    ·rw[hbe];exact z
   rw[q]at q';cases q';obtain⟨v,hv⟩:=heo;exact⟨v,by rw[hbe];exact hv⟩
  ·refine (ok b u q).stay (λc v hc r=>k c v ?_ r) (λc r=>by rw[AJ (nown c b r)];exact r) λc xs r=>by rw[AJ (ntup c xs r)];exact r
   rcases hc with rfl|hc
   ·exact hbe
   ·rintro rfl;rcases he with z|z
    ·exact nown c b hc z
    ·rw[hc]at z;cases z;exact hb rfl
end
structure Un(fs ex:List qR)(H H':Hp)(h h':Heap):Prop where
 keep:∀b o,h.get? b=some o->H b=none->b∉fs->b∉ex->h'.get? b=some o
 slot:∀b o,h.get? b=some o->H b=none->b∈fs->b∉ex->∃sl,h'.get? b=some {o with slots:=sl}
 free:∀b o,h.get? b=some o->H b=none->b∉ex->H' b=none
 there:∀b o,h.get? b=some o->b∉ex->∃o',h'.get? b=some o'
 tups:∀b xs,H b=some (.tup xs)->H' b=some (.tup xs)
 frzs:∀b o u,H b=some (.frz o u)->H' b=some (.frz o u)
 tbls:∀b ps,H b=some (.tbl ps)->∃more,H' b=some (.tbl (ps++more))
section
variable{fs fs' ex ex':List qR}{H1 H2:Hp}{h h1 h2 h':Heap}{x e:qR}{o:HO}
theorem Un.any(u:Un fs ex H H1 h h1){b:qR}{ob:Obj}(q:h.get? b=some ob)(n:H b=none)(hx:b∉ex):∃sl,h1.get? b=some {ob with slots:=sl}:=by
 by_cases hb:b∈fs
 ·exact u.slot b ob q n hb hx
 ·exact⟨ob.slots,u.keep b ob q n hb hx⟩
theorem Un.kept(k:∀b u,h.get? b=some u->h'.get? b=some u):Un fs ex H H h h':=
 ⟨λb ob q _ _ _=>k b ob q,λb ob q _ _ _=>⟨ob.slots,k b ob q⟩,λ_ _ _ n _=>n,λb ob q _=>⟨ob,k b ob q⟩,λ_ _ q=>q,λ_ _ _ q=>q,λ_ ps q=>⟨#[],by rw[q];simp⟩⟩
theorem Un.refl:Un fs ex H H h h:=Un.kept λ_ _ q=>q
theorem Un.laid(k:∀b u,h.get? b=some u->h'.get? b=some u)(hp:h.objs.size<=a)(hn:H a=none):Un fs ex H (AT H a o) h h' where
 keep:=λb u q _ _ _=>k b u q
 slot:=λb u q _ _ _=>⟨u.slots,k b u q⟩
 free:=λb u q n _=>by rw[AJ (YA (Xn (Xm q) hp))];exact n
 there:=λb u q _=>⟨u,k b u q⟩
 tups:=λb xs q=>by rw[AJ (BE q hn)];exact q
 frzs:=λb u xs q=>by rw[AJ (BE q hn)];exact q
 tbls:=λb ps q=>⟨#[],by rw[AJ (BE q hn),q];simp⟩
theorem Un.write(mu:Uq (H x))(he:e=x\/H e=some (.own x))(k:∀b u,b≠e->h.get? b=some u->h'.get? b=some u)(heo:∃u,h'.get? e=some u):Un fs ex H (AT H x o) h h':=by
 have hx:∀b,H b=none->b≠x:=λb n z=>by subst z;rw[n]at mu;exact mu
 have hb:∀b,H b=none->b≠e:=λb n z=>by
  subst z;rcases he with r|r
  ·exact hx b n r
  ·rw[n]at r;cases r
 have hm:∀b u,H b=some u->¬Uq (some u)->b≠x:=λb u q nm z=>by subst z;rw[q]at mu;exact nm mu
 refine⟨λb u q n _ _=>k b u (hb b n) q,λb u q n _ _=>⟨u.slots,k b u (hb b n) q⟩,λb u q n _=>by rw[AJ (hx b n)];exact n,λb u q _=>?_,
  λb xs q=>by rw[AJ (hm b _ q λz=>z)];exact q,λb u xs q=>by rw[AJ (hm b _ q λz=>z)];exact q,λb ps q=>⟨#[],by rw[AJ (hm b _ q λz=>z),q];simp⟩⟩
 by_cases hbe:b=e
 ·subst hbe;exact heo
 ·exact⟨u,k b u hbe q⟩
end
noncomputable def trk(h:Heap)(H:Hp):List qR:=(List.range h.objs.size).filter λa=>(H a).isSome
noncomputable def IA(h:Heap)(H:Hp):Heap:=PySem.W.hideAll h (trk h H)
theorem M9(h:Heap)(H:Hp):(IA h H).objs.size=h.objs.size:=PySem.W.hideAll_size _ _
variable{o:Obj}
theorem N4{h:Heap}{b:qR}(e:h.get? b=some o)(n:H b=none):(IA h H).get? b=some o:=
 Zj _ e λhm=>by have q:(H b).isSome=true:=(YB.mp hm).2;rw[n]at q;simp at q
theorem QS{h:Heap}{b:qR}(e:(IA h H).get? b=some o):h.get? b=some o/\H b=none:=by
 have e':h.get? b=some o:=PySem.W.of_hideAll (trk h H) e;refine⟨e',?_⟩;cases q:H b with
 |none=>rfl
 |some x =>
  have hm:b∈trk h H:=List.mem_filter.mpr ⟨List.mem_range.mpr (Heap.lt_size e'),by simp[q]⟩;have z:(IA h H).get? b=none:=PySem.W.hideAll_none (trk h H) hm;rw[z]at e;cases e
structure WU(K:qV)(mg:Str->Option qQ)(base:Heap):Prop where
 kin:K.In base
 glob:base.Ns mainGlobals mg
 blt:∃mb,base.Ns builtinsNs mb/\∀x:Str,x≠"__name__"->mb x=bootBuiltins x
 nolimit:base.NoLimit
structure Cx where
 prog:qT
 w:qU
 K:qV
 mg:Str->Option qQ
 base:Heap
 A:Around
 N:List Str
 s₀:qS
 H₀:Hp
 env:Env
 outer:List Env
 stack:List Env
 ex:List qR
 fn:Str->Bool
 calm:Bool
 pn:List (qR×Obj)
 xe:qQ->qS->Prop
def Dq(l:List Env):List qR:=l.filterMap (·.frame)
abbrev Cx.fs(X:Cx):List qR:=Dq X.outer
def We(sc:Scope)(x:Str):Prop:=sc.names.lookup x=some .local\/sc.names.lookup x=some .cell\/sc.names.lookup x=some .free
def Rj(sc:Scope)(x:Str):Prop:=sc.names.lookup x=some .local\/sc.names.lookup x=some .cell
def Wf(env:Env)(h:Heap)(m:Str->Option qQ)(x:Str)(u:qQ):Prop:=
 (env.kindOf x=some .local/\m x=some u)\/((env.kindOf x=some .cell\/env.kindOf x=some .free)/\∃c,env.cells.lookup x=some c/\h.IsCell c (some u))
structure Cx.Ok(X:Cx):Prop where
 mod:WU X.K X.mg X.base
 kind:X.env.scope.kind=.function
 glob:X.env.globals=mainGlobals
 blt:X.env.builtins=builtinsNs
 above:X.s₀.heap.objs.size<=X.env.locals
 inj:∀x y c,X.env.cells.lookup x=some c->X.env.cells.lookup y=some c->x=y
 has:∀x,(X.env.kindOf x=some .cell\/X.env.kindOf x=some .free)->∃c,X.env.cells.lookup x=some c
 cab:∀x c,X.fn x=true->X.env.cells.lookup x=some c->X.s₀.heap.objs.size<=c
 hd:X.calm=true->X.A.handled=none
 frames:X.A.frames=some X.stack
 stk:X.stack=X.outer\/(X.stack=X.env::X.outer/\X.env.frame=some X.env.locals)
 exf:∀b∈X.ex,b≠X.env.locals/\∀x c,X.env.cells.lookup x=some c->c≠b
 bs:∀b o,X.base.get? b=some o->X.s₀.heap.get? b=some o/\X.H₀ b=none
 bsz:X.base.objs.size<=X.s₀.heap.objs.size
 noex:∀b o,X.base.get? b=some o->b∉X.ex
 exfs:∀b∈X.ex,b∉X.fs
 funs:X.s₀.heap.FunFrames X.base X.outer
 frf:∀b∈X.fs,X.H₀ b=none
structure AR(X:Cx)(a6:List (qR×Obj))(σ:List (Option V))(H:Hp)(s:qS):Prop where
 ok:X.Ok
 os:s.os=X.s₀.os
 bare:AllBare s.gens
 base:Un X.fs X.ex X.H₀ H X.s₀.heap s.heap
 loc:∃m,s.heap.Ns X.env.locals m/\∀(i:Nat) (x:Str) (v:V),X.N[i]?=some x->σ[i]?=some (some v)->We X.env.scope x->∃u,A4 v u/\Wf X.env s.heap m x u
 cell:∀x c,X.env.cells.lookup x=some c->∃v,s.heap.IsCell c v
 free:H X.env.locals=none
 freeC:∀x c,X.env.cells.lookup x=some c->H c=none
 pin:∀p∈X.pn++a6,s.heap.get? p.1=some p.2/\H p.1=none/\p.1≠X.env.locals/\p.1∉X.fs/\∀v,p.2.data≠.cell v
 hok:Dk X.prog X.w H s.heap
 len:σ.length=X.N.length
variable{u:qQ}{t' j:Nat}{it:qR}{x:Str}{s':qS}
section
variable{X:Cx}{a6:List (qR×Obj)}{σ:List (Option V)}{H':Hp}{s:qS}{h':Heap}
theorem Cx.Ok.nofr(ok:X.Ok){b:qR}(e:X.base.get? b=some o):b∉X.fs:=λhb=>by have:=(ok.funs.mem hb).1;rw[e]at this;cases this
theorem AR.bs(I:AR X a6 σ H s):∀b o,X.base.get? b=some o->s.heap.get? b=some o/\H b=none:=λb o e =>
 ⟨I.base.keep b o (I.ok.bs b o e).1 (I.ok.bs b o e).2 (I.ok.nofr e) (I.ok.noex b o e),I.base.free b o (I.ok.bs b o e).1 (I.ok.bs b o e).2 (I.ok.noex b o e)⟩
theorem AR.bk(I:AR X a6 σ H s):∀b o,X.base.get? b=some o->s.heap.get? b=some o:=λb o e=>(I.bs b o e).1
theorem AR.mod(I:AR X a6 σ H s):WU X.K X.mg X.base:=I.ok.mod
theorem AR.kIn(I:AR X a6 σ H s):X.K.In s.heap:=I.ok.mod.kin.keeps I.bk
theorem AR.lt(I:AR X a6 σ H s):X.env.locals<s.heap.objs.size:=let ⟨_,hn,_⟩:=I.loc;hn.lt
theorem AR.sz(I:AR X a6 σ H s):X.s₀.heap.objs.size<=s.heap.objs.size:=YG I.ok.above (Y9 I.lt)
theorem AR.nofs(I:AR X a6 σ H s)(h:s.heap.objs.size<=a):a∉X.fs:=λhb=>by obtain⟨_,o,ho,_⟩:=I.ok.funs.mem hb;exact qG (Xn (Xm ho) (YG I.sz h)) (X8 _)
theorem AR.cne(I:AR X a6 σ H s):∀x c,X.env.cells.lookup x=some c->c≠X.env.locals:=λx c e z=>by obtain⟨v,o,ho,hd⟩:=I.cell x c e;obtain⟨m,⟨o',es,ep,ho',hd',_⟩,_⟩:=I.loc;rw[z,ho']at ho;cases ho;rw[hd']at hd;cases hd
theorem AR.funs(I:AR X a6 σ H s):s.heap.FunFrames X.base X.outer:=by
 have all:∀(l:List Env),(∀b∈Dq l,b∈X.fs)->X.s₀.heap.FunFrames X.base l->s.heap.FunFrames X.base l:=by
  intro l
  induction l with
  |nil=>intro _ _;trivial
  |cons env r ih =>
   intro hs hl;refine byG λGq hGq=>?_;obtain⟨hk,⟨L,o,hf,hn,ho,hd⟩,hr⟩:=hl;refine hGq ?_;clear hGq Gq;have hL:L∈X.fs:=hs L (by unfold Dq;rw[List.filterMap_cons,hf];exact List.mem_cons_self);obtain⟨sl,e⟩:=I.base.slot L o ho (I.ok.frf L hL) hL λz=>I.ok.exfs L z hL
   exact⟨hk,⟨L,_,hf,hn,e,hd⟩,ih (λb hb=>hs b (by unfold Dq;rw[List.filterMap_cons,hf];exact List.mem_cons_of_mem _ hb)) hr⟩
 exact all X.outer (λ_ hb=>hb) I.ok.funs
theorem AR.stack(I:AR X a6 σ H s):s.heap.FunFrames X.base X.stack:=by
 rcases I.ok.stk with e|⟨e,hf⟩
 ·rw[e];exact I.funs
 ·rw[e];obtain⟨m,hn,_⟩:=I.loc;refine .cons (by rw[I.ok.kind];decide) hf hn ?_ I.funs;exact Heap.get?_none_of_le (YG I.ok.bsz I.ok.above)
theorem AR.stkSub(I:AR X a6 σ H s):∀b∈Dq X.stack,b∈X.env.locals::X.fs:=λb hb=>by
 rcases I.ok.stk with e|⟨e,hf⟩
 ·rw[e]at hb;exact Xw _ hb
 ·rw[e]at hb;unfold Dq at hb;rw[List.filterMap_cons,hf]at hb;exact hb
theorem AR.stkFree(I:AR X a6 σ H s):∀b∈Dq X.stack,H b=none:=λb hb=>by
 rcases X3.mp (I.stkSub b hb) with e|hb
 ·rw[e];exact I.free
 ·obtain⟨_,o,ho,_⟩:=I.ok.funs.mem hb;exact I.base.free b o ho (I.ok.frf b hb) λz=>I.ok.exfs b z hb
theorem AR.step{g':Array GenState}{t':Nat}{d':Drawn}{ch:List qR}(I:AR X a6 σ H s)
  (hch:∀b∈ch,(b∈X.ex\/X.s₀.heap.objs.size<=b)/\b≠X.env.locals/\(∀x c,X.env.cells.lookup x=some c->c≠b)/\∀p∈X.pn++a6,p.1≠b)
  (keep:∀b o,b≠X.env.locals->b∉X.fs->b∉ch->s.heap.get? b=some o->H b=none->h'.get? b=some o)
  (slot:∀b o,b≠X.env.locals->b∈X.fs->b∉ch->s.heap.get? b=some o->H b=none->∃sl,h'.get? b=some {o with slots:=sl}) (free:∀b o,b∉ch->s.heap.get? b=some o->H b=none->H' b=none)
  (there:∀b o,b∉ch->s.heap.get? b=some o->∃o',h'.get? b=some o')
  (tups:∀b xs,H b=some (.tup xs)->H' b=some (.tup xs)) (frzs:∀b o u,H b=some (.frz o u)->H' b=some (.frz o u)) (tbls:∀b ps,H b=some (.tbl ps)->∃more,H' b=some (.tbl (ps++more)))
  (ns:∀m,s.heap.Ns X.env.locals m->h'.Ns X.env.locals m) (hok:Dk X.prog X.w H' h') (hg:AllBare g'):
  AR X a6 σ H' {s with heap:=h',gens:=g',drawn:=d',toks:=t'}:=by
 have neL:∀b o,X.s₀.heap.get? b=some o->b≠X.env.locals:=λb o e=>YA (Xn (Xm e) I.ok.above)
 have neC:∀b o,X.s₀.heap.get? b=some o->b∉X.ex->b∉ch:=λb o e hx hb=>by
  rcases (hch b hb).1 with z|z
  ·exact hx z
  ·exact qG (Xn (Xm e) z) (X8 _)
 have cellK:∀x c,X.env.cells.lookup x=some c->∀v,s.heap.IsCell c v->h'.IsCell c v:=λx c e v ⟨o,ho,hd⟩=>by
  have nch:c∉ch:=λz=>(hch c z).2.2.1 x c e rfl
  by_cases hc:c∈X.fs
  ·obtain⟨sl,q⟩:=slot c o (I.cne x c e) hc nch ho (I.freeC x c e);exact⟨_,q,hd⟩
  ·exact⟨o,keep c o (I.cne x c e) hc nch ho (I.freeC x c e),hd⟩
 refine⟨I.ok,I.os,hg,⟨λb o e n hb hx=>?_,λb o e n hb hx=>?_,λb o e n hx=>?_,λb o e hx=>?_,λb xs e=>tups b xs (I.base.tups b xs e),λb o xs e=>frzs b o xs (I.base.frzs b o xs e),λb ps e=>?_⟩,?_,λx c e=>?_,?_,λx c e=>?_,λp hp=>?_,hok,I.len⟩
 ·exact keep b o (neL b o e) hb (neC b o e hx) (I.base.keep b o e n hb hx) (I.base.free b o e n hx)
 ·obtain⟨sl,e1⟩:=I.base.slot b o e n hb hx;obtain⟨sl',e2⟩:=slot b _ (neL b o e) hb (neC b o e hx) e1 (I.base.free b o e n hx);exact⟨sl',e2⟩
 ·obtain⟨o',e1⟩:=I.base.there b o e hx;exact free b o' (neC b o e hx) e1 (I.base.free b o e n hx)
 ·obtain⟨o',e1⟩:=I.base.there b o e hx;exact there b o' (neC b o e hx) e1
 ·obtain⟨m1,e1⟩:=I.base.tbls b ps e;obtain⟨m2,e2⟩:=tbls b _ e1;exact⟨m1++m2,by rw[e2,Array.append_assoc]⟩
 ·obtain⟨m,hn,hl⟩:=I.loc;refine⟨m,ns m hn,λi x v e1 e2 e3=>?_⟩;obtain⟨u,r,l⟩:=hl i x v e1 e2 e3;refine⟨u,r,?_⟩;rcases l with l|⟨k,c,e,z⟩
  ·exact .inl l
  ·exact .inr ⟨k,c,e,cellK x c e _ z⟩
 ·obtain⟨v,z⟩:=I.cell x c e;exact⟨v,cellK x c e v z⟩
 ·obtain⟨m,⟨o,_,_,ho,_⟩,_⟩:=I.loc;exact free _ o (λz=>(hch _ z).2.1 rfl) ho I.free
 ·obtain⟨v,o,ho,hd⟩:=I.cell x c e;exact free c o (λz=>(hch c z).2.2.1 x c e rfl) ho (I.freeC x c e)
 ·obtain⟨e,n,ne,nf,d⟩:=I.pin p hp;have nch:p.1∉ch:=λz=>(hch p.1 z).2.2.2 p hp rfl
  exact⟨keep p.1 p.2 ne nf nch e n,free p.1 p.2 nch e n,ne,nf,d⟩
theorem AR.un(I:AR X a6 σ H s)(u:Un X.fs [] H H' s.heap h')(hok:Dk X.prog X.w H' h'):AR X a6 σ H' {s with heap:=h',toks:=t'}:=by
 obtain⟨m,⟨o,es,ep,ho,r⟩,_⟩:=id I.loc;obtain⟨sl,hL⟩:=u.any ho I.free (by simp)
 exact I.step (g':=s.gens) (d':=s.drawn) (ch:=[]) (λ_ z=>nomatch z) (λb o _ hb _ e n=>u.keep b o e n hb (by simp)) (λb o _ hb _ e n=>u.slot b o e n hb (by simp)) (λb o _ e n=>u.free b o e n (by simp)) (λb o _ e=>u.there b o e (by simp)) u.tups u.frzs u.tbls (λm' hm=>by obtain⟨o',es',ep',ho',r'⟩:=hm;rw[ho]at ho';cases ho';exact⟨_,es',ep',hL,r'⟩) hok I.bare
theorem AR.call{g':Array GenState}{d':Drawn}{ch:List qR}(I:AR X a6 σ H s)(u:Un (Dq X.stack) ch H H' s.heap h')(hok:Dk X.prog X.w H' h')(hg:AllBare g')
  (hch:∀b∈ch,(b∈X.ex\/X.s₀.heap.objs.size<=b)/\b≠X.env.locals/\(∀x c,X.env.cells.lookup x=some c->c≠b)/\∀p∈X.pn++a6,p.1≠b):
  AR X a6 σ H' {s with heap:=h',gens:=g',drawn:=d',toks:=t'}:=by
 obtain⟨m,⟨o,es,ep,ho,r⟩,_⟩:=id I.loc;obtain⟨sl,hL⟩:=u.any ho I.free λz=>(hch _ z).2.1 rfl
 exact I.step (ch:=ch) hch (λb o hL hb hc e n=>u.keep b o e n (λz=>(X3.mp (I.stkSub b z)).elim hL hb) hc) (λb o _ _ hc e n=>u.any e n hc) (λb o hc e n=>u.free b o e n hc) (λb o hc e=>u.there b o e hc) u.tups u.frzs u.tbls (λm' hm=>by obtain⟨o',es',ep',ho',r'⟩:=hm;rw[ho]at ho';cases ho';exact⟨_,es',ep',hL,r'⟩) hok hg
theorem AR.turned(I:AR X a6 σ H s)(k:∀b o,b≠it->s.heap.get? b=some o->h'.get? b=some o)(hn:H it=none)(hL:it≠X.env.locals)
  (h1:it∈X.ex\/X.s₀.heap.objs.size<=it) (h2:∀x c,X.env.cells.lookup x=some c->c≠it) (h3:∀p∈X.pn++a6,p.1≠it):AR X a6 σ H {s with heap:=h',toks:=t'}:=by
 have nit:∀b u,H b=some u->b≠it:=λb u e z=>by rw[z,hn]at e;cases e
 refine I.step (g':=s.gens) (d':=s.drawn) (ch:=[it]) (λb hb=>?_) (λb o _ _ hc e _=>k b o (λz=>hc (by simp[z])) e) (λb o _ _ hc e _=>⟨o.slots,k b o (λz=>hc (by simp[z])) e⟩) (λ_ _ _ _ n=>n)
  (λb o hc e=>⟨o,k b o (λz=>hc (by simp[z])) e⟩) (λ_ _ e=>e) (λ_ _ _ e=>e) (λb ps e=>⟨#[],by rw[e];simp⟩) (λm hm=>?_) (λb u e=>?_) I.bare
 ·have e:b=it:=by simpa using hb
  subst e;exact⟨h1,hL,h2,h3⟩
 ·obtain⟨o,es,ep,ho,r⟩:=hm;exact⟨o,es,ep,k _ o (Ne.symm hL) ho,r⟩
 ·refine (I.hok b u e).stay (λc v hc q=>k c v ?_ q) (λ_ q=>q) λ_ _ q=>q
  rcases hc with z|z
  ·rw[z];exact nit b u e
  ·exact nit c _ z
theorem AR.tok(I:AR X a6 σ H s)(t:Nat):AR X a6 σ H {s with toks:=t}:=I.un (h':=s.heap) (t':=t) Un.refl I.hok
theorem AR.kept(I:AR X a6 σ H s)(k:∀b u,s.heap.get? b=some u->h'.get? b=some u):AR X a6 σ H {s with heap:=h',toks:=t'}:=I.un (Un.kept k) (I.hok.kept k)
theorem AR.laid{o:HO}(I:AR X a6 σ H s)(k:∀b u,s.heap.get? b=some u->h'.get? b=some u)(hp:s.heap.objs.size<=a)(new:Ag X.prog X.w (AT H a o) h' a o):
  AR X a6 σ (AT H a o) {s with heap:=h',toks:=t'}:=I.un (Un.laid k hp (I.hok.fresh hp)) (I.hok.laid k hp new)
theorem AR.write{x e:qR}{o:HO}(I:AR X a6 σ H s)(mu:Uq (H x))(he:e=x\/H e=some (.own x))(k:∀b u,b≠e->s.heap.get? b=some u->h'.get? b=some u)(heo:∃u,h'.get? e=some u)
  (new:Ag X.prog X.w (AT H x o) h' x o):AR X a6 σ (AT H x o) {s with heap:=h',toks:=t'}:=I.un (Un.write mu he k heo) (I.hok.write mu he k heo new)
theorem AR.pins_of{pins':List (qR×Obj)}(I:AR X a6 σ H s)(h:∀p∈pins',s.heap.get? p.1=some p.2/\H p.1=none/\p.1≠X.env.locals/\p.1∉X.fs/\∀v,p.2.data≠.cell v):AR X pins' σ H s:=
 ⟨I.ok,I.os,I.bare,I.base,I.loc,I.cell,I.free,I.freeC,λp hp=>(Xr.mp hp).elim (λz=>I.pin p (Yw _ z)) (h p),I.hok,I.len⟩
theorem Gf{N:List Str}(hN:N.Nodup){i:Nat}(a:N[i]?=some x)(b:N[j]?=some x):i=j:=by obtain⟨h1,e1⟩:=Xg.mp a;obtain⟨h2,e2⟩:=Xg.mp b;exact (ZE hN).mp (e1.trans e2.symm)
theorem IJ{M:Model}{A:Around}{E:qQ->qS->Prop}{i:Nat}{v:V}{Q:Unit->qS->Prop}(I:AR X a6 σ H s)(hN:X.N.Nodup)(hi:X.N[i]?=some x)(hx:Rj X.env.scope x)(r:A4 v u)
  (h:∀s',AR X a6 (σ.set i (some v)) H s'->(∃a,Heap.SameBut a s.heap s'.heap/\(a=X.env.locals\/X.env.cells.lookup x=some a))->Q () s') (hf:X.fn x=true\/X.env.scope.names.lookup x=some .local:=by first|exact .inl rfl|exact .inr rfl|assumption):wpAny M A (storeName X.env x u) Q E s:=by
 obtain⟨m,hn,hl⟩:=id I.loc;have hcls:(X.env.scope.kind==.class||(X.env.scope.kind==.module&&X.env.locals != X.env.globals))=false:=by rw[I.ok.kind];rfl
 have hiσ:i<σ.length:=by rw[I.len];exact (Xg.mp hi).1
 have cne:=I.cne
 have tracked:∀{a:qR} {h':Heap},(∃o,s.heap.get? a=some o/\H a=none)->Heap.SameBut a s.heap h'->Dk X.prog X.w H h':=λ{a h'} ha hs b ob e=>by
  obtain⟨_,_,hfree⟩:=ha;refine (I.hok b ob e).stay (λc w' hc q=>(hs.2 c ?_).trans q) (λ_ q=>q) λ_ _ q=>q
  rintro rfl;rcases hc with rfl|hc
  ·rw[hfree]at e;cases e
  ·rw[hfree]at hc;cases hc
 rcases hx with hk|hk
 ·refine wpAny_storeName_local hk hn (λh' hn' hs=>?_) hcls;refine byG λGq hGq=>?_;obtain⟨oL,_,_,hoL,_⟩:=id hn;refine hGq ?_;clear hGq Gq;refine h _ ⟨I.ok,I.os,I.bare,⟨λb o e n hb hx=>?_,λb o e n hb hx=>?_,I.base.free,λb o e hx=>?_,I.base.tups,I.base.frzs,I.base.tbls⟩,⟨_,hn',λj y v' e1 e2 e3=>?_⟩,λy c e=>?_,I.free,I.freeC,λp hp=>?_,tracked ⟨oL,hoL,I.free⟩ hs,by simpa using I.len⟩ ⟨_,hs,.inl rfl⟩
  ·exact (hs.2 b (YA (Xn (Xm e) I.ok.above))).trans (I.base.keep b o e n hb hx)
  ·obtain⟨sl,e1⟩:=I.base.slot b o e n hb hx;exact⟨sl,(hs.2 b (YA (Xn (Xm e) I.ok.above))).trans e1⟩
  ·obtain⟨o',e1⟩:=I.base.there b o e hx;exact⟨o',(hs.2 b (YA (Xn (Xm e) I.ok.above))).trans e1⟩
  ·by_cases hj:j=i
   ·subst hj;rw[hi]at e1;cases e1;rw[Zt hiσ]at e2;cases e2;exact⟨u,r,.inl ⟨hk,by simp⟩⟩
   ·rw[Z4 (Ne.symm hj)]at e2;obtain⟨u',r',q⟩:=hl j y v' e1 e2 e3;refine⟨u',r',?_⟩;rcases q with⟨k,e⟩|⟨k,c,e,z⟩
    ·refine .inl ⟨k,?_⟩;have:y≠x:=λe=>hj (Gf hN e1 (e▸hi))
     simp[this,e]
    ·exact .inr ⟨k,c,e,z.sameBut hs (cne y c e)⟩
  ·obtain⟨w',z⟩:=I.cell y c e;exact⟨w',z.sameBut hs (cne y c e)⟩
  ·refine byG λGq hGq=>?_;obtain⟨e,n,ne,nf,d⟩:=I.pin p hp;refine hGq ?_;clear hGq Gq;exact⟨(hs.2 p.1 ne).trans e,n,ne,nf,d⟩
 ·have hfn:X.fn x=true:=by
   rcases hf with z|z
   ·exact z
   ·rw[z]at hk;cases hk
  obtain⟨c,hc⟩:=I.ok.has x (.inl hk);obtain⟨w',z⟩:=I.cell x c hc;refine wpAny_storeName_cell I.ok.kind hk hc z (λh' hc' hs=>?_);obtain⟨oc,hoc,hocd⟩:=id z;refine h {s with heap:=h'} ⟨I.ok,I.os,I.bare,⟨λb o e n hb hx=>?_,λb o e n hb hx=>?_,I.base.free,λb o e hx=>?_,I.base.tups,I.base.frzs,I.base.tbls⟩,⟨m,hn.sameBut hs (Ne.symm (cne x c hc)),λj y v' e1 e2 e3=>?_⟩,λy c' e=>?_,I.free,I.freeC,λp hp=>?_,tracked ⟨oc,hoc,I.freeC x c hc⟩ hs,by simpa using I.len⟩ ⟨c,hs,.inr hc⟩
  ·exact (hs.2 b (YA (Xn (Xm e) (I.ok.cab x c hfn hc)))).trans (I.base.keep b o e n hb hx)
  ·obtain⟨sl,e1⟩:=I.base.slot b o e n hb hx;exact⟨sl,(hs.2 b (YA (Xn (Xm e) (I.ok.cab x c hfn hc)))).trans e1⟩
  ·obtain⟨o',e1⟩:=I.base.there b o e hx;exact⟨o',(hs.2 b (YA (Xn (Xm e) (I.ok.cab x c hfn hc)))).trans e1⟩
  ·by_cases hj:j=i
   ·subst hj;rw[hi]at e1;cases e1;rw[Zt hiσ]at e2;cases e2;exact⟨u,r,.inr ⟨.inl hk,c,hc,hc'⟩⟩
   ·rw[Z4 (Ne.symm hj)]at e2;obtain⟨u',r',q⟩:=hl j y v' e1 e2 e3;refine⟨u',r',?_⟩;rcases q with q|⟨k,c',e,z'⟩
    ·exact .inl q
    ·refine .inr ⟨k,c',e,z'.sameBut hs ?_⟩;rintro rfl;exact hj (Gf hN e1 (I.ok.inj _ _ _ e hc▸hi))
  ·by_cases hcc:c'=c
   ·subst hcc;exact⟨_,hc'⟩
   ·obtain⟨w2,z2⟩:=I.cell y c' e;exact⟨w2,z2.sameBut hs hcc⟩
  ·refine byG λGq hGq=>?_;obtain⟨e,n,ne,nf,d⟩:=I.pin p hp;refine hGq ?_;clear hGq Gq;refine⟨(hs.2 p.1 ?_).trans e,n,ne,nf,d⟩;intro q;rw[q,hoc]at e;have q':oc=p.2:=Option.some.inj e;exact d w' (by rw[<-q'];exact hocd)
theorem Gg{M:Model}{A:Around}{E:qQ->qS->Prop}{i:Nat}{v:V}{Q:Unit->qS->Prop}(I:AR X a6 σ H s)(hN:X.N.Nodup)(hi:X.N[i]?=some x)(hx:Rj X.env.scope x)(r:A4 v u)
  (h:∀s',AR X a6 (σ.set i (some v)) H s'->Q () s') (hf:X.fn x=true\/X.env.scope.names.lookup x=some .local:=by first|exact .inl rfl|exact .inr rfl|assumption):wpAny M A (storeName X.env x u) Q E s:=
 IJ I hN hi hx r (λs' I' _=>h s' I') hf
theorem AR.call'{ch:List qR}(I:AR X a6 σ H s)(ho:s'.os=s.os)(u:Un (Dq X.stack) ch H H' s.heap s'.heap)(hok:Dk X.prog X.w H' s'.heap)(hg:AllBare s'.gens)
  (hch:∀b∈ch,(b∈X.ex\/X.s₀.heap.objs.size<=b)/\b≠X.env.locals/\(∀x c,X.env.cells.lookup x=some c->c≠b)/\∀p∈X.pn++a6,p.1≠b):AR X a6 σ H' s':=by
 obtain⟨h',g',d',t',o'⟩:=s';have e:o'=s.os:=ho;subst e;exact I.call (g':=g') (t':=t') (d':=d') u hok hg hch
end
abbrev XK:=qQ->Option qR->Hp->Prop
abbrev St:=List (Option V)
abbrev VK:=V->Hp->Prop
abbrev TE:=St->Hp->VK->Prop
abbrev TT:=St->Hp->(Bool->Hp->Prop)->Prop
abbrev TA:=St->Hp->(List V->Hp->Prop)->Prop
structure Ez where
 nx:St->Hp->Prop
 rt:VK
 bk:St->Hp->Prop:=λ_ _=>False
 ct:St->Hp->Prop:=λ_ _=>False
abbrev TS:=Ez->St->Hp->Prop
def EP(X:Cx)(a6:List (qR×Obj))(σ:St)(Q:VK)(u:qQ)(s':qS):Prop:=∃v H',AR X a6 σ H' s'/\A4 v u/\Q v H'
def TP(X:Cx)(a6:List (qR×Obj))(σ:St)(Q:Bool->Hp->Prop)(b:Bool)(s':qS):Prop:=∃H',AR X a6 σ H' s'/\Q b H'
def AP(X:Cx)(a6:List (qR×Obj))(σ:St)(Q:List V->Hp->Prop)(us:List qQ)(s':qS):Prop:=∃vs H',AR X a6 σ H' s'/\Aq vs us/\Q vs H'
def SP(X:Cx)(a6:List (qR×Obj))(D:Ez)(f:Flow)(s':qS):Prop:=
 match f with
 |.next=>∃σ' H',AR X a6 σ' H' s'/\D.nx σ' H'
 |.brk=>∃σ' H',AR X a6 σ' H' s'/\D.bk σ' H'
 |.cont=>∃σ' H',AR X a6 σ' H' s'/\D.ct σ' H'
 |.ret u=>∃v σ' H',AR X a6 σ' H' s'/\A4 v u/\D.rt v H'
def PE(X:Cx)(e:Expr)(t:TE):Prop:=
 ∀(a6:List (qR×Obj)) (s:qS) (σ:St) (H:Hp) (Q:VK),AR X a6 σ H s->t σ H Q->wpAny (model X.prog X.w) X.A (eval e X.env) (EP X a6 σ Q) X.xe s
def PT(X:Cx)(e:Expr)(t:TT):Prop:=
 ∀(a6:List (qR×Obj)) (s:qS) (σ:St) (H:Hp) (Q:Bool->Hp->Prop),AR X a6 σ H s->t σ H Q->wpAny (model X.prog X.w) X.A (isTrue e X.env (eval e X.env)) (TP X a6 σ Q) X.xe s
def PW(X:Cx)(e:Expr)(t:TT):Prop:=
 ∀(whole:Sem qQ) (a6:List (qR×Obj)) (s:qS) (σ:St) (H:Hp) (Q:Bool->Hp->Prop),AR X a6 σ H s->t σ H Q->wpAny (model X.prog X.w) X.A (isTrue e X.env whole) (TP X a6 σ Q) X.xe s
variable{X:Cx}
theorem PW.pt{e:Expr}{t:TT}(h:PW X e t):PT X e t:=h _
def PA(X:Cx)(es:List Expr)(t:TA):Prop:=
 ∀(pos:Pos) (a6:List (qR×Obj)) (s:qS) (σ:St) (H:Hp) (Q:List V->Hp->Prop),AR X a6 σ H s->t σ H Q->wpAny (model X.prog X.w) X.A (spliced (backTo pos (starEach es X.env))) (AP X a6 σ Q) X.xe s
def PS(X:Cx)(st:Stmt)(t:TS):Prop:=
 ∀(a6:List (qR×Obj)) (s:qS) (σ:St) (H:Hp) (D:Ez),AR X a6 σ H s->t D σ H->wpAny (model X.prog X.w) X.A (exec st X.env) (SP X a6 D) X.xe s
def F6(X:Cx)(st:List Stmt)(t:TS):Prop:=
 ∀(a6:List (qR×Obj)) (s:qS) (σ:St) (H:Hp) (D:Ez),AR X a6 σ H s->t D σ H->wpAny (model X.prog X.w) X.A (execs st X.env) (SP X a6 D) X.xe s
variable{E:qQ->qS->Prop}
theorem BJ{t:Sem α}{Q Q':α->qS->Prop}{M:Model}{A:Around}{s:qS}(h:wpAny M A t Q E s)(hQ:∀a s,Q a s->Q' a s):wpAny M A t Q' E s:=qM h hQ λ_ _ x=>x
variable{Q:qQ->qS->Prop}{a6:List (qR×Obj)}{σ:St}{op:CmpOp}
section
def Sg(i:Nat):TE:=λσ H Q=>∃v,σ[i]?=some (some v)/\Q v H
def tC(v:V):TE:=λ_ H Q=>Q v H
theorem Sh{i:Nat}{pos:Pos}(hN:X.N[i]?=some x)(hv:We X.env.scope x)(hd:(x==("__debug__":Str))=false:=by decide)(hcd:(x==("__classdict__":Str))=false:=by decide):PE X (.Name x pos) (Sg i):=by
 intro a6 s σ H Q I h;obtain⟨v,e,h⟩:=h;obtain⟨m,hn,hl⟩:=I.loc;obtain⟨u,r,l⟩:=hl i x v hN e hv;have fin:EP X a6 σ Q u s:=⟨v,H,I,r,h⟩;rcases l with⟨hk,hm⟩|⟨hk,c,hc,hcell⟩
 ·exact wpAny_Name (wpAny_loadName_local I.ok.kind hk hn hm fin) hd
 ·rcases hk with hk|hk
  ·exact wpAny_Name (wpAny_loadName_cell I.ok.kind hk hc hcell fin) hd
  ·exact wpAny_Name (wpAny_loadName_free I.ok.kind hk hc hcell fin hcd) hd
theorem AC{i j pos}:PE X (.Constant (.int i) j pos) (tC (.int i)):=λ_ _ _ H _ I h=>wpAny_Constant_int ⟨.int i,H,I.tok _,⟨_,rfl⟩,h⟩
theorem Eb{b j pos}:PE X (.Constant (.bool b) j pos) (tC (.bl b)):=λ_ _ _ H _ I h=>Constant_bool ⟨.bl b,H,I,rfl,h⟩
theorem Cj{j pos}:PE X (.Constant .none j pos) (tC .non):=λ_ _ _ H _ I h=>Constant_none ⟨.non,H,I,rfl,h⟩
theorem Im{x j pos}:PE X (.Constant (.str x) j pos) (tC (.str x)):=λ_ _ _ H _ I h=>Calls.Constant_str ⟨.str x,H,I.tok _,⟨_,rfl⟩,h⟩
def Gl(X:Cx)(x:Str):Prop:=X.env.kindOf x=some .globalImplicit
theorem GM{E:qQ->qS->Prop}{s:qS}{pos:Pos}(I:AR X a6 σ H s)(hg:Gl X x)(hm:X.mg x=some u)(h:Q u s)
  (hd:(x==("__debug__":Str))=false:=by decide):wpAny (model X.prog X.w) X.A (eval (.Name x pos) X.env) Q E s:=
 Calls.Name_function_global I.ok.kind hg (Calls.loadGlobal_global (by rw[I.ok.glob];exact I.mod.glob.keeps I.bk) hm h) hd
theorem Ck{E:qQ->qS->Prop}{s:qS}{pos:Pos}(I:AR X a6 σ H s)(hg:Gl X x)(hm:X.mg x=none)(hv:bootBuiltins x=some u)(h:Q u s)
  (hn:x≠"__name__":=by decide) (hd:(x==("__debug__":Str))=false:=by decide):wpAny (model X.prog X.w) X.A (eval (.Name x pos) X.env) Q E s:=by
 obtain⟨mb,h1,h2⟩:=I.mod.blt;exact Calls.Name_function_global I.ok.kind hg (Calls.loadGlobal_builtin (by rw[I.ok.glob];exact I.mod.glob.keeps I.bk) hm (by rw[I.ok.blt];exact h1.keeps I.bk) ((h2 x hn).trans hv) h) hd
theorem Lr{v:V}{pos:Pos}(hg:Gl X x)(hm:X.mg x=some u)(r:A4 v u)(hd:(x==("__debug__":Str))=false:=by decide):PE X (.Name x pos) (tC v):=
 λ_ _ _ H _ I h=>GM I hg hm ⟨v,H,I,r,h⟩ hd
theorem QT{v:V}{pos:Pos}(hg:Gl X x)(hm:X.mg x=none)(hv:bootBuiltins x=some u)(r:A4 v u)(hn:x≠"__name__":=by decide)(hd:(x==("__debug__":Str))=false:=by decide):PE X (.Name x pos) (tC v):=
 λ_ _ _ H _ I h=>Ck I hg hm hv ⟨v,H,I,r,h⟩ hn hd
variable{a b:Expr}{ta tb:TE}{pos:Pos}
def PC(X:Cx)(op:CmpOp)(a b:Expr)(t:TE):Prop:=
 ∀(a6:List (qR×Obj)) (s:qS) (σ:St) (H:Hp) (Q:VK),AR X a6 σ H s->t σ H Q ->
  wpAny (model X.prog X.w) X.A (eval a X.env) (λv s₁=>wpAny (model X.prog X.w) X.A (eval b X.env) (λu s₂=>wpAny (model X.prog X.w) X.A (compareOp op v u) (EP X a6 σ Q) X.xe s₂) X.xe s₁) X.xe s
def tB(t:TE):TT:=λσ H Q=>t σ H λx H1=>∃c,x=.bl c/\Q c H1
theorem Si{t:TE}(h:PC X op a b t)(h1:behindInMarks op b=false:=by first|exact nobehind _ (by decide) (by decide)|rfl):PE X (.Compare a [op] [b] pos) t:=λa6 s σ H Q I hw=>wpAny_Compare1 (h a6 s σ H Q I hw) h1
theorem Sj{t:TE}(h:PC X op a b t)(h1:behindInMarks op b=false:=by first|exact nobehind _ (by decide) (by decide)|rfl):PT X (.Compare a [op] [b] pos) (tB t):=by intro a6 s σ H Q I hw;refine wpAny_isTrue_Compare1 (BJ (h a6 s σ H _ I hw) λv s1 h1=>BJ h1 λu s2 h2=>BJ h2 λc s3 z9=>?_) h1;obtain⟨x,H1,I1,r1,q1⟩:=z9;obtain⟨d,rfl,q⟩:=q1;cases r1;exact wpAny_truthy_bool ⟨H1,I1,q⟩
theorem Bb{e:Expr}{t:TE}(h:PE X e t)(he:∀whole,isTrue e X.env whole=(do let v <-whole;standAt e.pos;holding [v] (truthy v)):=by intro _;rfl):PT X e (tB t):=by intro a6 s σ H Q I hw;refine isTrue_plain (BJ (h a6 s σ H _ I hw) λv s1 z9=>?_) (he _);obtain⟨x,H1,I1,r1,q1⟩:=z9;obtain⟨d,rfl,q⟩:=q1;cases r1;exact wpAny_truthy_bool ⟨H1,I1,q⟩
variable{tA tB':TT}{rest:List Expr}
def Ur(t u:TT):TT:=λσ H Q=>t σ H λc H1=>if c=true then u σ H1 Q else Q false H1
def XQ(t u:TT):TT:=λσ H Q=>t σ H λc H1=>if c=true then Q true H1 else u σ H1 Q
def Us(t:TT):TT:=λσ H Q=>t σ H λc H1=>Q (!c) H1
theorem EF(ha:PT X a tA):PW X (.BoolOp .And [a] pos) tA:=by
 intro wh a6 s σ H Q I h;refine isTrue_and (BJ (ha a6 s σ H Q I h) λc s1 e=>?_);cases c with
 |true=>exact isTrue_and_nil e
 |false=>exact e
theorem Cm(ha:PT X a tA):PW X (.BoolOp .Or [a] pos) tA:=by
 intro wh a6 s σ H Q I h;refine isTrue_or (BJ (ha a6 s σ H Q I h) λc s1 e=>?_);cases c with
 |false=>exact isTrue_or_nil e
 |true=>exact e
theorem FY(ha:PT X a tA)(hb:PW X (.BoolOp .And (b::rest) pos) tB'):PW X (.BoolOp .And (a::b::rest) pos) (Ur tA tB'):=by
 intro wh a6 s σ H Q I h;refine isTrue_and (BJ (ha a6 s σ H _ I h) λc s1 z9=>?_);obtain⟨H1,I1,q1⟩:=z9;cases c with
 |true=>exact hb wh a6 s1 σ H1 Q I1 q1
 |false=>exact⟨H1,I1,q1⟩
theorem CI(ha:PT X a tA)(hb:PW X (.BoolOp .Or (b::rest) pos) tB'):PW X (.BoolOp .Or (a::b::rest) pos) (XQ tA tB'):=by
 intro wh a6 s σ H Q I h;refine isTrue_or (BJ (ha a6 s σ H _ I h) λc s1 z9=>?_);obtain⟨H1,I1,q1⟩:=z9;cases c with
 |true=>exact⟨H1,I1,q1⟩
 |false=>exact hb wh a6 s1 σ H1 Q I1 q1
theorem Bp(ha:PT X a tA):PT X (.UnaryOp .Not a pos) (Us tA):=by intro a6 s σ H Q I h;exact isTrue_not (ha a6 s σ H (λc H1=>Q (!c) H1) I h)
def Rk(ta tb:TE):TE:=λσ H Q=>ta σ H λx H1=>∃c,x=.bl c/\if c=true then tb σ H1 Q else Q (.bl false) H1
def Ut(ta tb:TE):TE:=λσ H Q=>ta σ H λx H1=>∃c,x=.bl c/\if c=true then Q (.bl true) H1 else tb σ H1 Q
def Rm(ta:TE):TE:=λσ H Q=>ta σ H λx H1=>∃c,x=.bl c/\Q (.bl (!c)) H1
theorem Ei{op}{t:TE}(h:PE X a t):PE X (.BoolOp op [a] pos) t:=λa6 s σ H Q I hw=>BoolOp_one (h a6 s σ H Q I hw)
theorem Ej(ha:PE X a ta)(hb:PE X (.BoolOp .And (b::rest) pos) tb):PE X (.BoolOp .And (a::b::rest) pos) (Rk ta tb):=by
 intro a6 s σ H Q I h;refine BoolOp_and (BJ (ha a6 s σ H _ I h) λv s1 z9=>?_);obtain⟨x,H1,I1,r1,q1⟩:=z9;obtain⟨c,rfl,q1⟩:=q1;cases r1;refine wpAny_truthy_bool ?_;cases c with
 |true=>exact hb a6 s1 σ H1 Q I1 q1
 |false=>exact⟨.bl false,H1,I1,rfl,q1⟩
theorem Uu(ha:PE X a ta)(hb:PE X (.BoolOp .Or (b::rest) pos) tb):PE X (.BoolOp .Or (a::b::rest) pos) (Ut ta tb):=by
 intro a6 s σ H Q I h;refine BoolOp_or (BJ (ha a6 s σ H _ I h) λv s1 z9=>?_);obtain⟨x,H1,I1,r1,q1⟩:=z9;obtain⟨c,rfl,q1⟩:=q1;cases r1;refine wpAny_truthy_bool ?_;cases c with
 |false=>exact hb a6 s1 σ H1 Q I1 q1
 |true=>exact⟨.bl true,H1,I1,rfl,q1⟩
theorem Io(ha:PE X a ta):PE X (.UnaryOp .Not a pos) (Rm ta):=by intro a6 s σ H Q I h;refine UnaryOp_ (BJ (ha a6 s σ H _ I h) λv s1 z9=>?_);obtain⟨x,H1,I1,r1,q1⟩:=z9;obtain⟨c,rfl,q1⟩:=q1;cases r1;exact not_of (wpAny_truthy_bool ⟨.bl (!c),H1,I1,rfl,q1⟩)
end
def Af(K:qV)(H:Hp)(a:qR)(xs:List V):Prop:=
 Rd H a (.lst xs) \/
  ∃(o:Obj) (its:Array qQ) (n:Nat),K.lookup a=some o/\o.cls=.type "list"/\o.dict=none/\o.data=.seq its n/\its.size<=sizeLine/\Aq xs its.toList
def Aa(K:qV)(H:Hp)(a:qR)(xs:List V):Prop:=
 Rd H a (.tup xs) \/
  ∃(o:Obj) (its:Array qQ) (n:Nat),K.lookup a=some o/\o.cls=.type "tuple"/\o.data=.seq its n/\its.size<=sizeLine/\Aq xs its.toList
noncomputable def QU:qQ->Option V
 |.none=>some .non
 |.bool b=>some (.bl b)
 |.int i _=>some (.int i)
 |.str x _=>some (.str x)
 |.bytes b _=>some (.byt b)
 |.float b _=>some (.flt b)
 |.ref a=>some (.ref a)
 |.type n=>some (.ty n)
 |_=>none
theorem A4.abs{x:V}(r:A4 x u):QU u=some x:=by
 cases x with
 |non=>cases r;rfl
 |bl _=>cases r;rfl
 |int _=>obtain⟨t,rfl⟩:=r;rfl
 |str _=>obtain⟨t,rfl⟩:=r;rfl
 |byt _=>obtain⟨t,rfl⟩:=r;rfl
 |flt _=>obtain⟨t,rfl⟩:=r;rfl
 |ref _=>cases r;rfl
 |ty _=>cases r;rfl
theorem A4.inj{x y:V}(r:A4 x u)(q:A4 y u):x=y:=Option.some.inj (r.abs.symm.trans q.abs)
theorem Aq.inj:∀{xs ys:List V} {us:List qQ},Aq xs us->Aq ys us->xs=ys:=by
 intro _ ys _ h
 induction h generalizing ys with
 |nil=>intro g;cases g;rfl
 |cons r _ ih =>
  intro g;cases g with
  |cons r' t'=>rw[r.inj r',ih t']
section
variable{s:qS}{ys:List V}
theorem Af.of{K:qV}(h:H a=some (.lst xs)):Af K H a xs:=.inl (.inl h)
theorem Aa.of{K:qV}(h:H a=some (.tup xs)):Aa K H a xs:=.inl (.inl h)
theorem AR.list(I:AR X a6 σ H s)(h:Af X.K H a xs):∃its:List qQ,Aq xs its/\PlainL s.heap a its.toArray/\xs.length<=sizeLine:=by
 rcases h with h|⟨o,its,n,hk,hc,hd,hs,hz,r⟩
 ·obtain⟨z,its,n,r,e⟩:=h.ok I.hok;exact⟨its,r,⟨_,n,e,rfl,rfl,rfl⟩,z⟩
 ·refine⟨its.toList,r,⟨o,n,I.kIn a o hk,hc,hd,by simpa using hs⟩,?_⟩;have e:=r.length;simp only[Array.length_toList]at e;lia
theorem AR.tuple(I:AR X a6 σ H s)(h:Aa X.K H a xs):∃its:List qQ,Aq xs its/\IsTup s.heap a its.toArray/\xs.length<=sizeLine:=by
 rcases h with h|⟨o,its,n,hk,hc,hs,hz,r⟩
 ·obtain⟨z,its,r,p⟩:=h.ok I.hok;exact⟨its,r,p,z⟩
 ·refine⟨its.toList,r,⟨o,I.kIn a o hk,hc,n,by simpa using hs⟩,?_⟩;have e:=r.length;simp only[Array.length_toList]at e;lia
theorem AR.list_inj(I:AR X a6 σ H s)(h:Af X.K H a xs)(h':Af X.K H a ys):xs=ys:=by
 obtain⟨its,r,⟨o,n,e,_,_,d⟩,_⟩:=I.list h;obtain⟨its',r',⟨o',n',e',_,_,d'⟩,_⟩:=I.list h';rw[e]at e';cases e';rw[d]at d'
 injection d' with d1 _
 have:its=its':=by simpa using qP Array.toList d1
 subst this;exact r.inj r'
theorem AR.tuple_inj(I:AR X a6 σ H s)(h:Aa X.K H a xs)(h':Aa X.K H a ys):xs=ys:=by
 obtain⟨its,r,⟨o,e,_,n,d⟩,_⟩:=I.tuple h;obtain⟨its',r',⟨o',e',_,n',d'⟩,_⟩:=I.tuple h';rw[e]at e';cases e';rw[d]at d'
 injection d' with d1 _
 have:its=its':=by simpa using qP Array.toList d1
 subst this;exact r.inj r'
end
abbrev Cx.wish(X:Cx)(E:qQ->qS->Prop):Cx:={X with xe:=E}
abbrev Cx.nox(X:Cx):Cx:=X.wish λ_ _=>False
theorem Cx.Ok.wish(ok:X.Ok)(E:qQ->qS->Prop):(X.wish E).Ok:=
 ⟨ok.mod,ok.kind,ok.glob,ok.blt,ok.above,ok.inj,ok.has,ok.cab,ok.hd,ok.frames,ok.stk,ok.exf,ok.bs,ok.bsz,ok.noex,ok.exfs,ok.funs,ok.frf⟩
theorem Cx.Ok.unwish(ok:(X.wish E).Ok):X.Ok:=
 ⟨ok.mod,ok.kind,ok.glob,ok.blt,ok.above,ok.inj,ok.has,ok.cab,ok.hd,ok.frames,ok.stk,ok.exf,ok.bs,ok.bsz,ok.noex,ok.exfs,ok.funs,ok.frf⟩
variable{D:Ez}
section
variable{s:qS}
theorem AR.wish(I:AR X a6 σ H s)(E:qQ->qS->Prop):AR (X.wish E) a6 σ H s:=⟨I.ok.wish E,I.os,I.bare,I.base,I.loc,I.cell,I.free,I.freeC,I.pin,I.hok,I.len⟩
theorem AR.unwish(I:AR (X.wish E) a6 σ H s):AR X a6 σ H s:=⟨I.ok.unwish,I.os,I.bare,I.base,I.loc,I.cell,I.free,I.freeC,I.pin,I.hok,I.len⟩
theorem SP.unwish{f:Flow}(h:SP (X.wish E) a6 D f s'):SP X a6 D f s':=by
 cases f with
 |next=>obtain⟨σ',H',I,q⟩:=h;exact⟨σ',H',I.unwish,q⟩
 |brk=>obtain⟨σ',H',I,q⟩:=h;exact⟨σ',H',I.unwish,q⟩
 |cont=>obtain⟨σ',H',I,q⟩:=h;exact⟨σ',H',I.unwish,q⟩
 |ret u=>obtain⟨v,σ',H',I,r,q⟩:=h;exact⟨v,σ',H',I.unwish,r,q⟩
theorem F6.nox{st:List Stmt}{t:TS}(h:F6 X.nox st t):F6 X st t:=λa6 s σ H D I hw =>
 qM (h a6 s σ H D (I.wish _) hw) (λ_ _ q=>q.unwish) λ_ _ z=>False.elim z
end
variable{c:Expr}{tc:TT}
section
variable{st:Stmt}{rest:List Stmt}{t u:TS}{e:Expr}{te:TE}{pos:Pos}
def N5:TS:=λD σ H=>D.nx σ H
def NA(t u:TS):TS:=λD σ H=>t {D with nx:=u D} σ H
theorem AV:F6 X [] N5:=λ_ _ σ H _ I h=>wpAny_execs_nil ⟨σ,H,I,h⟩
theorem AB(h1:PS X st t)(h2:F6 X rest u):F6 X (st::rest) (NA t u):=by
 intro a6 s σ H D I h;refine wpAny_execs_cons (BJ (h1 a6 s σ H {D with nx:=u D} I h) λf s1 q=>?_);cases f with
 |next =>
  refine byG λGq hGq=>?_;obtain⟨σ',H',I',q⟩:=q;refine hGq ?_;clear hGq Gq;exact h2 a6 s1 σ' H' D I' q
 |ret v=>exact q
 |brk=>exact q
 |cont=>exact q
theorem AF(h1:PS X st t):F6 X [st] t:=by
 intro a6 s σ H D I h;refine wpAny_execs_cons (BJ (h1 a6 s σ H D I h) λf s1 q=>?_);cases f with
 |next=>exact wpAny_execs_nil q
 |ret v=>exact q
 |brk=>exact q
 |cont=>exact q
theorem AR.quiet{s:qS}(I:AR X a6 σ H s):interactive X.env=false:=by simp[interactive,I.ok.kind]
def Rn(te:TE):TS:=λD σ H=>te σ H λ_ H1=>D.nx σ H1
theorem A6(he:PE X e te)(hs:swapsWith e none pos.line X.env=pure false:=by rfl):PS X (.Expr e pos) (Rn te):=by intro a6 s σ H D I h;exact wpAny_Expr_any (BJ (he a6 s σ H _ I h) λv s1 ⟨x,H1,I1,r1,q1⟩=>⟨σ,H1,I1,q1⟩) I.quiet hs
def Uv(te:TE):TS:=λD σ H=>te σ H D.rt
theorem AO(he:PE X e te):PS X (.Return (some e) pos) (Uv te):=by intro a6 s σ H D I h;exact wpAny_Return_some (BJ (he a6 s σ H _ I h) λv s1 ⟨x,H1,I1,r1,q1⟩=>⟨x,σ,H1,I1,r1,q1⟩)
def QV(c:TT)(t u:TS):TS:=λD σ H=>c σ H λb H1=>if b=true then t D σ H1 else u D σ H1
theorem Ah{a b:List Stmt}(hc:PT X c tc)(ha:F6 X a t)(hb:F6 X b u):PS X (.If c a b pos) (QV tc t u):=by
 intro a6 s σ H D I h;refine wpAny_If (BJ (hc a6 s σ H _ I h) λd s1 z9=>?_);obtain⟨H1,I1,q1⟩:=z9;cases d with
 |true=>exact ha a6 s1 σ H1 D I1 q1
 |false=>exact hb a6 s1 σ H1 D I1 q1
end
abbrev TG:=V->St->Hp->(St->Hp->Prop)->Prop
abbrev QI:=List V->St->Hp->(St->Hp->Prop)->Prop
def PG(X:Cx)(target:Expr)(t:TG):Prop:=
 ∀(a6:List (qR×Obj)) (s:qS) (σ:St) (H:Hp) (v:V) (u:qQ) (Q:St->Hp->Prop),AR X a6 σ H s->A4 v u->t v σ H Q ->
  wpAny (model X.prog X.w) X.A (assign target X.env u) (λ_ s'=>∃σ' H',AR X a6 σ' H' s'/\Q σ' H') X.xe s
def Uh(X:Cx)(ts:List Expr)(t:QI):Prop:=
 ∀(a6:List (qR×Obj)) (s:qS) (σ:St) (H:Hp) (vs:List V) (us:List qQ) (Q:St->Hp->Prop),AR X a6 σ H s->Aq vs us->t vs σ H Q ->
  wpAny (model X.prog X.w) X.A (assignInOrder ((assignEach ts X.env).map (·.2)) us) (λ_ s'=>∃σ' H',AR X a6 σ' H' s'/\Q σ' H') X.xe s
variable{es:List Expr}{tg:Expr}{te:TE}
section
variable{pos:Pos}
def E1(i:Nat):TG:=λv σ H Q=>Q (σ.set i (some v)) H
theorem GN{i:Nat}(hN:X.N.Nodup)(hi:X.N[i]?=some x)(hx:Rj X.env.scope x)(hf:X.fn x=true\/X.env.scope.names.lookup x=some .local:=by first|exact .inl rfl|exact .inr rfl|assumption):PG X (.Name x pos) (E1 i):=by intro a6 s σ H v u Q I r h;exact wpAny_assign_Name (Gg I hN hi hx r (λs' I'=>⟨_,H,I',h⟩) hf)
def Wg:QI:=λvs σ H Q=>vs=[]/\Q σ H
def Uw(t:TG)(u:QI):QI:=λvs σ H Q=>∃v r,vs=v::r/\t v σ H λσ' H'=>u r σ' H' Q
theorem C1:Uh X [] Wg:=by intro a6 s σ H vs us Q I r h;obtain⟨e,h⟩:=h;subst e;cases r;exact assignInOrder_nil ⟨σ,H,I,h⟩
theorem BG{e:Expr}{t:TG}{u:QI}(h1:PG X e t)(h2:Uh X es u)
  (hs:(assignEach (e::es) X.env).map (·.2)=assign e X.env::(assignEach es X.env).map (·.2):=by rfl):Uh X (e::es) (Uw t u):=by
 intro a6 s σ H vs us Q I r h;obtain⟨v,vr,e1,h⟩:=h;subst e1;cases r with
 |cons r rr =>
  rw[hs];refine assignInOrder_cons (BJ (h1 a6 s σ H _ _ _ I r h) λ_ s1 z9=>?_);obtain⟨σ1,H1,I1,q1⟩:=z9;exact h2 a6 s1 σ1 H1 _ _ Q I1 rr q1
def Ux(K:qV)(n:Nat)(t:QI):TG:=λv σ H Q=>∃a xs,v=.ref a/\Aa K H a xs/\xs.length=n/\t xs σ H Q
theorem N6{k:Nat}{t:QI}{n:Nat}(hc:X.calm=true)(h:Uh X es t)
  (hn:(assignEach es X.env).length=n:=by rfl) (hst:(assignEach es X.env).findIdx? (·.1)=none:=by rfl):PG X (.Tuple es k pos) (Ux X.K n t):=by
 intro a6 s σ H v u Q I r hw;refine byG λGq hGq=>?_;obtain⟨a,xs,e1,hq,hl,hw⟩:=hw;refine hGq ?_;clear hGq Gq;subst e1;cases r;refine byG λGq hGq=>?_;obtain⟨its,rv,ht,hz⟩:=I.tuple hq;refine hGq ?_;clear hGq Gq;refine assign_Tuple_tuple (I.ok.hd hc) ht (by simp[hn,<-hl,rv.length]) hst λh' hx=>?_;have I1:AR X a6 σ H {s with heap:=h'}:=I.kept (t':=s.toks) λb o e=>hx b o (YA (Xm e)) e
 exact h a6 _ σ H xs _ Q I1 (by simpa using rv) hw
def NB(te:TE)(g:TG):TS:=λD σ H=>te σ H λx H1=>g x σ H1 D.nx
theorem N7{e:Expr}{g:TG}(he:PE X e te)(hg:PG X tg g)(hs:swapsWithSole [tg] e pos.line X.env=pure false:=by rfl)(hw:swappedStores [tg] e X.env=pure none:=by rfl)
  (h1:(assignEach [tg] X.env).map (·.2)=[assign tg X.env]:=by rfl):PS X (.Assign [tg] e pos) (NB te g):=by
 intro a6 s σ H D I h;refine wpAny_Assign_stores (BJ (he a6 s σ H _ I h) λv s1 z9=>?_) hs hw;obtain⟨x,H1,I1,r1,q1⟩:=z9;rw[h1];exact BJ (hg a6 s1 σ H1 x v _ I1 r1 q1) λ_ s2 q=>q
theorem FZ{i:Nat}{e:Expr}{pos':Pos}(hN:X.N.Nodup)(hi:X.N[i]?=some x)(hx:Rj X.env.scope x)(he:PE X e te)(hs:swapsWith e (some (.Name x pos')) pos.line X.env=pure false:=by rfl)(hf:X.fn x=true\/X.env.scope.names.lookup x=some .local:=by first|exact .inl rfl|exact .inr rfl|assumption):
  PS X (.Assign [.Name x pos'] e pos) (NB te (E1 i)):=by
 intro a6 s σ H D I h;refine wpAny_Assign_Name (BJ (he a6 s σ H _ I h) λv s1 z9=>?_) hs;obtain⟨y,H1,I1,r1,q1⟩:=z9;exact Gg I1 hN hi hx r1 (λs2 I2=>⟨_,H1,I2,q1⟩) hf
end
variable{body:List Stmt}
section
variable{pos:Pos}
def N8(c:TT)(tb:TS):TS:=λD σ H=>∃W:Nat->St->Hp->Prop,(∃m,W m σ H)/\∀m σ H,W m σ H ->
 c σ H λb H1=>if b=true then ∃N:St->Hp->Prop,(∀σ' H',N σ' H'->∃m',m'<m/\W m' σ' H')/\tb {D with nx:=N,ct:=N,bk:=D.nx} σ H1 else D.nx σ H1
theorem E2{tb:TS}(hp:PassesOwn (model X.prog X.w) X.A X.env X.xe)(hc:PT X c tc)(hb:F6 X body tb):PS X (.While c body [] pos) (N8 tc tb):=by
 intro a6 s σ H D I h;refine byG λGq hGq=>?_;obtain⟨W,⟨m0,w0⟩,turn⟩:=h;refine hGq ?_;clear hGq Gq;refine wpAny_While (codeAny_whileLoop (λn s'=>∃σ' H',AR X a6 σ' H' s'/\W n σ' H') ?_ m0 ⟨σ,H,I,w0⟩);intro n s1 hRq;refine byG λGq hGq=>?_;obtain⟨σ1,H1,I1,w1⟩:=hRq;refine hGq ?_;clear hGq Gq;refine wpAny_passesOwn hp (BJ (hc a6 s1 σ1 H1 _ I1 (turn n σ1 H1 w1)) λb s2 z9=>?_);obtain⟨H2,I2,q2⟩:=z9;cases b with
 |true =>
  obtain⟨N,hN,q2⟩:=q2;rw[qF rfl];refine wpAny_passesOwn hp (BJ (hb a6 s2 σ1 H2 _ I2 q2) λf s3 q3=>?_);cases f with
  |next =>
   refine byG λGq hGq=>?_;obtain⟨σ3,H3,I3,n3⟩:=q3;refine hGq ?_;clear hGq Gq;obtain⟨m',hm,w3⟩:=hN σ3 H3 n3;exact⟨m',hm,σ3,H3,I3,w3⟩
  |cont =>
   refine byG λGq hGq=>?_;obtain⟨σ3,H3,I3,n3⟩:=q3;refine hGq ?_;clear hGq Gq;obtain⟨m',hm,w3⟩:=hN σ3 H3 n3;exact⟨m',hm,σ3,H3,I3,w3⟩
  |brk=>exact q3
  |ret v=>exact q3
 |false =>
  rw[qE Xx];exact wpAny_execs_nil ⟨σ1,H2,I2,q2⟩
end
structure It where
 go:Nat->Hp->Prop
 yld:Nat->Hp->V->Hp->Prop
 stop:Nat->Hp->Prop
def CS(X:Cx)(a6:List (qR×Obj))(H:Hp)(b:qR):Prop:=
 H b=none/\b≠X.env.locals/\b∉X.fs/\(b∈X.ex\/X.s₀.heap.objs.size<=b)/\(∀x c,X.env.cells.lookup x=some c->c≠b)/\∀p∈X.pn++a6,p.1≠b
variable{H':Hp}
theorem AR.fpOk{s:qS}{b:qR}(I:AR X a6 σ H s)(hb:s.heap.objs.size<=b)(hn:H' b=none):CS X a6 H' b:=by
 refine⟨hn,ZO (Xn I.lt hb),I.nofs hb,.inr (YG I.sz hb),λx c e z=>?_,λp hp z=>?_⟩
 ·obtain⟨v,q⟩:=I.cell x c e;exact qG (Xn q.lt (by rw[z];exact hb)) (X8 _)
 ·exact qG (Xn (Xm (I.pin p hp).1) (by rw[z];exact hb)) (X8 _)
structure IB(P:qT)(w:qU)(K:qV)(tg:Expr)(J:It)(fp:List qR)(it:qR)(tn:Nat->Heap->Prop):Prop where
 mem:it∈fp
 obj:∀i h,tn i h->∀b∈fp,∃o,h.get? b=some o/\∀v,o.data≠.cell v
 keep:∀i h h',tn i h->(∀b∈fp,∀o,h.get? b=some o->h'.get? b=some o)->tn i h'
 item:∀(X:Cx),X.prog=P->X.w=w->X.K=K->X.calm=true->∀(i:Nat) (a6:List (qR×Obj)) (s:qS) (σ:St) (H:Hp) (E:qQ->qS->Prop),AR X a6 σ H s->(∀b∈fp,CS X a6 H b)->tn i s.heap->J.go i H ->
  wpAny (model P w) X.A (pyNext (.ref it)) (λr s1=>∃u,r=some u /\
   wpAny (model P w) X.A (letOwnedTupleGo tg (.ref it) u) (λ_ s2=>∃x H',AR X a6 σ H' s2/\A4 x u/\J.yld i H x H'/\tn (i+1) s2.heap/\∀b∈fp,H' b=none) E s1) E s
 done:∀(X:Cx),X.prog=P->X.w=w->X.K=K->X.calm=true->∀(i:Nat) (a6:List (qR×Obj)) (s:qS) (σ:St) (H:Hp) (E:qQ->qS->Prop),AR X a6 σ H s->(∀b∈fp,CS X a6 H b)->tn i s.heap->J.stop i H ->
  wpAny (model P w) X.A (pyNext (.ref it)) (λr s1=>r=none/\AR X a6 σ H s1) E s
 self:∀(A:Around) (i:Nat) (s:qS) (Q:qQ->qS->Prop) (E:qQ->qS->Prop),tn i s.heap->Q (.ref it) s->wpAny (model P w) A (pyIter (.ref it)) Q E s
abbrev TI:=St->Hp->(It->Hp->Prop)->Prop
def XR(X:Cx)(a6:List (qR×Obj))(σ:St)(tg:Expr)(R:It->Hp->Prop)(itv:qQ)(s2:qS):Prop:=
 ∃(it:qR) (fp:List qR) (tn:Nat->Heap->Prop) (J:It) (H':Hp),itv=.ref it/\AR X a6 σ H' s2/\IB X.prog X.w X.K tg J fp it tn/\tn 0 s2.heap/\(∀b∈fp,CS X a6 H' b)/\R J H'
def PI(X:Cx)(tg iter:Expr)(wi:TI):Prop:=
 ∀(a6:List (qR×Obj)) (s:qS) (σ:St) (H:Hp) (R:It->Hp->Prop),AR X a6 σ H s->wi σ H R ->
  wpAny (model X.prog X.w) X.A (eval iter X.env) (λv s1=>wpAny (model X.prog X.w) X.A (pyIter v) (XR X a6 σ tg R) X.xe s1) X.xe s
theorem Ls{M:Model}{A:Around}{s:qS}{n:String}{vs:Array qQ}{Q:Unit->qS->Prop}(ho:s.heap.get? it=some o)(hc:o.cls=.type n)(hd:o.data=.fields vs)
  (hn:["enumerate","zip","dict_itemiterator","dict_reverseitemiterator","odict_iterator","itertools.zip_longest","itertools.pairwise"].contains n=false) (hQ:Q () s):wpAny M A (letOwnedTupleGo tg (.ref it) u) Q E s:=by
 unfold letOwnedTupleGo
 cases tg<;>first
  |exact qD hQ
  | (cases u<;>first
    |exact qD hQ
    | (refine qC (wpAny_load ho ?_)
       rw[hc,hd];show wpAny M A (if (["enumerate","zip","dict_itemiterator","dict_reverseitemiterator","odict_iterator","itertools.zip_longest","itertools.pairwise"].contains n&&vs[0]?==some (rawInt _))=true then _ else _) Q E s;rw[qE (by intro h;rw[hn,Bool.false_and]at h;cases h)];exact qD hQ))
noncomputable def Ui(K:qV)(a:qR):It:=
 ⟨λi H=>∃xs x,Af K H a xs/\xs[i]?=some x,λi H x H'=>H'=H/\∀xs,Af K H a xs->xs[i]?=some x,λi H=>∃xs,Af K H a xs/\xs.length<=i⟩
noncomputable def Sk(lo:Int)(n:Nat):It:=⟨λi _=>i<n,λi H x H'=>H'=H/\x=.int (lo+i),λi _=>n<=i⟩
theorem NC{P:qT}{w:qU}{K:qV}(a it:qR):IB P w K tg (Ui K a) [it] it (λi h=>h.IsListIter it a i) where
 mem:=by simp
 obj:=λi h st b hb=>by
  have e:b=it:=by simpa using hb
  subst e;refine byG λGq hGq=>?_;obtain⟨o,e,c,d⟩:=st;refine hGq ?_;clear hGq Gq;exact⟨o,e,λv z=>by rw[d]at z;cases z⟩
 keep:=λi h h' st k=>st.at λo e=>k it (by simp) o e
 item:=by intro X hP hw hK hc i a6 s σ H E I hf st hg;subst hP hw hK;refine byG λGq hGq=>?_;obtain⟨xs,x,hq,hx⟩:=hg;refine hGq ?_;clear hGq Gq;refine byG λGq hGq=>?_;obtain⟨its,rv,p,hz⟩:=I.list hq;refine hGq ?_;clear hGq Gq;obtain⟨u,hu,ru⟩:=rv.get hx;refine byG λGq hGq=>?_;obtain⟨f0,f1,f2,f3,f4,f5⟩:=hf it (by simp);refine hGq ?_;clear hGq Gq;refine wpAny_pyNext_list_item st p.isList (x:=u) (by simpa using hu) λh' st' sb=>?_;have I1:AR X a6 σ H {s with heap:=h'}:=I.turned (t':=s.toks) (λb o hb e=>(sb.2 b hb).trans e) f0 f1 f3 f4 f5;refine byG λGq hGq=>?_;obtain⟨o,e,c,d⟩:=id st';refine hGq ?_;clear hGq Gq;exact⟨u,rfl,Ls (s:={s with heap:=h'}) e c d (by decide) ⟨x,H,I1,ru,⟨rfl,λys hy=>by rw[I.list_inj hy hq];exact hx⟩,st',λb hb=>(hf b hb).1⟩⟩
 done:=by intro X hP hw hK hc i a6 s σ H E I hf st hg;subst hP hw hK;obtain⟨xs,hq,hx⟩:=hg;refine byG λGq hGq=>?_;obtain⟨its,rv,p,hz⟩:=I.list hq;refine hGq ?_;clear hGq Gq;refine byG λGq hGq=>?_;obtain⟨f0,f1,f2,f3,f4,f5⟩:=hf it (by simp);refine hGq ?_;clear hGq Gq;have hl:=rv.length;exact wpAny_pyNext_list_end (I.ok.hd hc) st p.isList (by simp;lia) λh' eb=>⟨rfl,I.turned (t':=s.toks) (λb o hb e=>eb b o hb e) f0 f1 f3 f4 f5⟩
 self:=λ_ _ _ _ _ st h=>wpAny_pyIter_listiter st h
theorem Kw{P:qT}{w:qU}{K:qV}(it:qR)(lo:Int)(n:Nat):IB P w K tg (Sk lo n) [it] it (λi h=>IsRangeIter h it (lo+(i:Nat)*1) ((n:Int)-(i:Nat)) 1) where
 mem:=by simp
 obj:=λi h st b hb=>by
  have e:b=it:=by simpa using hb
  subst e
  exact⟨_,st,λv z=>by have z':Data.fields _=Data.cell v:=z;cases z'⟩
 keep:=λi h h' st k=>k it (by simp) _ st
 item:=by intro X hP hw hK hc i a6 s σ H E I hf st hg;subst hP hw hK;refine byG λGq hGq=>?_;obtain⟨f0,f1,f2,f3,f4,f5⟩:=hf it (by simp);refine hGq ?_;clear hGq Gq;have W:=Walks.range (prog:=X.prog) (w:=X.w) (I.ok.hd hc) it lo 1 n;refine W.item i s _ _ hg st λv h' tk hv st' kk=>?_;obtain⟨t,rfl⟩:=hv;have I1:AR X a6 σ H {s with heap:=h',toks:=tk}:=I.turned (λb o hb e=>kk b o (by simpa using hb) e) f0 f1 f3 f4 f5;refine⟨_,rfl,Ls (s:={s with heap:=h',toks:=tk}) (n:="range_iterator") st' rfl rfl (by decide) ⟨.int (lo+i),H,I1,⟨t,?_⟩,⟨rfl,rfl⟩,st',λb hb=>(hf b hb).1⟩⟩;rw[Int.mul_one]
 done:=by intro X hP hw hK hc i a6 s σ H E I hf st hg;subst hP hw hK;refine byG λGq hGq=>?_;obtain⟨f0,f1,f2,f3,f4,f5⟩:=hf it (by simp);refine hGq ?_;clear hGq Gq;exact wpAny_pyNext_range_end (I.ok.hd hc) st (by have:n<=i:=hg;lia) λh' eb=>⟨rfl,I.turned (t':=s.toks) (λb o hb e=>eb b o hb e) f0 f1 f3 f4 f5⟩
 self:=λ_ _ _ _ _ st h=>wpAny_pyIter_rangeiter st h
variable{tl:TE}{ta:TA}{fp:List qR}
def N9(K:qV)(tl:TE):TI:=λσ H R=>tl σ H λx H1=>∃a,x=.ref a/\(∃xs,Af K H1 a xs)/\R (Ui K a) H1
theorem Lu{l:Expr}(hl:PE X l tl):PI X tg l (N9 X.K tl):=by
 intro a6 s σ H R I h;refine BJ (hl a6 s σ H _ I h) λv s1 z9=>?_;obtain⟨x,H1,I1,r1,q1⟩:=z9;obtain⟨a,e,⟨xs,hq⟩,q⟩:=q1;subst e;cases r1;obtain⟨its,rv,p,hz⟩:=I1.list hq;refine wpAny_pyIter_list p.isList ?_;refine⟨s1.heap.objs.size,[s1.heap.objs.size],_,_,H1,rfl,I1.kept (t':=s1.toks) λb o e=>Xh _ e,NC a _,⟨_,Xs _ rfl,rfl,rfl⟩,λb hb=>?_,q⟩;have e:b=s1.heap.objs.size:=by simpa using hb
 subst e;exact I1.fpOk (Xi _) (I1.hok.fresh (Xi _))
theorem OA{s:qS}{R:It->Hp->Prop}{lo hi:Int}{t u v:Tok}{tk:Nat}(I:AR X a6 σ H s)(h1:-(2^62)<=lo)(h2:lo<2^62)(h3:-(2^62)<=hi)(h4:hi<2^62)
  (q:R (Sk lo (hi-lo).toNat) H):wpAny (model X.prog X.w) X.A (pyIter (.ref s.heap.objs.size)) (XR X a6 σ tg R) E {s with heap:=s.heap.push {cls:=.type "range",data:=.fields #[.int lo t,.int hi u,.int 1 v]},toks:=tk}:=by
 refine wpAny_pyIter_range (IsRange.new ..) (small_one h1 h2 h3 h4) ?_;have I1:AR X a6 σ H {s with heap:=s.heap.push {cls:=.type "range",data:=.fields #[.int lo t,.int hi u,.int 1 v]},toks:=tk}:=I.kept λb o e=>Xh _ e
 refine⟨(s.heap.push {cls:=.type "range",data:=.fields #[.int lo t,.int hi u,.int 1 v]}).objs.size,[(s.heap.push {cls:=.type "range",data:=.fields #[.int lo t,.int hi u,.int 1 v]}).objs.size],_,_,H,rfl,
  I1.kept (t':=tk) λb o e=>Xh _ e,Kw _ lo (hi-lo).toNat,?_,λb hb=>?_,q⟩
 ·have e1:lo+((0:Nat):Int)*1=lo:=by simp
  have e2:(((hi-lo).toNat:Nat):Int)-((0:Nat):Int)=Builtin.Range.rangeSize lo hi 1:=by rw[rangeSize_one];split<;>lia
  show IsRangeIter _ _ (lo+((0:Nat):Int)*1) ((((hi-lo).toNat:Nat):Int)-((0:Nat):Int)) 1;rw[e1,e2];exact Xs _ rfl
 ·have e:b=(s.heap.push {cls:=.type "range",data:=.fields #[.int lo t,.int hi u,.int 1 v]}).objs.size:=by simpa using hb
  subst e;exact I1.fpOk (Xi _) (I1.hok.fresh (Xi _))
def Uy(ta:TA):TI:=λσ H R=>ta σ H λvs H1=>∃j:Int,vs=[.int j]/\-(2^62)<=j/\j<2^62/\R (Sk 0 j.toNat) H1
theorem Ar{a:Expr}{p pos:Pos}(hg:Gl X "range")(hm:X.mg "range"=none)(ha:PA X [a] ta)(hs:starEach [a] X.env=[(false,eval a X.env)]:=by rfl):PI X tg (.Call (.Name "range" p) [a] [] pos) (Uy ta):=by
 intro a6 s σ H R I h;refine Call_ (Ck I hg hm boot_range (YU (BJ (ha pos a6 s σ H _ I h) λus s1 z9=>?_) hs rfl));obtain⟨vs,H1,I1,r1,q1⟩:=z9;refine byG λGq hGq=>?_;obtain⟨j,e,q1,q2,q⟩:=q1;refine hGq ?_;clear hGq Gq;subst e;cases r1 with
 |cons r rr =>
  cases rr;obtain⟨t,rfl⟩:=r;exact call_range_1 (OA I1 (by lia) (by lia) q1 q2 (by simpa using q))
def Wh(wi:TI)(g:TG)(tb:TS):TS:=λD σ H=>wi σ H λJ H1=>∃W:Nat->Nat->St->Hp->Prop,(∃m,W 0 m σ H1)/\∀i m σ H,W i m σ H ->
 (J.stop i H/\D.nx σ H)\/(J.go i H/\∃N:St->Hp->Prop,(∀σ' H',N σ' H'->∃m',m'<m/\W (i+1) m' σ' H')/\∀x H',J.yld i H x H'->g x σ H' λσ2 H2=>tb {D with nx:=N,ct:=N,bk:=D.nx} σ2 H2)
noncomputable def Fa(fp:List qR)(h:Heap):List (qR×Obj):=fp.filterMap λb=>(h.get? b).map λo=>(b,o)
theorem B9{h:Heap}{b:qR}(hb:b∈fp)(e:h.get? b=some o):(b,o)∈Fa fp h:=Zo.mpr ⟨b,hb,by rw[e];rfl⟩
theorem ND{h:Heap}{p:qR×Obj}(hp:p∈Fa fp h):p.1∈fp/\h.get? p.1=some p.2:=by
 obtain⟨b,hb,e⟩:=Zo.mp hp;cases q:h.get? b with
 |none=>rw[q]at e;cases e
 |some o =>
  rw[q]at e;have e':(b,o)=p:=Option.some.inj e;subst e';exact⟨hb,q⟩
theorem AR.pinned{s:qS}(I:AR X a6 σ H s)(hf:∀b∈fp,CS X a6 H b)(ho:∀b∈fp,∃o,s.heap.get? b=some o/\∀v,o.data≠.cell v):AR X (a6++Fa fp s.heap) σ H s:=
 I.pins_of λp hp=>(Xr.mp hp).elim (λz=>I.pin p (Xv _ z)) λz=>by obtain⟨hb,e⟩:=ND z;obtain⟨f0,f1,f2,_⟩:=hf p.1 hb;obtain⟨o,e',d⟩:=ho p.1 hb;rw[e]at e';cases e';exact⟨e,f0,f1,f2,d⟩
theorem AR.unpinned{pl:List (qR×Obj)}{s:qS}(I:AR X (a6++pl) σ H s):AR X a6 σ H s:=I.pins_of λp hp=>I.pin p (Xv _ (Yw _ hp))
theorem Ay{iter:Expr}{wi:TI}{g:TG}{tb:TS}{pos:Pos}(hp:PassesOwn (model X.prog X.w) X.A X.env X.xe)(hc:X.calm=true)(hi:PI X tg iter wi)(hg:PG X tg g)(hb:F6 X body tb)
  (hs:∀x,foldedSetIterable iter X.env x=pure x:=by intro _;rfl):PS X (.For tg iter body [] pos) (Wh wi g tb):=by
 intro a6 s σ H D I h;refine wpAny_For (BJ (hi a6 s σ H _ I h) λv s1 h1=>BJ h1 λitv s2 h2=>?_) hs;refine byG λGq hGq=>?_;obtain⟨it,fp,tn,J,H2,e,I2,T,st2,f2,W,⟨m0,w0⟩,turn⟩:=h2;refine hGq ?_;clear hGq Gq;subst e;have stat:∀{H':Hp},(∀b∈fp,H' b=none)->∀b∈fp,CS X a6 H' b:=λhn b hb=>⟨hn b hb,(f2 b hb).2⟩
 refine codeAny_forLoop_any (λn s'=>∃i σ' H',AR X a6 σ' H' s'/\tn i s'.heap/\(∀b∈fp,H' b=none)/\W i n σ' H') ?_ m0 ⟨0,σ,H2,I2,st2,λb hb=>(f2 b hb).1,w0⟩;intro n s3 hRq;refine byG λGq hGq=>?_;obtain⟨i,σ3,H3,I3,st3,fr3,w3⟩:=hRq;refine hGq ?_;clear hGq Gq;rcases turn i n σ3 H3 w3 with⟨stop,qn⟩|⟨go,N,hN,step⟩
 ·refine wpAny_passesOwn hp (BJ (T.done X rfl rfl rfl hc i a6 s3 σ3 H3 X.xe I3 (stat fr3) st3 stop) λr s4 z9=>?_);obtain⟨hr,I4⟩:=z9;subst hr;exact wpAny_execs_nil ⟨σ3,H3,I4,qn⟩
 ·refine wpAny_passesOwn hp (BJ (T.item X rfl rfl rfl hc i a6 s3 σ3 H3 X.xe I3 (stat fr3) st3 go) λr s4 z9=>?_);obtain⟨u,hr,h4⟩:=z9;subst hr;refine wpAny_passesOwn hp (BJ h4 λ_ s5 z9=>?_);obtain⟨x,H5,I5,r5,y5,st5,fr5⟩:=z9;have I5':=I5.pinned (stat fr5) (T.obj _ _ st5);refine wpAny_passesOwn hp (BJ (hg _ s5 σ3 H5 x u _ I5' r5 (step x H5 y5)) λ_ s6 z9=>?_);obtain⟨σ6,H6,I6,q6⟩:=z9;refine wpAny_passesOwn hp (BJ (hb _ s6 σ6 H6 _ I6 q6) λf s7 q7=>?_);have again:∀{σ7:St} {H7:Hp},AR X (a6++Fa fp s5.heap) σ7 H7 s7->N σ7 H7->∃m,m<n/\∃i σ' H',AR X a6 σ' H' s7/\tn i s7.heap/\(∀b∈fp,H' b=none)/\W i m σ' H':=λ{σ7 H7} I7 n7=>by obtain⟨m',hm,w7⟩:=hN σ7 H7 n7;refine⟨m',hm,i+1,σ7,H7,I7.unpinned,T.keep _ _ _ st5 λb hb o e=>(I7.pin (b,o) (Xv _ (Xv _ (B9 hb e)))).1,λb hb=>?_,w7⟩;obtain⟨o,e,d⟩:=T.obj _ _ st5 b hb;exact (I7.pin (b,o) (Xv _ (Xv _ (B9 hb e)))).2.1
  cases f with
  |next=>obtain⟨σ7,H7,I7,n7⟩:=q7;exact again I7 n7
  |cont=>obtain⟨σ7,H7,I7,n7⟩:=q7;exact again I7 n7
  |brk=>obtain⟨σ7,H7,I7,q7⟩:=q7;exact⟨σ7,H7,I7.unpinned,q7⟩
  |ret v=>obtain⟨x7,σ7,H7,I7,r7,q7⟩:=q7;exact⟨x7,σ7,H7,I7.unpinned,r7,q7⟩
theorem Bq{K:qV}{g:TG}{tb:TS}(Pv:Nat->St->Hp->Prop)(h0:Pv 0 σ H)(hl:∀i σ H,i<=xs.length->Pv i σ H->Af K H a xs)
  (hs:∀i x σ H,xs[i]?=some x->Pv i σ H->g x σ H λσ2 H2=>tb {D with nx:=Pv (i+1),ct:=Pv (i+1),bk:=D.nx} σ2 H2) (hd:∀σ H,Pv xs.length σ H->D.nx σ H):
  ∃W:Nat->Nat->St->Hp->Prop,(∃m,W 0 m σ H)/\∀i m σ H,W i m σ H ->
   ((Ui K a).stop i H/\D.nx σ H)\/((Ui K a).go i H/\∃N:St->Hp->Prop,(∀σ' H',N σ' H'->∃m',m'<m/\W (i+1) m' σ' H')/\∀x H',(Ui K a).yld i H x H'->g x σ H' λσ2 H2=>tb {D with nx:=N,ct:=N,bk:=D.nx} σ2 H2):=by
 refine⟨λi m σ H=>m=xs.length-i/\i<=xs.length/\Pv i σ H,⟨xs.length,by simp,Nat.zero_le _,h0⟩,?_⟩;rintro i m σ H ⟨rfl,hi,p⟩;have q:=hl i σ H hi p
 by_cases hlt:i<xs.length
 ·refine .inr ⟨⟨xs,xs[i],q,by simp[hlt]⟩,Pv (i+1),λσ' H' p'=>⟨xs.length-(i+1),by lia,rfl,hlt,p'⟩,λx H' y=>?_⟩;obtain⟨e,y⟩:=y;subst e;exact hs i x σ _ (y xs q) p
 ·have e:i=xs.length:=by lia
  subst e;exact .inl ⟨⟨xs,q,Xi _⟩,hd σ H p⟩
theorem BP{lo:Int}{n:Nat}{g:TG}{tb:TS}(Pv:Nat->St->Hp->Prop)(h0:Pv 0 σ H)
  (hs:∀i σ H,i<n->Pv i σ H->g (.int (lo+i)) σ H λσ2 H2=>tb {D with nx:=Pv (i+1),ct:=Pv (i+1),bk:=D.nx} σ2 H2) (hd:∀σ H,Pv n σ H->D.nx σ H):
  ∃W:Nat->Nat->St->Hp->Prop,(∃m,W 0 m σ H)/\∀i m σ H,W i m σ H ->
   ((Sk lo n).stop i H/\D.nx σ H)\/((Sk lo n).go i H/\∃N:St->Hp->Prop,(∀σ' H',N σ' H'->∃m',m'<m/\W (i+1) m' σ' H')/\∀x H',(Sk lo n).yld i H x H'->g x σ H' λσ2 H2=>tb {D with nx:=N,ct:=N,bk:=D.nx} σ2 H2):=by
 refine⟨λi m σ H=>m=n-i/\i<=n/\Pv i σ H,⟨n,by simp,Nat.zero_le _,h0⟩,?_⟩;rintro i m σ H ⟨rfl,hi,p⟩
 by_cases hlt:i<n
 ·refine .inr ⟨hlt,Pv (i+1),λσ' H' p'=>⟨n-(i+1),by lia,rfl,hlt,p'⟩,λx H' y=>?_⟩;obtain⟨e,y⟩:=y;subst e y;exact hs i σ _ hlt p
 ·have e:i=n:=by lia
  subst e;exact .inl ⟨Xi _,hd σ H p⟩
theorem Gh{c:TT}{tb:TS}(Pv:St->Hp->Prop)(μ:St->Hp->Nat)(h0:Pv σ H)
  (hs:∀σ H,Pv σ H->c σ H λb H1=>if b=true then tb {D with nx:=λσ' H'=>Pv σ' H'/\μ σ' H'<μ σ H,ct:=λσ' H'=>Pv σ' H'/\μ σ' H'<μ σ H,bk:=D.nx} σ H1 else D.nx σ H1)
  (mono:∀σ H Q Q',(∀b H1,Q b H1->Q' b H1)->c σ H Q->c σ H Q'):N8 c tb D σ H:=by
 refine⟨λm σ H=>m=μ σ H/\Pv σ H,⟨_,rfl,h0⟩,?_⟩;rintro m σ H ⟨rfl,p⟩;refine mono σ H _ _ (λb H1 q=>?_) (hs σ H p);cases b with
 |true=>exact⟨_,λσ' H' ⟨p',l⟩=>⟨_,l,rfl,p'⟩,q⟩
 |false=>exact q
abbrev R2:=V->V->Hp->VK->Prop
def Ec(X:Cx)(f:qQ->qQ->Sem qQ)(r:R2):Prop:=
 ∀(a6:List (qR×Obj)) (s:qS) (σ:St) (H:Hp) (x y:V) (v u:qQ) (Q:VK),AR X a6 σ H s->A4 x v->A4 y u->r x y H Q ->
  wpAny (model X.prog X.w) X.A (f v u) (EP X a6 σ Q) X.xe s
def Wi(X:Cx)(f:qQ->Sem qQ)(r:V->Hp->VK->Prop):Prop:=
 ∀(a6:List (qR×Obj)) (s:qS) (σ:St) (H:Hp) (x:V) (v:qQ) (Q:VK),AR X a6 σ H s->A4 x v->r x H Q ->
  wpAny (model X.prog X.w) X.A (f v) (EP X a6 σ Q) X.xe s
def CJ(X:Cx)(f:qQ)(r:List V->Hp->VK->Prop):Prop:=
 ∀(a6:List (qR×Obj)) (s:qS) (σ:St) (H:Hp) (xs:List V) (us:List qQ) (Q:VK),AR X a6 σ H s->Aq xs us->r xs H Q ->
  wpAny (model X.prog X.w) X.A (call f us) (EP X a6 σ Q) X.xe s
def Uj(r:R2)(ta tb:TE):TE:=λσ H Q=>ta σ H λx H1=>tb σ H1 λy H2=>r x y H2 Q
def XS(r:V->Hp->VK->Prop)(ta:TE):TE:=λσ H Q=>ta σ H λx H1=>r x H1 Q
def rI(C:Int->Int->Prop)(g:Int->Int->V):R2:=λx y H Q=>∃i j,x=.int i/\y=.int j/\C i j/\Q (g i j) H
def QW(g:Int->Int->V):R2:=λx y H Q=>∃i j,x=.int i/\y=.int j/\Q (g i j) H
def rU(g:Int->V):V->Hp->VK->Prop:=λx H Q=>∃i,x=.int i/\Q (g i) H
section
variable{a b:Expr}{ta tb tc:TE}{pos:Pos}
theorem Sl(ha:PE X a ta)(hb:PE X b tb){s:qS}{R:V->V->Hp->Prop}(I:AR X a6 σ H s)
  (h:ta σ H λx H1=>tb σ H1 λy H2=>R x y H2) {Q:qQ->qS->Prop} {f:qQ->qQ->Sem qQ}
  (hf:∀v u s2 x y H2,AR X a6 σ H2 s2->A4 x v->A4 y u->R x y H2->wpAny (model X.prog X.w) X.A (f v u) Q X.xe s2):
  wpAny (model X.prog X.w) X.A (eval a X.env) (λv s₁=>wpAny (model X.prog X.w) X.A (eval b X.env) (λu s₂=>wpAny (model X.prog X.w) X.A (f v u) Q X.xe s₂) X.xe s₁) X.xe s:=by
 refine BJ (ha a6 s σ H _ I h) λv s1 z9=>?_;obtain⟨x,H1,I1,r1,q1⟩:=z9;refine BJ (hb a6 s1 σ H1 _ I1 q1) λu s2 z9=>?_;obtain⟨y,H2,I2,r2,q2⟩:=z9;exact hf v u s2 x y H2 I2 r1 r2 q2
theorem AH{op:Operator}{r:R2}(ho:Ec X (binaryOp op) r)(ha:PE X a ta)(hb:PE X b tb):PE X (.BinOp a op b pos) (Uj r ta tb):=by intro a6 s σ H Q I h;exact wpAny_BinOp (Sl ha hb I h λv u s2 x y H2 I2 rx ry q=>ho a6 s2 σ H2 x y v u Q I2 rx ry q)
theorem Jm{op:UnaryOp}{r:V->Hp->VK->Prop}(ho:Wi X (unaryOp op) r)(ha:PE X a ta):PE X (.UnaryOp op a pos) (XS r ta):=by intro a6 s σ H Q I h;exact UnaryOp_ (BJ (ha a6 s σ H _ I h) λv s1 ⟨x,H1,I1,r1,q1⟩=>ho a6 s1 σ H1 x v Q I1 r1 q1)
theorem WV{f:qQ->qQ->Sem qQ}{C:Int->Int->Prop}{g:Int->Int->Int}
  (rule:∀(i j:Int) (t u:Tok) (s:qS) (Q:qQ->qS->Prop) (E:qQ->qS->Prop),C i j->Q (.int (g i j) s.toks) {s with toks:=s.toks+1}->wpAny (model X.prog X.w) X.A (f (.int i t) (.int j u)) Q E s):
  Ec X f (rI C λi j=>.int (g i j)):=by
 intro a6 s σ H x y v u Q I rx ry h;refine byG λGq hGq=>?_;obtain⟨i,j,rfl,rfl,hc,q⟩:=h;refine hGq ?_;clear hGq Gq;obtain⟨t,rfl⟩:=rx;obtain⟨t',rfl⟩:=ry;exact rule i j t t' s _ _ hc ⟨.int (g i j),H,I.tok _,⟨_,rfl⟩,q⟩
theorem Uz{f:qQ->qQ->Sem qQ}{g:Int->Int->Int}
  (rule:∀(i j:Int) (t u:Tok) (s:qS) (Q:qQ->qS->Prop) (E:qQ->qS->Prop),Q (.int (g i j) s.toks) {s with toks:=s.toks+1}->wpAny (model X.prog X.w) X.A (f (.int i t) (.int j u)) Q E s):
  Ec X f (QW λi j=>.int (g i j)):=by
 intro a6 s σ H x y v u Q I rx ry h;refine byG λGq hGq=>?_;obtain⟨i,j,rfl,rfl,q⟩:=h;refine hGq ?_;clear hGq Gq;obtain⟨t,rfl⟩:=rx;obtain⟨t',rfl⟩:=ry;exact rule i j t t' s _ _ ⟨.int (g i j),H,I.tok _,⟨_,rfl⟩,q⟩
theorem QX{f:qQ->qQ->Sem qQ}{g:Int->Int->Bool}
  (rule:∀(i j:Int) (t u:Tok) (s:qS) (Q:qQ->qS->Prop) (E:qQ->qS->Prop),Q (.bool (g i j)) s->wpAny (model X.prog X.w) X.A (f (.int i t) (.int j u)) Q E s):
  Ec X f (QW λi j=>.bl (g i j)):=by
 intro a6 s σ H x y v u Q I rx ry h;obtain⟨i,j,rfl,rfl,q⟩:=h;obtain⟨t,rfl⟩:=rx;obtain⟨t',rfl⟩:=ry;exact rule i j t t' s _ _ ⟨.bl (g i j),H,I,rfl,q⟩
def Sm(i j:Int):Prop:=0<j/\j<1073741824
def So(i j:Int):Prop:=0<=j/\j<=1000000/\i.natAbs<2^64
def OB(i j:Int):Prop:=(-(2^64)<i/\i<2^64)\/(-(2^64)<j/\j<2^64)
theorem OB.ok{i j:Int}(h:OB i j):IntMulOk i j:=by
 rcases h with⟨h1,h2⟩|⟨h1,h2⟩
 ·exact .of_left (intBits_le_64 h1 h2)
 ·exact .of_right (intBits_le_64 h1 h2)
theorem Ac:Ec X (binaryOp .Add) (QW λi j=>.int (i+j)):=Uz λ_ _ _ _ _ _ _ q=>add_int q
theorem Am:Ec X (binaryOp .Sub) (QW λi j=>.int (i-j)):=Uz λ_ _ _ _ _ _ _ q=>sub_int q
theorem BB:Ec X (binaryOp .Mult) (rI OB λi j=>.int (i*j)):=WV λ_ _ _ _ _ _ _ hc q=>mul_int q hc.ok
theorem A7:Ec X (binaryOp .FloorDiv) (rI Sm λi j=>.int (i/j)):=WV λi j _ _ _ _ _ hc q=>by have h1:(0:Int)<j:=hc.1;have h2:j<1073741824:=hc.2;exact floordiv_int (by lia) (by rw[Int.fdiv_eq_ediv_of_nonneg i (by lia)];exact q) (.inl (PyProof.noPylong_small (by lia)))
theorem Ad:Ec X (binaryOp .Mod) (rI (λ_ j=>0<j) λi j=>.int (i%j)):=WV λi j _ _ _ _ _ hc q=>by have h1:(0:Int)<j:=hc;exact mod_int' (by lia) (by rw[Int.fmod_eq_emod_of_nonneg i (by lia)];exact q)
theorem OC:Ec X (binaryOp .Pow) (rI So λi j=>.int (i^j.toNat)):=WV λ_ _ _ _ _ _ _ hc q=>pow_int_small hc.1 hc.2.1 hc.2.2 q
theorem Xc{f:qQ->Sem qQ}{g:Int->Int}
  (rule:∀(i:Int) (t:Tok) (s:qS) (Q:qQ->qS->Prop) (E:qQ->qS->Prop),Q (.int (g i) s.toks) {s with toks:=s.toks+1}->wpAny (model X.prog X.w) X.A (f (.int i t)) Q E s):
  Wi X f (rU λi=>.int (g i)):=by
 intro a6 s σ H x v Q I rx h;obtain⟨i,rfl,q⟩:=h;obtain⟨t,rfl⟩:=rx;exact rule i t s _ _ ⟨.int (g i),H,I.tok _,⟨_,rfl⟩,q⟩
theorem Gi:Wi X (unaryOp .USub) (rU λi=>.int (-i)):=Xc λ_ _ _ _ _ q=>neg_int q
end
noncomputable def NE:V->V->Bool
 |.non,.non=>true|.non,.int _=>true|.int _,.non=>true|.non,.bl _=>true|.bl _,.non=>true|.non,.str _=>true|.str _,.non=>true
 |.int _,.int _=>true|.bl _,.bl _=>true|.str _,.str _=>true|.byt _,.byt _=>true
 |.int _,.str _=>true|.str _,.int _=>true|.bl _,.str _=>true|.str _,.bl _=>true
 |_,_=>false
def XT:R2:=λx y H Q=>NE x y=true/\Q (.bl (decide (x=y))) H
def XU:R2:=λx y H Q=>NE x y=true/\Q (.bl (!decide (x=y))) H
theorem Lv{i j:Int}:decide (V.int i=V.int j)=(i==j):=by rw[Zp];simp
theorem OD{i j:Bool}:decide (V.bl i=V.bl j)=(i==j):=by rw[Zp];simp
theorem Lw{i j:Str}:decide (V.str i=V.str j)=(i==j):=by rw[Zp];simp
theorem Lx{i j:Array UInt8}:decide (V.byt i=V.byt j)=(i.toList==j.toList):=by rw[Zp];cases i;cases j;simp
section
variable{a b:Expr}{ta tb tc:TE}{pos:Pos}
theorem As{s:qS}{Q:VK}{k k':Bool}(I:AR X a6 σ H s)(q:Q (.bl k) H)(e:k=k'):EP X a6 σ Q (.bool k') s:=by subst e;exact⟨.bl k,H,I,rfl,q⟩
theorem BL:Ec X (compareOp .Eq) XT:=by
 intro a6 s σ H x y v u Q I rx ry h;obtain⟨hs,q⟩:=h;cases x with
 |non =>
  cases rx;cases y with
  |non=>cases ry;exact PySem.EqNone.eq_none_none (As I q (by simp))
  |bl j=>cases ry;exact PySem.EqNone.eq_none_bool (As I q (by simp))
  |int j=>obtain⟨t',rfl⟩:=ry;exact PySem.EqNone.eq_none_int (As I q (by simp))
  |str j=>obtain⟨t',rfl⟩:=ry;exact PySem.EqNone.eq_none_str (As I q (by simp))
  |_=>exact qG (show false=true from hs) Xx
 |bl i =>
  cases rx;cases y with
  |non=>cases ry;exact PySem.EqNone.eq_bool_none (As I q (by simp))
  |bl j=>cases ry;exact eq_bool (As I q OD)
  |str j=>obtain⟨t',rfl⟩:=ry;exact PySem.EqMixed.eq_bool_str (As I q (by simp))
  |_=>exact qG (show false=true from hs) Xx
 |int i =>
  obtain⟨t,rfl⟩:=rx;cases y with
  |non=>cases ry;exact PySem.EqNone.eq_int_none (As I q (by simp))
  |int j=>obtain⟨t',rfl⟩:=ry;exact eq_int (As I q Lv)
  |str j=>obtain⟨t',rfl⟩:=ry;exact PySem.EqMixed.eq_int_str (As I q (by simp))
  |_=>exact qG (show false=true from hs) Xx
 |str i =>
  obtain⟨t,rfl⟩:=rx;cases y with
  |non=>cases ry;exact PySem.EqNone.eq_str_none (As I q (by simp))
  |bl j=>cases ry;exact PySem.EqMixed.eq_str_bool (As I q (by simp))
  |int j=>obtain⟨t',rfl⟩:=ry;exact PySem.EqMixed.eq_str_int (As I q (by simp))
  |str j=>obtain⟨t',rfl⟩:=ry;exact eq_str (As I q Lw)
  |_=>exact qG (show false=true from hs) Xx
 |byt i =>
  obtain⟨t,rfl⟩:=rx;cases y with
  |byt j=>obtain⟨t',rfl⟩:=ry;exact PySem.W.eq_bytes (As I q Lx)
  |_=>exact qG (show false=true from hs) Xx
 |_=>cases y<;>exact qG (show false=true from hs) Xx
theorem Ed:Ec X (compareOp .NotEq) XU:=by
 intro a6 s σ H x y v u Q I rx ry h;obtain⟨hs,q⟩:=h;cases x with
 |non =>
  cases rx;cases y with
  |non=>cases ry;exact PySem.EqNone.ne_none_none (As I q (by simp))
  |bl j=>cases ry;exact PySem.EqNone.ne_none_bool (As I q (by simp))
  |int j=>obtain⟨t',rfl⟩:=ry;exact PySem.EqNone.ne_none_int (As I q (by simp))
  |str j=>obtain⟨t',rfl⟩:=ry;exact PySem.EqNone.ne_none_str (As I q (by simp))
  |_=>exact qG (show false=true from hs) Xx
 |bl i =>
  cases rx;cases y with
  |non=>cases ry;exact PySem.EqNone.ne_bool_none (As I q (by simp))
  |bl j=>cases ry;exact ne_bool (As I q (qP not OD))
  |str j=>obtain⟨t',rfl⟩:=ry;exact PySem.EqMixed.ne_bool_str (As I q (by simp))
  |_=>exact qG (show false=true from hs) Xx
 |int i =>
  obtain⟨t,rfl⟩:=rx;cases y with
  |non=>cases ry;exact PySem.EqNone.ne_int_none (As I q (by simp))
  |int j=>obtain⟨t',rfl⟩:=ry;exact ne_int (As I q (qP not Lv))
  |str j=>obtain⟨t',rfl⟩:=ry;exact PySem.EqMixed.ne_int_str (As I q (by simp))
  |_=>exact qG (show false=true from hs) Xx
 |str i =>
  obtain⟨t,rfl⟩:=rx;cases y with
  |non=>cases ry;exact PySem.EqNone.ne_str_none (As I q (by simp))
  |bl j=>cases ry;exact PySem.EqMixed.ne_str_bool (As I q (by simp))
  |int j=>obtain⟨t',rfl⟩:=ry;exact PySem.EqMixed.ne_str_int (As I q (by simp))
  |str j=>obtain⟨t',rfl⟩:=ry;exact ne_str (As I q (qP not Lw))
  |_=>exact qG (show false=true from hs) Xx
 |byt i =>
  obtain⟨t,rfl⟩:=rx;cases y with
  |byt j=>obtain⟨t',rfl⟩:=ry;exact PySem.W.ne_bytes (As I q (qP not Lx))
  |_=>exact qG (show false=true from hs) Xx
 |_=>cases y<;>exact qG (show false=true from hs) Xx
theorem DJ:Ec X (compareOp .Lt) (QW λi j=>.bl (decide (i<j))):=QX λ_ _ _ _ _ _ _ q=>lt_int q
theorem OE:Ec X (compareOp .LtE) (QW λi j=>.bl (decide (i<=j))):=QX λ_ _ _ _ _ _ _ q=>le_int q
theorem E3:Ec X (compareOp .Gt) (QW λi j=>.bl (decide (j<i))):=QX λ_ _ _ _ _ _ _ q=>gt_int q
theorem U0:Ec X (compareOp .GtE) (QW λi j=>.bl (decide (j<=i))):=QX λ_ _ _ _ _ _ _ q=>ge_int q
theorem OF:Ec X (compareOp .Is) (λx y H Q=>y=.non/\Q (.bl (decide (x=.non))) H):=by
 intro a6 s σ H x y v u Q I rx ry h;obtain⟨rfl,q⟩:=h;cases ry;refine is_none_gen (As I q ?_)
 cases x<;>first
  | (cases rx;rfl)
  | (obtain⟨t,rfl⟩:=rx;rfl)
theorem Ly:Ec X (compareOp .IsNot) (λx y H Q=>y=.non/\Q (.bl (!decide (x=.non))) H):=by
 intro a6 s σ H x y v u Q I rx ry h;obtain⟨rfl,q⟩:=h;cases ry;refine isnot_none_gen (As I q ?_)
 cases x<;>first
  | (cases rx;rfl)
  | (obtain⟨t,rfl⟩:=rx;rfl)
theorem AQ(b:Expr)(h:op≠.In:=by decide)(h2:op≠.NotIn:=by decide):behindInMarks op b=false:=by
 have e1:(op==CmpOp.In)=false:=by cases op<;>first|rfl|exact qG rfl h
 have e2:(op==CmpOp.NotIn)=false:=by cases op<;>first|rfl|exact qG rfl h2
 cases b<;>simp[behindInMarks,e1,e2]
theorem Bv{r:R2}(ho:Ec X (compareOp op) r)(ha:PE X a ta)(hb:PE X b tb)(hm:behindInMarks op b=false):PE X (.Compare a [op] [b] pos) (Uj r ta tb):=by intro a6 s σ H Q I h;exact wpAny_Compare1 (Sl ha hb I h λv u s2 x y H2 I2 rx ry q=>ho a6 s2 σ H2 x y v u Q I2 rx ry q) hm
def Ro(t:TE):TT:=λσ H Q=>t σ H λx H'=>∃k,x=.bl k/\Q k H'
theorem AM{r:R2}(ho:Ec X (compareOp op) r)(ha:PE X a ta)(hb:PE X b tb)(hm:behindInMarks op b=false):PT X (.Compare a [op] [b] pos) (Ro (Uj r ta tb)):=by
 intro a6 s σ H Q I h
 refine wpAny_isTrue_Compare1 (BJ (ha a6 s σ H _ I h) λv s1 ⟨x,H1,I1,r1,q1⟩=>BJ (hb a6 s1 σ H1 _ I1 q1) λu s2 ⟨y,H2,I2,r2,q2⟩ =>
  BJ (ho a6 s2 σ H2 x y v u _ I2 r1 r2 q2) λc s3 ⟨z,H3,I3,r3,k,e,q3⟩=>?_) hm
 subst e;cases r3;exact wpAny_truthy_bool ⟨H3,I3,q3⟩
theorem Kx:(sizeLine:Nat)<2^63:=by rw[sizeLine_eq];decide
theorem E4{x:V}(r:Aq [x] us):∃u,us=[u]/\A4 x u:=by
 cases r with
 |cons r1 r2=>cases r2;exact⟨_,rfl,r1⟩
theorem Jn{x y:V}(r:Aq [x,y] us):∃u w',us=[u,w']/\A4 x u/\A4 y w':=by
 cases r with
 |cons r1 r2 =>
  cases r2 with
  |cons r3 r4=>cases r4;exact⟨_,_,rfl,r1,r3⟩
theorem IK(hc:X.calm=true):CJ X (.builtin "max") (λxs H Q=>∃i j,xs=[.int i,.int j]/\Q (.int (if j>i then j else i)) H):=by
 intro a6 s σ H xs us Q I r h;obtain⟨i,j,rfl,q⟩:=h;obtain⟨u,w',rfl,⟨t,rfl⟩,⟨t',rfl⟩⟩:=Jn r;refine max_two_ints (I.ok.hd hc) λh' tk k=>⟨_,H,I.kept k,?_,q⟩
 by_cases hj:j>i
 ·rw[qF hj,qF hj];exact⟨_,rfl⟩
 ·rw[qE hj,qE hj];exact⟨_,rfl⟩
end
structure Sq(h:Heap)(x dx C:qR)(mA:Str->Option qQ):Prop where
 obj:h.get? x=some (PySem.W.instObj C dx)
 ns:h.Ns1 dx mA
 ne:dx≠x
theorem NF{h:Heap}{dx:qR}{mA:Str->Option qQ}(n:h.Ns1 dx mA):∃od,h.get? dx=some od/\∀name,PySem.W.lookIn name od=some (mA name):=by
 refine byG λGq hGq=>?_;obtain⟨o,es,ep,ho,hd,hk,_,hm⟩:=n;refine hGq ?_;clear hGq Gq;refine⟨o,ho,λname=>?_⟩;have e:=hm name;unfold nsFind findBy at e;rw[<-Array.find?_toList]at e;unfold PySem.W.lookIn;rw[hd];dsimp only;split
 ·rename_i y q
  rw[q]at e;exact qP some e
 ·rename_i q
  rw[q]at e
  have a:es.toList.any (·.refKey)=false:=by rw[List.any_eq_false];intro y hy;obtain⟨z,t,hkey⟩:=hk y (Array.mem_toList_iff.mp hy);simp[DictEntry.refKey,hkey]
  have a':¬es.toList.any (·.refKey)=true:=by rw[a];exact Xx
  rw[qE a'];exact qP some e
variable{C:qR}
theorem Sq.look{h:Heap}{x dx:qR}{mA:Str->Option qQ}(I:Sq h x dx C mA):∃od,PySem.W.InstAt h x (PySem.W.instObj C dx) C (some od)/\∀name,PySem.W.lookIn name od=some (mA name):=
 let ⟨od,ho,hl⟩:=NF I.ns
 ⟨od,⟨I.obj,rfl,rfl,ho⟩,hl⟩
theorem Ge.some_of{v:V}{o:Option qQ}(r:Ge (some v) o):∃u,o=some u/\A4 v u:=by
 cases o with
 |none=>exact (show False from r).elim
 |some u=>exact⟨u,rfl,r⟩
section
variable{P:qT}{w:qU}{h h':Heap}{dx:qR}{fs fs':List (Str×V)}
theorem Lz(hok:Dk P w H h)(e:H a=some (.ins C dx fs)):∃mA,Sq h a dx C mA/\(∀f,Ge (fs.lookup f) (mA f))/\PySem.Within mA (fs.map (·.1))/\fs.length<=1000/\H dx=some (.own a):=by refine byG λGq hGq=>?_;obtain⟨d,z,ne,ob,mA,n,r,q⟩:=(show Ag P w H h a (.ins C dx fs) from hok a _ e);refine hGq ?_;clear hGq Gq;exact⟨mA,⟨ob,n,ne⟩,r,q,z,d⟩
end
structure Wj(K:qV)(C:qR):Prop where
 pg:PySem.W.plainGet K C Str.empty=true
 hd:PySem.W.hasDictIn K C=true
 po:PySem.W.plainOver K C=true
 sa:PySem.W.findIn K (.ref C) "__setattr__"=some (some (.builtin "object.__setattr__"))
theorem Wj.get{K:qV}(c:Wj K C)(f:Str):PySem.W.plainGet K C f=true:=c.pg
section
variable{s:qS}{A:Around}{c:qQ}{b:Bool}
inductive Fb(K:qV)(H:Hp):V->qQ->Prop where
 |non:Fb K H .non (.type "NoneType")
 |bl (x:Bool):Fb K H (.bl x) (.type "bool")
 |int (i:Int):Fb K H (.int i) (.type "int")
 |str (x:Str):Fb K H (.str x) (.type "str")
 |flt (x:UInt64):Fb K H (.flt x) (.type "float")
 |lst {a:qR} {xs:List V} (e:H a=some (.lst xs)):Fb K H (.ref a) (.type "list")
 |frz {a:qR} {o:Obj} {xs:List V} (e:H a=some (.frz o (.lst xs))):Fb K H (.ref a) (.type "list")
 |tup {a:qR} {xs:List V} (e:H a=some (.tup xs)):Fb K H (.ref a) (.type "tuple")
 |dK {a:qR} {kvs:List (BQ×V)} (e:H a=some (.dK kvs)):Fb K H (.ref a) (.type "dict")
 |dT {a:qR} {kvs:List (List BQ×V)} (e:H a=some (.dT kvs)):Fb K H (.ref a) (.type "dict")
 |ins {a C dx:qR} {fs:List (Str×V)} (e:H a=some (.ins C dx fs)) (cl:Wj K C) (ha:PySem.W.findIn K (.ref C) "__class__"=some (some (.builtin "object.__class__")))
   (hn:PySem.W.specialIn K (.builtin "object.__class__") "__get__"=some (some (.builtin "getset_descriptor.__get__"))) (htk:PySem.W.takesIn K (.builtin "object.__class__")=some true)
   (hm:PySem.W.mroIn K C (.type "object")=some true):Fb K H (.ref a) (.ref C)
theorem NG{x:V}{t:qQ}(I:AR X a6 σ H s)(rx:A4 x u)(ty:Fb X.K H x t)(e:PySem.W.kitOne X.K t c=some b)(h:∀tk,Q (.bool b) {s with toks:=tk}):
  wpAny (model X.prog X.w) A (call (.builtin "isinstance") [u,c]) Q E s:=by
 cases ty with
 |non=>cases (show u=Value.none from rx);exact Yk PySem.W.kitx_none I.kIn True.intro e (λz=>nomatch z) h
 |bl y=>cases (show u=Value.bool y from rx);exact Yk PySem.W.kitx_bool I.kIn True.intro e (λz=>nomatch z) h
 |int i=>obtain⟨t,q⟩:=(show ∃t,u=Value.int i t from rx);cases q;exact Yk PySem.W.kitx_int I.kIn True.intro e (λz=>nomatch z) h
 |str y=>obtain⟨t,q⟩:=(show ∃t,u=Value.str y t from rx);cases q;exact Yk PySem.W.kitx_str I.kIn True.intro e (λz=>nomatch z) h
 |flt y=>obtain⟨t,q⟩:=(show ∃t,u=Value.float y t from rx);cases q;exact Yk PySem.W.kitx_float I.kIn True.intro e (λz=>nomatch z) h
 | @lst a xs ea =>
  cases (show u=Value.ref a from rx);obtain⟨_,_,n,_,h1⟩:=(show Ag X.prog X.w H s.heap a (.lst xs) from I.hok a _ ea);exact Yk Zx I.kIn ⟨_,h1,rfl⟩ e (λz=>nomatch z) h
 | @frz a ob xs ea =>
  cases (show u=Value.ref a from rx);obtain⟨_,_,_,n,_,h1⟩:=(show Ag X.prog X.w H s.heap a (.frz ob (.lst xs)) from I.hok a _ ea);exact Yk Zx I.kIn ⟨_,h1,rfl⟩ e (λz=>nomatch z) h
 | @tup a xs ea =>
  cases (show u=Value.ref a from rx);obtain⟨_,_,_,p⟩:=(show Ag X.prog X.w H s.heap a (.tup xs) from I.hok a _ ea);obtain⟨o,h1,h2,_⟩:=p;exact Yk PySem.W.kitx_tuple I.kIn ⟨o,h1,h2⟩ e (λz=>nomatch z) h
 | @dK a kvs ea =>
  cases (show u=Value.ref a from rx);obtain⟨_,_,vs,_,p⟩:=(show Ag X.prog X.w H s.heap a (.dK kvs) from I.hok a _ ea);obtain⟨o,es,ep,h1,h2,_⟩:=p;exact Yk Zy I.kIn ⟨o,h1,h2.1⟩ e (λz=>nomatch z) h
 | @dT a kvs ea =>
  cases (show u=Value.ref a from rx);obtain⟨_,_,xs,_,o,es,ep,h1,h2,_⟩:=(show Ag X.prog X.w H s.heap a (.dT kvs) from I.hok a _ ea);exact Yk Zy I.kIn ⟨o,h1,h2.1⟩ e (λz=>nomatch z) h
 | @ins a C dx fs ea cl ha hn htk hm =>
  cases (show u=Value.ref a from rx);obtain⟨mA,O,_⟩:=Lz I.hok ea;obtain⟨od,J,_⟩:=O.look;exact Yk (PySem.W.kitx_own (cl.get _) cl.hd ha hn htk hm) I.kIn J e (λz=>nomatch z) h
end
structure Bg(k:Nat)(A:Around):Prop where
 hd:A.handled=none
 dp:A.depth+3*k+5<recursionLimit
 un:A.units+16*k+200<cLine
theorem Bg.mono{k:Nat}{A:Around}(r:Bg k A)(h:j<=k):Bg j A:=⟨r.hd,by have:=r.dp;lia,by have:=r.un;lia⟩
theorem Bg.deeper{k:Nat}{A:Around}(r:Bg (k+1) A)(env:Env):Bg k (A.deeper env):=
 ⟨r.hd,by have:=r.dp;show A.depth+1+3*k+5<_;lia,by have:=r.un;show A.units+3+16*k+200<_;lia⟩
theorem Bg.in1{k:Nat}{A:Around}(r:Bg (k+1) A):Bg k A.in1:=
 ⟨r.hd,by have:=r.dp;show A.depth+3*k+5<_;lia,by have:=r.un;show A.units+1+16*k+200<_;lia⟩
theorem Bg.depth{k:Nat}{A:Around}(r:Bg k A):A.depth<recursionLimit:=by have:=r.dp;lia
theorem Bg.units{k:Nat}{A:Around}(r:Bg k A):A.units+64<cLine:=by have:=r.un;lia
def IC:TA:=λ_ H Q=>Q [] H
def Dt(ta:TE)(tr:TA):TA:=λσ H Q=>ta σ H λx H1=>tr σ H1 λxs H2=>Q (x::xs) H2
section
variable{e:Expr}{t:TA}{pos:Pos}
theorem AD:PA X [] IC:=λ_ _ _ _ H Q I h=>Calls.spliced_nil ⟨[],H,I,.nil,h⟩
theorem AA(ha:PE X e te)(hr:PA X es t)(hs:starEach (e::es) X.env=(false,eval e X.env)::starEach es X.env:=by rfl):PA X (e::es) (Dt te t):=by intro pos a6 s σ H Q I h;rw[hs];show wpAny _ _ (spliced ((false,eval e X.env)::backTo pos (starEach es X.env))) _ _ s;refine Calls.spliced_cons (BJ (ha a6 s σ H _ I h) λu s1 z9=>?_);obtain⟨x,H1,I1,r1,q1⟩:=z9;exact BJ (hr pos a6 s1 σ H1 _ I1 q1) λus s2 ⟨xs,H2,I2,r2,q2⟩=>⟨x::xs,H2,I2,.cons r1 r2,q2⟩
def Sr(t:TA):TE:=λσ H Q=>t σ H λxs H1=>xs.length<=sizeLine/\∀p,H1 p=none->Q (.ref p) (AT H1 p (.tup xs))
def Ss(t:TA):TE:=λσ H Q=>t σ H λxs H1=>xs.length<=sizeLine/\∀p,H1 p=none->Q (.ref p) (AT H1 p (.lst xs))
theorem BI{x1}(h:PA X es t):PE X (.Tuple es x1 pos) (Sr t):=by intro a6 s σ H Q I hq;refine wpAny_Tuple_spliced (BJ (h pos a6 s σ H _ I hq) λus s1 ⟨xs,H1,I1,r,z,q⟩=>⟨by rw[<-r.length];exact z,?_⟩);have hf:H1 s1.heap.objs.size=none:=I1.hok.fresh (Xi _);refine⟨.ref s1.heap.objs.size,AT H1 s1.heap.objs.size (.tup xs),I1.laid (t':=s1.toks) (λb u e=>Xh _ e) (Xi _) ?_,rfl,q _ hf⟩;exact⟨z,us,r,⟨_,Xs _ rfl,rfl,_,rfl⟩⟩
theorem Aw(h:PA X es t):PE X (.List es pos) (Ss t):=by intro a6 s σ H Q I hq;refine wpAny_List_spliced (BJ (h pos a6 s σ H _ I hq) λus s1 ⟨xs,H1,I1,r,z,q⟩=>⟨by rw[<-r.length];exact z,?_⟩);have hf:H1 s1.heap.objs.size=none:=I1.hok.fresh (Xi _);refine⟨.ref s1.heap.objs.size,AT H1 s1.heap.objs.size (.lst xs),I1.laid (t':=s1.toks) (λb u e=>Xh _ e) (Xi _) ?_,rfl,q _ hf⟩;exact⟨z,us,0,r,Xs _ rfl⟩
end
abbrev Sp:=List V->Hp->VK->XK->Prop
abbrev QJ:=List Env->Hp->qS->XK->qQ->qS->Prop
structure OG(P:qT)(w:qU)(K:qV)(mg:Str->Option qQ)(base:Heap)(A:Around)(outer:List Env)(s:qS)(H:Hp):Prop where
 frames:A.frames=some outer
 mod:WU K mg base
 bs:∀b o,base.get? b=some o->s.heap.get? b=some o/\H b=none
 bsz:base.objs.size<=s.heap.objs.size
 funs:s.heap.FunFrames base outer
 frf:∀b∈Dq outer,H b=none
 hok:Dk P w H s.heap
 bare:AllBare s.gens
def CE(outer:List Env)(P:qT)(w:qU)(H:Hp)(s:qS)(Q:VK)(u:qQ)(s':qS):Prop:=
 ∃v H',s'.os=s.os/\AllBare s'.gens/\Un (Dq outer) [] H H' s.heap s'.heap/\Dk P w H' s'.heap/\A4 v u/\Q v H'
def CR(CX:QJ)(outer:List Env)(P:qT)(w:qU)(H:Hp)(s:qS)(Q:VK)(E:XK)(r:Result)(s':qS):Prop:=
 match r with
 |.ok (.ret u)=>CE outer P w H s Q u s'
 |.ok _=>False
 |.error e=>CX outer H s E e s'
structure Fc(P:qT)(w:qU)(K:qV)(mg:Str->Option qQ)(base:Heap)(CX:QJ)(k:Nat)(f:qR)(fd:FuncData)(ps:List Str)(sp:Sp):Prop where
 len:∀vs H Q E,sp vs H Q E->vs.length=ps.length
 run:∀(A:Around) (outer:List Env) (s:qS) (H:Hp) (args:Args) (us:List qQ) (vs:List V) (Q:VK) (E:XK),Bg k A->OG P w K mg base A outer s H->BindsTo s fd args (ps.zip us)->Aq vs us->sp vs H Q E ->
  codeAny (model P w) A (.call (.ref f) args) (CR CX outer P w H s Q E) s
section
variable{s:qS}
theorem AR.env0(I:AR X a6 σ H s):OG X.prog X.w X.K X.mg X.base X.A X.stack s H:=
 ⟨I.ok.frames,I.ok.mod,I.bs,YG I.ok.bsz I.sz,I.stack,I.stkFree,I.hok,I.bare⟩
theorem AR.after{Q:VK}(I:AR X a6 σ H s)(h:CE X.stack X.prog X.w H s Q u s'):EP X a6 σ Q u s':=by refine byG λGq hGq=>?_;obtain⟨v,H',os,bare,un,hok,r,q⟩:=h;refine hGq ?_;clear hGq Gq;refine byG λGq hGq=>?_;obtain⟨hh,g,d,t,os'⟩:=s';refine hGq ?_;clear hGq Gq;obtain rfl:os'=s.os:=os;exact⟨v,H',I.call (h':=hh) (g':=g) (d':=d) (t':=t) (ch:=[]) un hok bare (λb z=>qG z (by simp)),r,q⟩
end
def F7(K:qV)(fd:FuncData)(ps:List Str)(ds:List qQ):Prop:=
 ∀(s:qS) (us:List qQ),K.In s.heap->(us++ds).length=ps.length->BindsTo s fd ⟨us,[]⟩ (ps.zip (us++ds))
variable{fd:FuncData}{ps:List Str}
theorem F7.all{K:qV}(h:∀us:List qQ,us.length=ps.length->bindArgs fd ⟨us,[]⟩=pure (ps.zip us)):F7 K fd ps []:=λs us _ hl=>by rw[X6]at hl⊢;exact .of_eq (h us hl)
def PK(X:Cx)(kws:List Keyword)(t:TA):Prop:=
 ∀(pos:Pos) (a6:List (qR×Obj)) (s:qS) (σ:St) (H:Hp) (Q:List V->Hp->Prop),AR X a6 σ H s->t σ H Q->wpAny (model X.prog X.w) X.A (evalAll ((backToKw pos (keywordEach kws X.env)).map (·.2))) (AP X a6 σ Q) X.xe s
section
variable{CX:QJ}{k:Nat}{f:qR}{ks:List Str}{sp:Sp}{E:XK}{m:Str}{p pos apos kpos:Pos}{e o:Expr}{kws:List Keyword}{ta:TE}{t tk:TA}{nm:Option Str}
theorem Su:PK X [] IC:=λ_ _ _ _ H Q I h=>wpAny_evalAll_nil ⟨[],H,I,.nil,h⟩
theorem QY(ha:PE X e te)(hr:PK X kws t):PK X (⟨nm,e,kpos⟩::kws) (Dt te t):=by intro pos a6 s σ H Q I h;show wpAny _ _ (evalAll ((do let v <-eval e X.env;standAt pos;pure v)::(backToKw pos (keywordEach kws X.env)).map (·.2))) _ _ s;refine wpAny_evalAll_cons (qC (BJ (ha a6 s σ H _ I h) λu s1 ⟨x,H1,I1,r1,q1⟩=>qC (wpAny_standAt (qD ?_))));exact BJ (hr pos a6 s1 σ H1 _ I1 q1) λus s2 ⟨xs,H2,I2,r2,q2⟩=>⟨x::xs,H2,I2,.cons r1 r2,q2⟩
variable{g:List qQ->List qQ->List qQ}{gV:List V->List V->List V}
end
structure AL(N P:List Str)(sc:Scope):Prop where
 kind:sc.kind=.function
 co:sc.isCoroutine=false
 gen:sc.isGenerator=false
 nd:N.Nodup
 pre:N.take P.length=P
 par:∀x∈P,sc.names.lookup x=some .local\/sc.names.lookup x=some .cell
 nofree:∀y∈sc.names,y.2≠.free
variable{kindOf:Str->Option NameKind}
theorem IL:∀{binds:List (Str×qQ)} {m:Str->Option qQ},(∀v,(x,v)∉binds)->bindL kindOf binds m x=m x
 |[],_,_=>rfl
 | (n,v)::r,m,h=>by
  unfold bindL;rw[IL λw hw=>h w (Xw _ hw)];split
  ·have:x≠n:=by rintro rfl;exact h v X5
   simp[this]
  ·rfl
theorem IM:∀{binds:List (Str×qQ)} {m:Str->Option qQ},(∀v,(x,v)∉binds)->bindC kindOf binds m x=m x
 |[],_,_=>rfl
 | (n,v)::r,m,h=>by
  unfold bindC;rw[IM λw hw=>h w (Xw _ hw)];split
  ·rfl
  ·have:x≠n:=by rintro rfl;exact h v X5
   simp[this]
theorem Fd{v:qQ}:∀{P:List Str} {vs:List qQ} {i:Nat} {m:Str->Option qQ},P.Nodup->P[i]?=some x->vs[i]?=some v->kindOf x=some .local ->
  bindL kindOf (P.zip vs) m x=some v
 |[],_,_,_,_,h,_,_=>by simp at h
 |_::_,[],_,_,_,_,h,_=>by simp at h
 |p::P,w::vs,0,m,nd,h1,h2,hk=>by simp at h1 h2;subst h1;subst h2;show bindL kindOf ((p,w)::P.zip vs) m p=_;unfold bindL;rw[IL λv hv=>(Yd.mp nd).1 (ZX hv).1,qF hk];simp
 |p::P,w::vs,i+1,m,nd,h1,h2,hk=>by show bindL kindOf ((p,w)::P.zip vs) m x=_;unfold bindL;exact Fd (i:=i) (List.nodup_cons.mp nd).2 (by simpa using h1) (by simpa using h2) hk
theorem Fe{v:qQ}:∀{P:List Str} {vs:List qQ} {i:Nat} {m:Str->Option qQ},P.Nodup->P[i]?=some x->vs[i]?=some v->kindOf x≠some .local ->
  bindC kindOf (P.zip vs) m x=some v
 |[],_,_,_,_,h,_,_=>by simp at h
 |_::_,[],_,_,_,_,h,_=>by simp at h
 |p::P,w::vs,0,m,nd,h1,h2,hk=>by simp at h1 h2;subst h1;subst h2;show bindC kindOf ((p,w)::P.zip vs) m p=_;unfold bindC;rw[IM λv hv=>(Yd.mp nd).1 (ZX hv).1,qE hk];simp
 |p::P,w::vs,i+1,m,nd,h1,h2,hk=>by show bindC kindOf ((p,w)::P.zip vs) m x=_;unfold bindC;exact Fe (i:=i) (List.nodup_cons.mp nd).2 (by simpa using h1) (by simpa using h2) hk
noncomputable def CK(N:List Str)(vs:List V):St:=vs.map some++List.replicate (N.length-vs.length) none
noncomputable def Dr(CX:QJ)(P:qT)(w:qU)(K:qV)(mg:Str->Option qQ)(base:Heap)(N:List Str)(qual:Str)(scope:Scope)(f:qR)(cd:qQ)(A:Around)(outer:List Env)(s:qS)(H:Hp)(E:XK):Cx where
 prog:=P
 w:=w
 K:=K
 mg:=mg
 base:=base
 A:=A.deeper (envOfC qual scope s.heap.objs.size f cd)
 N:=N
 s₀:=s
 H₀:=H
 env:=envOfC qual scope s.heap.objs.size f cd
 outer:=outer
 stack:=envOfC qual scope s.heap.objs.size f cd::outer
 ex:=[]
 calm:=true
 fn:=λ_=>true
 pn:=[]
 xe:=λe s'=>wpAny (model P w) (A.deeper (envOfC qual scope s.heap.objs.size f cd)) (leaving (envOfC qual scope s.heap.objs.size f cd) e) (λ_ s''=>CX outer H s E e s'') (λe' s''=>CX outer H s E e' s'') s'
theorem E5{sc:Scope}{n:Nat}(h:sc.names.lookup x=some .cell):∃c,(cellsFrom n sc.names []).lookup x=some c:=by have q:=Zu sc.names n [] (.inl h);exact ZK.mp q
variable{CX:QJ}{qual:Str}{scope:Scope}
theorem NH{P:qT}{w:qU}{K:qV}{mg:Str->Option qQ}{base:Heap}{N:List Str}{f:qR}{cd:qQ}{A:Around}{outer:List Env}{s s1:qS}{E:XK}{vs:List V}
  (S:AL N ps scope) (hd:A.handled=none) (e0:OG P w K mg base A outer s H) (hl:vs.length=ps.length) (r:Aq vs us)
  (x:InCallC s s.heap.objs.size (bindL (envOfC qual scope s.heap.objs.size f cd).kindOf (ps.zip us) λ_=>none) (cellsFrom (s.heap.objs.size+1) scope.names []) (bindC (envOfC qual scope s.heap.objs.size f cd).kindOf (ps.zip us) λ_=>none) s1):
  AR (Dr CX P w K mg base N qual scope f cd A outer s H E) [] (CK N vs) H s1:=by
 have hpl:ps.length<=N.length:=by have:=qP List.length S.pre;rw[YL]at this;lia
 obtain⟨h1,tk,rfl,hk⟩:=x.done;have noA:∀b:qR,b∉(Dr CX P w K mg base N qual scope f cd A outer s H E).ex:=λb z=>qG (show b∈([]:List qR) from z) (by simp)
 refine⟨⟨e0.mod,S.kind,rfl,rfl,Xi _,λy z c h1 h2=>?_,λy hy=>?_,λy c _ h=>?_,λ_=>hd,Around.frames_deeper e0.frames,.inr ⟨rfl,rfl⟩,λb z=>qG z (noA b),e0.bs,e0.bsz,λb _ _=>noA b,λb z=>qG z (noA b),e0.funs,e0.frf⟩,
  rfl,e0.bare,Un.kept hk,⟨_,x.toInCall.ns,λi y v h1 h2 h3=>?_⟩,λy c h=>⟨_,x.cell y c h⟩,e0.hok.fresh (Nat.le_refl _),λy c h=>?_,λp hp=>qG (show p∈([]:List (qR×Obj)) from hp) (by simp),e0.hok.kept hk,?_⟩
 ·exact name_of_addr x.apart (YV h1) (YV h2)
 ·have hy:scope.names.lookup y=some .cell\/scope.names.lookup y=some .free:=hy;rcases hy with hy|hy
  ·exact E5 hy
  ·exact qG rfl (S.nofree _ (YV hy))
 ·exact Y9 (x.above y c (YV h))
 ·have hi:i<vs.length:=by
   unfold CK at h2
   by_cases hi:i<vs.length
   ·exact hi
   ·rw[List.getElem?_append_right (by simpa using hi)]at h2;rw[List.getElem?_replicate]at h2
    split at h2<;>cases h2
  have ha:vs[i]?=some v:=by
   unfold CK at h2;rw[List.getElem?_append_left (by simpa using hi),List.getElem?_map]at h2;cases e:vs[i]? with
   |none=>rw[e]at h2;cases h2
   |some a=>rw[e]at h2;cases h2;rfl
  obtain⟨u,hu,rv⟩:=r.get ha
  have hp:ps[i]?=some y:=by rw[<-S.pre,List.getElem?_take_of_lt (by lia)];exact h1
  have ndP:ps.Nodup:=by rw[<-S.pre];exact S.nd.sublist (List.take_sublist _ _)
  refine⟨u,rv,?_⟩;rcases S.par y (Xq hp) with k|k
  ·exact .inl ⟨k,Fd ndP hp hu k⟩
  ·obtain⟨c,e⟩:=E5 (n:=s.heap.objs.size+1) k;refine .inr ⟨.inl k,c,e,?_⟩;have q:=x.cell y c e;rw[Fe ndP hp hu (by show scope.names.lookup y≠_;rw[k];decide)]at q;exact q
 ·exact e0.hok.fresh (Y9 (x.above y c (YV h)))
 ·unfold CK;show _=N.length;rw[Xt,Xf,Ys];lia
variable{name:Str}{params:Arguments}{doc ae oc:qQ}{an od:Option qR}
theorem Rp{P:qT}{w:qU}{K:qV}{mg:Str->Option qQ}{base:Heap}{k:Nat}{f:qR}{dV kV pm ct:qQ}
  {osl:Array (Option qQ)} {N ps:List Str} {sp:Sp} (lk:K.lookup f=some ⟨oc,od,.func (PySem.W.fnOf name qual params body scope dV kV doc pm an ae ct),osl⟩) (hcd:PySem.W.codeIn K ae qual=true) (S:AL N ps scope)
  (len:∀vs H Q E,sp vs H Q E->vs.length=ps.length)
  (hbody:∀(A:Around) (outer:List Env) (s:qS) (H:Hp) (vs:List V) (Q:VK) (E:XK),Bg k (A.deeper (envOfC qual scope s.heap.objs.size f ae))->sp vs H Q E ->
   ∃t,F6 (Dr CX P w K mg base N qual scope f ae A outer s H E) body t/\t {nx:=λ_ H'=>Q .non H',rt:=Q} (CK N vs) H):
  Fc P w K mg base CX (k+1) f (PySem.W.fnOf name qual params body scope dV kV doc pm an ae ct) ps sp:=by
 refine⟨len,λA outer s H args us vs Q E hr e0 hb r hsp=>?_⟩;have hl:=len _ _ _ _ hsp;have KX:K.In s.heap:=e0.mod.kin.keeps λb o e=>(e0.bs b o e).1
 have lim:s.heap.NoLimit:=e0.mod.nolimit.keeps λb o e=>(e0.bs b o e).1
 have hkind:∀y∈ps.zip us,scope.names.lookup y.1=some .local\/(scope.names.lookup y.1=some .cell/\((cellsFrom (s.heap.objs.size+1) scope.names []).lookup y.1).isSome=true):=λ⟨n,v⟩ hy=>by
  rcases S.par n (ZX hy).1 with q|q
  ·exact .inl q
  ·exact .inr ⟨q,Zu _ _ _ (.inl q)⟩
 refine codeAny_call_function hr.depth (KX _ _ lk) rfl S.co S.gen rfl (PySem.W.codeRec_of KX hcd) (hb _ _ _ _ ?_);refine wpAny_newFunctionEnv_cells S.kind hkind λenv he s1 x=>?_;subst he;refine⟨lim.keeps x.toInCall.keep,codeAny_func ?_⟩;obtain⟨t,ht,hq⟩:=hbody A outer s H vs Q E (hr.deeper _) hsp;have I:AR (Dr CX P w K mg base N qual scope f ae A outer s H E) [] (CK N vs) H s1:=NH S hr.hd e0 hl r x;refine qM (ht [] s1 (CK N vs) H _ I hq) (λfl s' hs=>?_) λe s' hs=>hs
 have fin:∀{σ':St} {H':Hp} {v:V} {u:qQ},AR (Dr CX P w K mg base N qual scope f ae A outer s H E) [] σ' H' s'->A4 v u->Q v H'->CE outer P w H s Q u s':=
  λ{σ' H' v u} J rv q=>⟨v,H',J.os,J.bare,J.base,J.hok,rv,q⟩
 cases fl with
 |ret u =>
  obtain⟨v,σ',H',J,rv,q⟩:=hs;exact fin J rv q
 |next =>
  obtain⟨σ',H',J,q⟩:=hs;exact fin (v:=V.non) (u:=Value.none) J rfl q
 |brk =>
  obtain⟨_,_,_,q⟩:=hs;exact False.elim q
 |cont =>
  obtain⟨_,_,_,q⟩:=hs;exact False.elim q
section
variable{p pos:Pos}{e:Expr}{t:TA}{id T:String}{r:List V->Hp->VK->Prop}
def Uk(r:List V->Hp->VK->Prop)(t:TA):TE:=λσ H Q=>t σ H λvs H1=>r vs H1 Q
theorem Ai(hc:CJ X (.builtin id) r)(hg:Gl X x)(hm:X.mg x=none)(hv:bootBuiltins x=some (.builtin id))(ha:PA X (e::es) t)(hn:x≠"__name__":=by decide)(hdb:(x==("__debug__":Str))=false:=by decide)
  (he:starEach (e::es) X.env=(false,eval e X.env)::starEach es X.env:=by rfl) (hpl:(backTo pos (starEach es X.env)).any (·.1)=false:=by rfl):PE X (.Call (.Name x p) (e::es) [] pos) (Uk r t):=by
 intro a6 s σ H Q I h;refine wpAny_Call_Name_kw (Ck I hg hm hv ?_ hn hdb);exact PyProof.Rows.callWith_builtin1 (BJ (ha pos a6 s σ H _ I h) λus s1 ⟨vs,H1,I1,r1,q1⟩=>hc a6 s1 σ H1 vs us Q I1 r1 q1) he hpl
theorem Bs(hc:CJ X (.type T) r)(hg:Gl X x)(hm:X.mg x=none)(hv:bootBuiltins x=some (.type T))(ha:PA X (e::es) t)(hn:x≠"__name__":=by decide)(hdb:(x==("__debug__":Str))=false:=by decide)
  (he:starEach (e::es) X.env=(false,eval e X.env)::starEach es X.env:=by rfl) (hpl:(backTo pos (starEach es X.env)).any (·.1)=false:=by rfl):PE X (.Call (.Name x p) (e::es) [] pos) (Uk r t):=by
 intro a6 s σ H Q I h;refine wpAny_Call_Name_kw (Ck I hg hm hv ?_ hn hdb);exact YU (BJ (ha pos a6 s σ H _ I h) λus s1 ⟨vs,H1,I1,r1,q1⟩=>hc a6 s1 σ H1 vs us Q I1 r1 q1) he hpl
end
end L2
namespace HT
open PySem PyProof.Rows
noncomputable def B7:qW->qW->Bool
 |[],[]=>false
 |[],_::_=>true
 |_::_,[]=>false
 |x::xs,y::ys=>if x=y then B7 xs ys else decide (x<y)
theorem DX(x y:Int)(xs ys:qW):B7 (x::xs) (y::ys)=if x=y then B7 xs ys else decide (x<y):=rfl
theorem DF:B7 [] []=false:=rfl
theorem Gj(y:Int)(ys:qW):B7 [] (y::ys)=true:=rfl
theorem Cn(x:Int)(xs:qW):B7 (x::xs) []=false:=rfl
section
variable{prog:qT}{w:qU}{A:Around}{E:qQ->qS->Prop}{s:qS}
theorem QZ{t b:qR}{vs ws:List qQ}{Q:qQ->qS->Prop}(ht:IsTup s.heap t vs.toArray)(hb:IsTup s.heap b ws.toArray)(hv:vs≠[])
  (h1:ws=[]->Q (.ref t) s) (h2:ws≠[]->Q (.ref s.heap.objs.size) {s with heap:=s.heap.push {cls:=.type "tuple",data:=.seq (vs++ws).toArray}})
  (hsz:vs.length+ws.length<=sizeLine):wpAny (model prog w) A (binaryOp .Add (.ref t) (.ref b)) Q E s:=by
 refine byG λGq hGq=>?_;obtain⟨⟨cls,dd,data,sl⟩,ho,hc,n,hd⟩:=id ht;refine hGq ?_;clear hGq Gq;refine byG λGq hGq=>?_;obtain⟨⟨cls2,dd2,data2,sl2⟩,ho2,hc2,n2,hd2⟩:=id hb;refine hGq ?_;clear hGq Gq;simp only at hc hd hc2 hd2;subst hc hd hc2 hd2;have e:vs.toArray++ws.toArray=(vs++ws).toArray:=by simp
 by_cases hw:ws=[]
 ·exact concat_meets ⟨_,ho,rfl⟩ ⟨_,ho2,rfl⟩ noFill_tuple_add seq_tuple_add PySem.F.slot_tuple_add PySem.F.entry_tuple_add (PySem.F.args_tuple_add_2 _ _)
   (tuple_addW1 t b vs.toArray ws.toArray n n2 dd dd2 sl sl2 (by simpa using hv) (by simp[hw])) ⟨ho,ho2,h1 hw⟩
 ·refine concat_meets ⟨_,ho,rfl⟩ ⟨_,ho2,rfl⟩ noFill_tuple_add seq_tuple_add PySem.F.slot_tuple_add PySem.F.entry_tuple_add (PySem.F.args_tuple_add_2 _ _)
   (tuple_addW2 t b vs.toArray ws.toArray n n2 dd dd2 sl sl2 (by simpa using hv) (by simpa using hw) (by rw[List.size_toArray,List.size_toArray];exact hsz)) ⟨ho,ho2,?_⟩
  rw[e];exact h2 hw
noncomputable def Jo(n d:Nat):Option Int->Nat
 |none=>d
 |some v=>if v<0 then (v+(n:Int)).toNat else min v.toNat n
end
end HT
namespace L2
open PySem PySem.Spec PyProof.Rows
variable{H:Hp}{X:Cx}{es:List Expr}{j t':Nat}{name:Str}{a6:List (qR×Obj)}{te:TE}{us:List qQ}{xs:List V}{α:Type}{σ:St}
abbrev TO:=St->Hp->(Option Int->Hp->Prop)->Prop
def PO(X:Cx)(e:Option Expr)(t:TO):Prop:=
 ∀(a6:List (qR×Obj)) (s:qS) (σ:St) (H:Hp) (Q:Option Int->Hp->Prop),AR X a6 σ H s->t σ H Q ->
  wpAny (model X.prog X.w) X.A (evalPart e X.env) (λu s'=>∃o H',AR X a6 σ H' s'/\IsPart u o/\Q o H') X.xe s
def L0:TO:=λ_ H Q=>Q none H
def Rq(t:TE):TO:=λσ H Q=>t σ H λx H1=>∃i,x=.int i/\Q (some i) H1
theorem DY{ns:qW}:∀{us:List qQ},Aq (ns.map V.int) us->IntsAre us ns:=by
 induction ns with
 |nil=>intro us r;rw[List.map_nil]at r;cases r;exact .nil
 |cons n ns ih =>
  intro us r;rw[Yg]at r;cases r with
  |cons r1 r2 =>
   obtain⟨t,e⟩:=r1;subst e;exact .cons n t (ih r2)
section
variable{e:Expr}{lo hi:Option Expr}{tl th:TO}{pos p2:Pos}
theorem Iq:PO X none L0:=by intro a6 s σ H Q I h;rw[evalPart_none];exact qD ⟨none,H,I,.none,h⟩
theorem Ir(h:PE X e te):PO X (some e) (Rq te):=by intro a6 s σ H Q I hw;rw[evalPart_some];refine BJ (h a6 s σ H _ I hw) λu s1 z9=>?_;obtain⟨x,H1,I1,r1,q1⟩:=z9;obtain⟨i,rfl,q⟩:=q1;obtain⟨t,rfl⟩:=r1;exact⟨some i,H1,I1,.int i t,q⟩
def XV(X:Cx)(r:V->Option Int->Option Int->Hp->VK->Prop):Prop:=
 ∀(a6:List (qR×Obj)) (s:qS) (σ:St) (H:Hp) (x:V) (v vl vu:qQ) (lo hi:Option Int) (sl:qR) (Q:VK),AR X a6 σ H s->A4 x v->s.heap.IsSliceOf sl vl vu .none->IsPart vl lo->IsPart vu hi->r x lo hi H Q ->
  ∃T id,typeLookup (.type T) "__getitem__"=pure (some (.builtin id))/\s.TypeIs v T/\wpAny (model X.prog X.w) X.A (getItem v (.ref sl)) (EP X a6 σ Q) X.xe s
def XW(r:V->Option Int->Option Int->Hp->VK->Prop)(te:TE)(tl th:TO):TE:=λσ H Q=>te σ H λx H1=>tl σ H1 λl H2=>th σ H2 λu H3=>r x l u H3 Q
theorem Gk{r:V->Option Int->Option Int->Hp->VK->Prop}(hr:XV X r)(he:PE X e te)(hl:PO X lo tl)(hu:PO X hi th):PE X (.Subscript e (.Slice lo hi none p2) pos) (XW r te tl th):=by
 intro a6 s σ H Q I h;refine Subscript_ (BJ (he a6 s σ H _ I h) λv s1 z9=>?_);obtain⟨x,H1,I1,r1,q1⟩:=z9;refine wpAny_Slice (BJ (hl a6 s1 σ H1 _ I1 q1) λvl s2 ⟨l,H2,I2,pl,q2⟩=>BJ (hu a6 s2 σ H2 _ I2 q2) λvu s3 z9=>?_);obtain⟨u,H3,I3,pu,q3⟩:=z9;rw[evalPart_none];refine qD ?_;have I4:AR X a6 σ H3 {s3 with heap:=s3.heap.push {cls:=.type "slice",data:=.fields #[vl,vu,.none]}}:=I3.kept (t':=s3.toks) λb ob q=>Xh _ q
 obtain⟨T,id,hT,ht,hg⟩:=hr a6 {s3 with heap:=s3.heap.push {cls:=.type "slice",data:=.fields #[vl,vu,.none]}} σ H3 x v vl vu l u s3.heap.objs.size Q I4 r1 (Heap.IsSliceOf.new ..) pl pu q3;show wpAny (model X.prog X.w) X.A (subscriptTail e (.Slice lo hi none p2) v (.ref s3.heap.objs.size)) (EP X a6 σ Q) X.xe {s3 with heap:=s3.heap.push {cls:=.type "slice",data:=.fields #[vl,vu,.none]}};exact tail_any (ops:=[.ref s3.heap.objs.size,v]) ht hT hg (by with_unfolding_all rfl)
noncomputable def Iu(xs:List V)(lo hi:Option Int):List V:=(xs.drop (HT.Jo xs.length 0 lo)).take (HT.Jo xs.length xs.length hi-HT.Jo xs.length 0 lo)
theorem Jp(xs:List V)(lo hi:Option Int):(Iu xs lo hi).length<=xs.length:=by unfold Iu;rw[YL,Yp];lia
def Rr(K:qV):R2:=λx y H Q=>∃a b xs ys,x=.ref a/\y=.ref b/\Aa K H a xs/\Aa K H b ys/\xs≠[]/\xs.length+ys.length<=sizeLine /\
 (ys=[]->Q (.ref a) H)/\(ys≠[]->∀p,H p=none->Q (.ref p) (AT H p (.tup (xs++ys))))
theorem Aq.nil_iff(r:Aq xs us):us=[]↔xs=[]:=by
 cases r with
 |nil=>simp
 |cons _ _=>simp
theorem Qa:Ec X (binaryOp .Add) (Rr X.K):=by intro a6 s σ H x y v u Q I rx ry h;obtain⟨a,b,xs,ys,rfl,rfl,ha,hb,hx,hz,q1,q2⟩:=h;cases rx;cases ry;obtain⟨its,r1,p1,_⟩:=I.tuple ha;obtain⟨its2,r2,p2,_⟩:=I.tuple hb;refine HT.QZ p1 p2 (λz=>hx (r1.nil_iff.mp z)) (λz=>⟨.ref a,H,I,rfl,q1 (r2.nil_iff.mp z)⟩) (λz=>?_) (by rw[<-r1.length,<-r2.length];exact hz);refine⟨.ref s.heap.objs.size,_,I.laid (t':=s.toks) (o:=.tup (xs++ys)) (λb ob q=>Xh _ q) (Xi _) ?_,rfl,q2 (λw=>z (r2.nil_iff.mpr w)) _ (I.hok.fresh (Xi _))⟩;exact⟨by rw[Xt];exact hz,_,r1.append r2,IsTup.new _ _⟩
end
noncomputable def OH(n:Nat)(i:Int):Option Nat:=if 0<=i then (if i<n then some i.toNat else none) else if -(n:Int)<=i then some (i+n).toNat else none
noncomputable def Kt{α:Type}(xs:List α)(i:Int):Option α:=(OH xs.length i).bind λj=>xs[j]?
theorem Qb{n:Nat}{i:Int}(h:OH n i=some j):seqIndex? i n=some j/\j<n/\-(n:Int)<=i/\i<n:=by
 unfold OH at h
 by_cases h0:0<=i
 ·rw[qF h0]at h
  by_cases h1:i<n
  ·rw[qF h1]at h;have e:i.toNat=j:=Option.some.inj h;exact⟨by rw[seqIndex_of h0 h1,e],by lia,by lia,h1⟩
  ·rw[qE h1]at h;cases h
 ·rw[qE h0]at h
  by_cases h1:-(n:Int)<=i
  ·rw[qF h1]at h;have e:(i+n).toNat=j:=Option.some.inj h;exact⟨by rw[seqIndex_neg (by lia) h1,e],by lia,h1,by lia⟩
  ·rw[qE h1]at h;cases h
theorem L5{xs:List α}{i:Int}{v:α}(h:Kt xs i=some v):∃j,seqIndex? i xs.length=some j/\xs[j]?=some v/\j<xs.length/\-(xs.length:Int)<=i/\i<xs.length:=by
 unfold Kt at h;cases e:OH xs.length i with
 |none=>rw[e]at h;cases h
 |some j =>
  rw[e]at h;obtain⟨h1,h2,h3,h4⟩:=Qb e;exact⟨j,h1,h,h2,h3,h4⟩
theorem GO{xs:List α}{v:α}(h:xs[j]?=some v):Kt xs (j:Int)=some v:=by
 have hj:j<xs.length:=(Xg.mp h).1
 have e:OH xs.length (j:Int)=some j:=by unfold OH;rw[qF (by lia),qF (by lia)];simp
 unfold Kt;rw[e];exact h
def L6(b:Expr):Prop:=∀o i,subscripted b false o i=operate [o,i] (getItem o i)
def Rs(X:Cx)(r:R2):Prop:=
 ∀(value slice:Expr) (a6:List (qR×Obj)) (s:qS) (σ:St) (H:Hp) (x y:V) (v u:qQ) (Q:VK),AR X a6 σ H s->A4 x v->A4 y u->r x y H Q ->
  subscripted slice false v u=operate [v,u] (getItem v u)->wpAny (model X.prog X.w) X.A (subscriptTail value slice v u) (EP X a6 σ Q) X.xe s
def Qc(X:Cx)(id:String)(r:V->List V->Hp->VK->Prop):Prop:=
 ∀(a6:List (qR×Obj)) (s:qS) (σ:St) (H:Hp) (x:V) (xs:List V) (v:qQ) (us:List qQ) (Q:VK),AR X a6 σ H s->A4 x v->Aq xs us->r x xs H Q ->
  wpAny (model X.prog X.w) X.A (call (.builtin id) (v::us)) (EP X a6 σ Q) X.xe s
variable{T:String}
section
variable{a b:Expr}{ta tb:TE}{pos:Pos}
theorem AK{r:R2}(hr:Rs X r)(ha:PE X a ta)(hb:PE X b tb)(hs:L6 b):PE X (.Subscript a b pos) (Uj r ta tb):=by intro a6 s σ H Q I h;exact Subscript_ (Sl ha hb I h λv u s2 x y H2 I2 rx ry q=>hr a b a6 s2 σ H2 x y v u Q I2 rx ry q (hs _ _))
def Qd(K:qV):R2:=λx y H Q=>∃p xs i v,x=.ref p/\y=.int i/\Af K H p xs/\Kt xs i=some v/\Q v H
def Qe(K:qV):R2:=λx y H Q=>∃p xs i v,x=.ref p/\y=.int i/\Aa K H p xs/\Kt xs i=some v/\Q v H
theorem L7:Rs X (Qd X.K):=by
 intro value slice a6 s σ H x y v u Q I rx ry h hs;refine byG λGq hGq=>?_;obtain⟨p,xs,i,z,rfl,rfl,hq,he,q⟩:=h;refine hGq ?_;clear hGq Gq;cases rx;obtain⟨t,rfl⟩:=ry;refine byG λGq hGq=>?_;obtain⟨its,r,pl,hz⟩:=I.list hq;refine hGq ?_;clear hGq Gq;refine byG λGq hGq=>?_;obtain⟨j,h1,h2,h3,h4,h5⟩:=L5 he;refine hGq ?_;clear hGq Gq;obtain⟨w,ew,rw'⟩:=r.get h2;have hl:=r.length;have hn:=Kx;have fin:EP X a6 σ Q w s:=⟨z,H,I,rw',q⟩
 by_cases h0:0<=i
 ·have hj:i.toNat=j:=by
   rw[seqIndex_of h0 h5]at h1;exact Option.some.inj h1
  exact item_listR pl.isList h0 (by lia) (by rw[hj];simpa using ew) fin hs
 ·have hj:(i+(its.toArray.size:Int)).toNat=j:=by
   rw[seqIndex_neg (by lia) h4]at h1;rw[YS,<-hl];exact Option.some.inj h1
  exact subscriptTail_builtinR (x:=w) pl.isList.typeIs slot_list_getitem.lookup
   (wpAny_getItem_list_neg (Q:=λr s'=>r=w/\EP X a6 σ Q r s') pl.isList (by lia) (by rw[List.size_toArray]<;>lia) (by lia) (by rw[hj];simpa using ew) ⟨rfl,fin⟩) hs
theorem OI:Rs X (Qe X.K):=by
 intro value slice a6 s σ H x y v u Q I rx ry h hs;obtain⟨p,xs,i,z,rfl,rfl,hq,he,q⟩:=h;cases rx;obtain⟨t,rfl⟩:=ry;obtain⟨its,r,pl,hz⟩:=I.tuple hq;obtain⟨j,h1,h2,h3,h4,h5⟩:=L5 he;obtain⟨w,ew,rw'⟩:=r.get h2;have hl:=r.length;have hn:=Kx;have fin:EP X a6 σ Q w s:=⟨z,H,I,rw',q⟩
 exact subscriptTail_builtinR (x:=w) pl.typeIs slot_tuple_getitem.lookup
  (getItem_tuple (j:=j) (Q:=λr s'=>r=w/\EP X a6 σ Q r s') pl (by lia) (by lia) (by rw[List.size_toArray,<-hl];exact h1) (by simpa using ew) ⟨rfl,fin⟩) hs
theorem Iv(lo hi:Option Int)(n:Nat):(sliceBounds lo hi none n).1=((HT.Jo n 0 lo:Nat):Int)/\(sliceBounds lo hi none n).2.1=((HT.Jo n n hi:Nat):Int)/\(sliceBounds lo hi none n).2.2=1:=by
 refine⟨?_,?_,rfl⟩
 ·cases lo with
  |none=>simp[sliceBounds,HT.Jo]
  |some i =>
   simp only[sliceBounds,HT.Jo,Option.getD_none,show (1:Int)>0 by decide,if_true]
   by_cases h:i<0
   ·simp only[h,if_true]<;>lia
   ·simp only[h,if_false]<;>lia
 ·cases hi with
  |none=>simp[sliceBounds,HT.Jo]
  |some i =>
   simp only[sliceBounds,HT.Jo,Option.getD_none,show (1:Int)>0 by decide,if_true]
   by_cases h:i<0
   ·simp only[h,if_true]<;>lia
   ·simp only[h,if_false]<;>lia
theorem ID(its:List qQ)(lo hi:Option Int):slicePick its.toArray lo hi none=((its.drop (HT.Jo its.length 0 lo)).take (HT.Jo its.length its.length hi-HT.Jo its.length 0 lo)).toArray:=by obtain⟨h1,h2,h3⟩:=Iv lo hi its.toArray.size;unfold slicePick;rw[h1,h2,h3];simp only[sliceRange_one,pick_run,List.size_toArray]<;>rfl
def U1(K:qV):V->Option Int->Option Int->Hp->VK->Prop:=λx lo hi H Q=>∃a xs,x=.ref a/\Af K H a xs/\∀p,H p=none->Q (.ref p) (AT H p (.lst (Iu xs lo hi)))
theorem Iw:XV X (U1 X.K):=by intro a6 s σ H x v vl vu lo hi sl Q I rx hs pl pu h;refine byG λGq hGq=>?_;obtain⟨a,xs,rfl,hx,q⟩:=h;refine hGq ?_;clear hGq Gq;cases rx;refine byG λGq hGq=>?_;obtain⟨its,r,ht,hz⟩:=I.list hx;refine hGq ?_;clear hGq Gq;have hlen:=r.length;refine⟨"list",_,slot_list_getitem.lookup,ht.isList.typeIs,?_⟩;refine wpAny_getItem_list_slice ht.isList hs pl pu .none (by simp) ?_ (by rw[List.size_toArray]<;>lia);rw[ID,<-hlen];refine⟨.ref s.heap.objs.size,_,I.laid (t':=s.toks) (o:=.lst (Iu xs lo hi)) (λb ob q=>Xh _ q) (Xi _) ?_,rfl,q _ (I.hok.fresh (Xi _))⟩;exact⟨YG (Jp xs lo hi) hz,_,0,(r.drop (HT.Jo xs.length 0 lo)).take (HT.Jo xs.length xs.length hi-HT.Jo xs.length 0 lo),Xs _ rfl⟩
theorem E6:CJ X (.builtin "len") (λxs H Q=>∃p ys,xs=[.ref p]/\(Af X.K H p ys\/Aa X.K H p ys)/\Q (.int ys.length) H):=by
 intro a6 s σ H xs us Q I r h;refine byG λGq hGq=>?_;obtain⟨p,ys,rfl,hq,q⟩:=h;refine hGq ?_;clear hGq Gq;obtain⟨u,rfl,rx⟩:=E4 r;cases rx;have hn:=Kx;rcases hq with hq|hq
 ·refine byG λGq hGq=>?_;obtain⟨its,r',pl,hz⟩:=I.list hq;refine hGq ?_;clear hGq Gq;have hlen:=r'.length;exact Calls.call_len_list pl.isList (by simp only[List.size_toArray]<;>lia) ⟨.int ys.length,H,I.tok _,⟨s.toks+1,by rw[List.size_toArray,hlen]⟩,q⟩
 ·refine byG λGq hGq=>?_;obtain⟨its,r',pl,hz⟩:=I.tuple hq;refine hGq ?_;clear hGq Gq;have hlen:=r'.length;exact len_tuple pl (by simp only[List.size_toArray]<;>lia) ⟨.int ys.length,H,I.tok _,⟨s.toks+1,by rw[List.size_toArray,hlen]⟩,q⟩
theorem Ix:CJ X (.type "list") (λxs H Q=>∃p ys,xs=[.ref p]/\(Af X.K H p ys\/Aa X.K H p ys)/\∀l,H l=none->Q (.ref l) (AT H l (.lst ys))):=by
 intro a6 s σ H xs us Q I r h;refine byG λGq hGq=>?_;obtain⟨p,ys,rfl,hq,q⟩:=h;refine hGq ?_;clear hGq Gq;obtain⟨u,rfl,rx⟩:=E4 r;cases rx
 have fin:∀(its:List qQ),Aq ys its->ys.length<=sizeLine->∀(h':Heap) (c':Nat),(∀b o',s.heap.get? b=some o'->h'.get? b=some o') ->
   h'.get? s.heap.objs.size=some {cls:=.type "list",dict:=none,data:=.seq its.toArray c',slots:=#[]}->EP X a6 σ Q (.ref s.heap.objs.size) {s with heap:=h'}:=λits r' hz h' c' kp e =>
  ⟨.ref s.heap.objs.size,_,I.laid (t':=s.toks) kp (Xi _) (show Ag X.prog X.w _ h' _ (.lst ys) from⟨hz,its,c',r',e⟩),rfl,q _ (I.hok.fresh (Xi _))⟩
 rcases hq with hq|hq
 ·refine byG λGq hGq=>?_;obtain⟨its,r',pl,hz⟩:=I.list hq;refine hGq ?_;clear hGq Gq;have hlen:=r'.length;refine byG λGq hGq=>?_;obtain⟨o,ho,hc,n,hd⟩:=pl.isList;refine hGq ?_;clear hGq Gq;exact call_list_seq p (.inl rfl) ho hc hd (λh' c' kp e=>fin its r' hz h' c' kp e) (by simp only[List.size_toArray]<;>lia)
 ·refine byG λGq hGq=>?_;obtain⟨its,r',pl,hz⟩:=I.tuple hq;refine hGq ?_;clear hGq Gq;have hlen:=r'.length;refine byG λGq hGq=>?_;obtain⟨o,ho,hc,n,hd⟩:=pl;refine hGq ?_;clear hGq Gq;exact call_list_seq p (.inr rfl) ho hc hd (λh' c' kp e=>fin its r' hz h' c' kp e) (by simp only[List.size_toArray]<;>lia)
theorem CG:CJ X (.type "tuple") (λxs H Q=>∃p ys,xs=[.ref p]/\((Af X.K H p ys/\∀l,H l=none->Q (.ref l) (AT H l (.tup ys)))\/(Aa X.K H p ys/\Q (.ref p) H))):=by
 intro a6 s σ H xs us Q I r h;obtain⟨p,ys,rfl,h⟩:=h;obtain⟨u,rfl,rx⟩:=E4 r;cases rx;rcases h with⟨hq,q⟩|⟨hq,q⟩
 ·obtain⟨its,r',pl,hz⟩:=I.list hq;have hlen:=r'.length;refine call_tuple_list pl.isList (λh' kp=>?_) (by simp only[List.size_toArray]<;>lia);have I1:AR X a6 σ H {s with heap:=h'}:=I.kept (t':=s.toks) kp
  have I2:AR X a6 σ (AT H h'.objs.size (.tup ys)) {s with heap:=h'.push {cls:=.type "tuple",data:=.seq its.toArray}}:=
   I1.laid (t':=s.toks) (λb o e=>Xh _ e) (Xi _) (show Ag X.prog X.w _ _ _ (.tup ys) from⟨hz,its,r',IsTup.new _ _⟩)
  exact⟨.ref h'.objs.size,_,I2,rfl,q _ (I1.hok.fresh (Xi _))⟩
 ·obtain⟨its,r',pl,hz⟩:=I.tuple hq;exact call_tuple_same pl ⟨.ref p,H,I,rfl,q⟩
def WW(K:qV)(T:String)(x:V)(H:Hp):Prop:=match x with
 |.str _=>T="str"
 |.int _=>T="int"
 |.ref p=>(T="list"/\∃xs,Af K H p xs)\/(T="tuple"/\∃o,K.lookup p=some o/\o.cls=.type "tuple"/\o.dict=none) \/
   (T="dict"/\((∃kvs,H p=some (.dK kvs))\/∃kvs,H p=some (.dT kvs)))\/(T="set"/\∃S n,H p=some (.set S n))
 |_=>False
theorem OJ{s:qS}{x:V}{v:qQ}(I:AR X a6 σ H s)(r:A4 x v)(ty:WW X.K T x H):
  s.TypeIs v T/\∀a,v=.ref a->∃ob,s.heap.get? a=some ob/\ob.dict=none:=by
 cases x with
 |str z =>
  obtain⟨t,rfl⟩:=r;cases (show T="str" from ty);exact⟨typeIs_str s z t,λ_ e=>nomatch e⟩
 |int i =>
  obtain⟨t,rfl⟩:=r;cases (show T="int" from ty);exact⟨typeIs_int s i t,λ_ e=>nomatch e⟩
 |ref p =>
  cases r;rcases ty with⟨rfl,xs,hq⟩|⟨rfl,o,hk,hc,hd⟩|⟨rfl,hk⟩|⟨rfl,S,n,hk⟩
  ·refine byG λGq hGq=>?_;obtain⟨its,_,pl,_⟩:=I.list hq;refine hGq ?_;clear hGq Gq;refine⟨pl.isList.typeIs,λa e=>?_⟩;cases e;refine byG λGq hGq=>?_;obtain⟨o,n,e,c,hd,_⟩:=pl;refine hGq ?_;clear hGq Gq;exact⟨o,e,hd⟩
  ·refine⟨⟨o,I.kIn p o hk,hc⟩,λa e=>?_⟩;cases e;exact⟨o,I.kIn _ o hk,hd⟩
  ·have z:∃o,s.heap.get? p=some o/\o.ExactDict:=by
    rcases hk with⟨kvs,hk⟩|⟨kvs,hk⟩
    ·refine byG λGq hGq=>?_;obtain⟨_,_,_,_,o,_,_,e,ex,_⟩:=I.hok p _ hk;refine hGq ?_;clear hGq Gq;exact⟨o,e,ex⟩
    ·refine byG λGq hGq=>?_;obtain⟨_,_,_,_,o,_,_,e,ex,_⟩:=I.hok p _ hk;refine hGq ?_;clear hGq Gq;exact⟨o,e,ex⟩
   obtain⟨o,e,ex⟩:=z;refine⟨⟨o,e,ex.1⟩,λa e2=>?_⟩;cases e2;exact⟨o,e,ex.2.1⟩
  ·refine byG λGq hGq=>?_;obtain⟨o,_,_,_,e,ex,_⟩:=I.hok p _ hk;refine hGq ?_;clear hGq Gq;refine⟨⟨o,e,ex.1⟩,λa e2=>?_⟩;cases e2;exact⟨o,e,ex.2.1⟩
 |_=>exact False.elim ty
def U2(K:qV)(T:String)(r:V->List V->Hp->VK->Prop)(to:TE):TE:=λσ H Q=>to σ H λx H1=>WW K T x H1/\r x [] H1 Q
def WX(K:qV)(T:String)(r:V->List V->Hp->VK->Prop)(to:TE)(t:TA):TE:=λσ H Q=>to σ H λx H1=>WW K T x H1/\t σ H1 λxs H2=>r x xs H2 Q
variable{o e:Expr}{to:TE}{t:TA}{apos cpos:Pos}{id:String}{r:V->List V->Hp->VK->Prop}
theorem Sv(pa:PlainAttrs T)(slot:Slot T name id)(hty:typeOf (.builtin id)=pure (.type "method_descriptor"))(hm:Qc X id r)(ho:PE X o to)
  (hbase:attributeBase o name X.env (eval o X.env)=eval o X.env:=by rfl) (hline:(apos.endLine==cpos.line)=true:=by rfl):PE X (.Call (.Attribute o name apos) [] [] cpos) (U2 X.K T r to):=by
 intro a6 s σ H Q I h;refine wpAny_Call_method0_late hbase hline (BJ (ho a6 s σ H _ I h) λv s1 z9=>?_);obtain⟨x,H1,I1,r1,ty,q1⟩:=z9;obtain⟨h1,h2⟩:=OJ I1 r1 ty;exact⟨T,id,pa,slot,hty,h1,h2,Calls.callWith_builtin rfl (PySem.evalArgs_none (hm a6 s1 σ H1 x [] v [] Q I1 r1 .nil q1))⟩
theorem L8(pa:PlainAttrs T)(slot:Slot T name id)(hty:typeOf (.builtin id)=pure (.type "method_descriptor"))(hm:Qc X id r)(ho:PE X o to)(ha:PA X (e::es) t)
  (hbase:attributeBase o name X.env (eval o X.env)=eval o X.env:=by rfl)
  (hfew:((backTo cpos (starEach (e::es) X.env)).all (λx=>!x.1)&&(backToKw cpos (keywordEach [] X.env)).all (λx=>x.1.isSome)
   && decide ((e::es).length+([]:List Keyword).length+(if ([]:List Keyword).isEmpty then 0 else 1)<30))=true:=by rfl)
  (hline:(apos.endLine==cpos.line)=true:=by rfl) (hs:starEach (e::es) X.env=(false,eval e X.env)::starEach es X.env:=by rfl) (hplain:(backTo cpos (starEach es X.env)).any (·.1)=false:=by rfl):
  PE X (.Call (.Attribute o name apos) (e::es) [] cpos) (WX X.K T r to t):=by
 intro a6 s σ H Q I h;refine wpAny_Call_method_late hbase hfew hline rfl (BJ (ho a6 s σ H _ I h) λv s1 z9=>?_);obtain⟨x,H1,I1,r1,ty,q1⟩:=z9;obtain⟨h1,h2⟩:=OJ I1 r1 ty;refine⟨T,id,pa,slot,hty,h1,h2,?_⟩;have hA:=ha cpos a6 s1 σ H1 _ I1 q1;rw[hs]at hA⊢;refine Calls.callWith_builtin (by show (false||(backTo cpos (starEach es X.env)).any (·.1))=false;rw[hplain]<;>rfl) (Calls.evalArgs_plain ?_);exact BJ hA λus s2 ⟨vs,H2,I2,r2,q2⟩=>hm a6 s2 σ H2 x vs v us Q I2 r1 r2 q2
end
def XX(X:Cx)(id:String)(r:V->List V->Hp->VK->Prop):Prop:=
 ∀(a6:List (qR×Obj)) (s:qS) (σ:St) (H:Hp) (x:V) (xs:List V) (v:qQ) (us:List qQ) (Q:VK),AR X a6 σ H s->A4 x v->Aq xs us->r x xs H Q ->
  wpAny (model X.prog X.w) X.A (call (.builtin id) (v::us)) (EP X a6 σ Q) X.xe s
theorem Aq.one:∀{x:V} {us:List qQ},Aq [x] us->∃u,us=[u]/\A4 x u:=by
 intro _ _ r;cases r with
 |cons r t=>cases t;exact⟨_,rfl,r⟩
theorem Aq.zero:∀{us:List qQ},Aq [] us->us=[]
 |_,.nil=>rfl
theorem Aq.reverse(h:Aq xs us):Aq xs.reverse us.reverse:=by
 induction h with
 |nil=>exact .nil
 |cons r t ih=>rw[List.reverse_cons,List.reverse_cons];exact Aq.append ih (.cons r .nil)
section
variable{s:qS}{l b:qR}{ys zs:List V}
theorem AR.lset{its its':List qQ}{n:Nat}{f:Array qQ->Array qQ}{t':Nat}(I:AR X a6 σ H s)(hH:H l=some (.lst xs))
  (e:s.heap.get? l=some {cls:=.type "list",data:=.seq its.toArray n}) (hf:f its.toArray=its'.toArray) (hv:Aq ys its') (hz:ys.length<=sizeLine):
  AR X a6 σ (AT H l (.lst ys)) {s with heap:=s.heap.update l (Obj.mapSeq f),toks:=t'}:=by
 have q:=PySem.IsL.update e f;rw[hf]at q;refine I.write (x:=l) (e:=l) (by rw[hH];exact trivial) (.inl rfl) (λb' u hb hu=>(Heap.get?_update_other s.heap (Obj.mapSeq f) (Ne.symm hb)).trans hu) ⟨_,q⟩ ?_;exact⟨hz,its',_,hv,q⟩
theorem AR.lnew{its:List qQ}(I:AR X a6 σ H s)(hv:Aq ys its)(hz:ys.length<=sizeLine):
  AR X a6 σ (AT H s.heap.objs.size (.lst ys)) {s with heap:=s.heap.push {cls:=.type "list",data:=.seq its.toArray},toks:=t'}:=
 I.laid (λ_ _ q=>Xh _ q) (Xi _) ⟨hz,its,0,hv,Xs _ rfl⟩
theorem AR.fresh(I:AR X a6 σ H s):H s.heap.objs.size=none:=I.hok.fresh (Xi _)
theorem AR.lstM(I:AR X a6 σ H s)(hH:H l=some (.lst xs)):xs.length<=sizeLine/\∃(its:List qQ) (n:Nat),Aq xs its/\xs.length=its.length/\s.heap.get? l=some {cls:=.type "list",data:=.seq its.toArray n}:=by refine byG λGq hGq=>?_;obtain⟨z,its,n,r,e⟩:=I.hok l _ hH;refine hGq ?_;clear hGq Gq;exact⟨z,its,n,r,r.length,e⟩
theorem OK{n:Nat}(h:n<=sizeLine):Builtin.List.listTooLong n=false:=by unfold Builtin.List.listTooLong;exact qI (by lia)
end
def Iy:V->List V->Hp->VK->Prop:=λx vs H Q=>∃l xs y,x=.ref l/\vs=[y]/\H l=some (.lst xs)/\xs.length<sizeLine/\Q .non (AT H l (.lst (xs++[y])))
theorem Ff:XX X "list.append" Iy:=by intro a6 s σ H x vs v us Q I rx rv h;refine byG λGq hGq=>?_;obtain⟨l,xs,y,rfl,rfl,hH,hz,q⟩:=h;refine hGq ?_;clear hGq Gq;cases rx;obtain⟨u,rfl,ru⟩:=rv.one;refine byG λGq hGq=>?_;obtain⟨z,its,n,r,hl,e⟩:=I.lstM hH;refine hGq ?_;clear hGq Gq;refine call_meets F.slot_list_append ⟨_,e,rfl⟩ F.entry_list_append (F.args_list_append_2 _ _) (PySem.list_append l its.toArray n u (by rw[YS];lia)) ⟨e,?_⟩;refine⟨.non,_,I.lset (its':=its++[u]) hH e (by simp) (r.append (.cons ru .nil)) ?_,rfl,q⟩;rw[Xt,YZ];lia
def Qf:V->List V->Hp->VK->Prop:=λx vs H Q=>∃l b xs zs,x=.ref l/\vs=[.ref b]/\H l=some (.lst xs)/\H b=some (.lst zs)/\xs.length+zs.length<=sizeLine/\Q .non (AT H l (.lst (xs++zs)))
theorem IN:XX X "list.extend" Qf:=by
 intro a6 s σ H x vs v us Q I rx rv h;refine byG λGq hGq=>?_;obtain⟨l,b,xs,zs,rfl,rfl,hH,hB,hz,q⟩:=h;refine hGq ?_;clear hGq Gq;cases rx;obtain⟨u,rfl,ru⟩:=rv.one;cases ru;refine byG λGq hGq=>?_;obtain⟨z,its,n,r,hl,e⟩:=I.lstM hH;refine hGq ?_;clear hGq Gq;refine byG λGq hGq=>?_;obtain⟨z2,its2,n2,r2,hl2,e2⟩:=I.lstM hB;refine hGq ?_;clear hGq Gq;have hsz:its.toArray.size+its2.toArray.size<=sizeLine:=by rw[YS,YS];lia
 have hlong:¬(!its.toArray.isEmpty&&Builtin.List.listTooLong (its.toArray.size+its2.toArray.size))=true:=by rw[OK hsz,Bool.and_false];exact Xx
 refine call_meets F.slot_list_extend ⟨_,e,rfl⟩ F.entry_list_extend (F.args_list_extend_2 _ _)
  (AutoSeq1.list_extend_list_list_0 l its.toArray n b its2.toArray n2 hlong (by rw[YS];lia) (by lia)) ⟨e,e2,?_⟩
 refine⟨.non,_,I.lset (its':=its++its2) hH e (by simp) (r.append r2) ?_,rfl,q⟩;rw[Xt];lia
def U3:R2:=λx y H Q=>∃l b xs zs,x=.ref l/\y=.ref b/\H l=some (.lst xs)/\H b=some (.lst zs)/\xs.length+zs.length<=sizeLine/\∀p,H p=none->Q (.ref p) (AT H p (.lst (xs++zs)))
theorem Ky:Ec X (binaryOp .Add) U3:=by
 intro a6 s σ H x y v u Q I rx ry h;refine byG λGq hGq=>?_;obtain⟨l,b,xs,zs,rfl,rfl,hH,hB,hz,q⟩:=h;refine hGq ?_;clear hGq Gq;cases rx;cases ry;refine byG λGq hGq=>?_;obtain⟨z,its,n,r,hl,e⟩:=I.lstM hH;refine hGq ?_;clear hGq Gq;refine byG λGq hGq=>?_;obtain⟨z2,its2,n2,r2,hl2,e2⟩:=I.lstM hB;refine hGq ?_;clear hGq Gq;refine PySem.P.add_list e e2 ?_ (by rw[YS,YS];lia);have ea:its.toArray++its2.toArray=(its++its2).toArray:=by simp
 rw[ea];exact⟨.ref _,_,I.lnew (t':=s.toks) (r.append r2) (by rw[Xt];lia),rfl,q _ I.fresh⟩
end L2
namespace Att
open PySem PySem.W PySem.Calls PyProof.Rows
theorem ints_of_wellAll{P:Params}{h:Heap}:∀(ns:qW) (vs:List qQ),WellAll P h vs (ns.map WData.int)->IntsAre vs ns:=by
 intro ns
 induction ns with
 |nil =>
  intro vs w;rw[List.map_nil]at w;cases w;exact .nil
 |cons n ns ih =>
  intro vs w;rw[Yg]at w;cases w with
  |cons a b =>
   cases a;exact .cons _ _ (ih _ b)
theorem script_of{l:OpenLaw}{n:Nat}(hn:l.most=some n){P:Params}{h:Heap}{args:List WData}{vals:List qQ}
  (hpre:l.row.toRowW.claim.pre args=true) (hwl:WellAll P h vals args):
  ∃a vs ns,vals=[Value.ref a]/\args=[WData.list (ns.map WData.int)]/\h.get? a=some {cls:=.type "list",data:=.seq vs.toArray}/\IntsAre vs ns/\ns.length<=n:=by
 have hsh:WShape.hasAll [] args [.list .int]=true:=(pre_splitW hpre).1;have hc:l.pre.holds [] {args:=args}=true:=(pre_splitW hpre).2;obtain⟨d,r,rfl,h1,h2⟩:=hasAllW_cons hsh;obtain rfl:=hasAllW_nil h2;obtain⟨xs,rfl,h3⟩:=hasW_list h1;obtain⟨ns,rfl⟩:=items_int h3
 have hlen:ns.length<=n:=by
  unfold OpenLaw.pre at hc
  have h4:(WTm.not (.lt (.lit (.int (n:Int))) (.len (.arg 0)))).holds [] {args:=[.list (ns.map .int)]}=true:=by have h4:=(holds_andW hc).1;rw[hn]at h4;exact h4
  have h5:=condW_of h4 (w_not (w_lt w_lit (w_len_list (w_arg rfl))));rw[Xf]at h5;refine Z3 λq=>?_;have q':(n:Int)<((ns.length:Nat):Int):=by lia
  first
   | (rw[qH q']at h5;exact qG h5 (by decide))
   | (simp at h5;lia)
 cases hwl with
 |cons w1 w2 =>
  cases w2;cases w1 with
  |list ho hall=>exact⟨_,_,ns,rfl,rfl,ho,ints_of_wellAll ns _ hall,hlen⟩
theorem post_true(l:OpenLaw)(args:List WData):l.row.toRowW.claim.post args (.bool true) args=true:=
 postW_of (r:=l.row.toRowW) (X:=(true==true))
  (show WShape.has [] (.bool true) .bool=true by first|rfl|decide|simp[WShape.has,WShape.arms,WShape.armsAll])
  (show (WTm.eq .res (.lit (.bool true))).value [] {args:=args,res:=some (.bool true),after:=args}=some (.bool (true==true)) from w_eq_bool (w_res rfl) w_lit) rfl
theorem attach_call{l:OpenLaw}{n:Nat}{q:qT}{loose:List Str}{XP:(Str->Option qQ)->Heap->Prop}{YP:qU->Heap->Prop}{d:DefRec}
  (hn:l.most=some n) (hdf:d.params.defaults=[])
  (call:∀(w:qU) (s₀ s₁:qS) (mg mb:Str->Option qQ) (fa:qR) (o:Obj) (pm cd doc:qQ) (a:qR) (vs:List qQ) (ns:qW),
   Ground q loose [] XP w s₀ mg mb s₁.heap->YP w s₁.heap ->
   s₁.heap.get? fa=some o->o.data=.func (docDef d.name d.params d.body d.scope pm cd doc)->s₁.heap.CodeRec cd d.name->mg d.name=some (.ref fa) ->
   s₁.heap.get? a=some {cls:=.type "list",data:=.seq vs.toArray}->IntsAre vs ns->ns.length<=n->s₁.gens=#[] ->
   codeAny (model l.prog w) callerA (.call (.ref fa) ⟨[.ref a],[]⟩) (λr s'=>r=.ok (.ret (.bool true))/\OldK s₁.heap s'.heap/\s'.os=s₁.os/\AllBare s'.gens) s₁):
  WalkO q loose XP YP l.row.toRowW d [] (λf vs=>PySem.call f vs):=by
 intro w s₀ s₁ mg mb G Y fa o pm cd doc dV kV ho hd hcd hD hmg hg args vals as hpre hlay hrd hwl hlo;obtain rfl:dV=.none:=Dflts.none hD hdf;obtain rfl:kV=.none:=Dflts.noKw hD;obtain⟨a,vs,ns,rfl,rfl,hobj,hints,hlen⟩:=script_of hn hpre hwl;refine enter_call (codeAny_mono (call w s₀ s₁ mg mb fa o pm cd doc a vs ns G Y ho (fd_plain hd) hcd hmg hobj hints hlen hg) λr s' hq=>?_);obtain⟨rfl,h2,h3,h4⟩:=hq;exact⟨.inl ⟨.bool true,.bool true,[],rfl,λ_=>rfl,.bool true,post_true l _,λ_=>⟨List.Pairwise.nil,λ_ hm=>(nomatch hm)⟩⟩,h2,h3,h4⟩
section
variable{prog:qT}{w:qU}{A:Around}{E:qQ->qS->Prop}{s:qS}{K:Frag}
end
end Att
namespace L2
open PySem PySem.Spec PyProof.Rows
variable{H H':Hp}{X:Cx}{a:qR}{an od:Option qR}{ae doc oc:qQ}{fd:FuncData}{ps:List Str}{qual x:Str}{xs:List V}
theorem IP:∀{vs:List qQ} {ns:qW},IntsAre vs ns->Aq (ns.map V.int) vs
 |_,_,.nil=>.nil
 |_,_,.cons n t h=>.cons ⟨t,rfl⟩ (IP h)
def C3(s:Stmt):Arguments:=match s with
 |.FunctionDef _ a _ _ _ _ _ _ _ _=>a
 |_=>{posonlyargs:=[],args:=[],vararg:=none,kwonlyargs:=[],kw_defaults:=[],kwarg:=none,defaults:=[]}
def BW(s:Stmt):List Stmt:=match s with
 |.FunctionDef _ _ b _ _ _ _ _ _ _=>b
 |_=>[]
def AI(s:Stmt):Scope:=match s with
 |.FunctionDef _ _ _ _ _ _ sc _ _ _=>sc
 |_=>{kind:=.function,names:=[],isGenerator:=false,isCoroutine:=false}
abbrev E0:XK:=λ_ _ _=>False
structure Bh(K:qV)(x qual:Str)(st:Stmt)(f:qR)(fd:FuncData):Prop where
 ex:∃(oc:qQ) (od:Option qR) (kV doc pm:qQ) (an:Option qR) (ae ct:qQ) (osl:Array (Option qQ)),
  fd=PySem.W.fnOf x qual (C3 st) (BW st) (AI st) .none kV doc pm an ae ct/\K.lookup f=some ⟨oc,od,.func fd,osl⟩/\PySem.W.codeIn K ae qual=true
 kp:PySem.W.keepIn K (.ref f)=true
variable{st:Stmt}{osl:Array (Option qQ)}
section
variable{P:qT}{w:qU}{K:qV}{mg:Str->Option qQ}{base:Heap}
theorem Bh.binds{f:qR}(F:Bh K x qual st f fd)
  (h:∀(kV doc pm:qQ) (an:Option qR) (ae ct:qQ) (us:List qQ),us.length=ps.length->bindArgs (PySem.W.fnOf x qual (C3 st) (BW st) (AI st) .none kV doc pm an ae ct) ⟨us,[]⟩=pure (ps.zip us)):F7 K fd ps []:=by
 refine byG λGq hGq=>?_;obtain⟨oc,od,kV,doc,pm,an,ae,ct,osl,rfl,lk,hcd⟩:=F.ex;refine hGq ?_;clear hGq Gq;exact .all (h kV doc pm an ae ct)
theorem Sw{f:qR}{kV pm ct:qQ}(l:K.lookup f=some ⟨oc,od,.func (PySem.W.fnOf x qual (C3 st) (BW st) (AI st) .none kV doc pm an ae ct),osl⟩)
  (c:PySem.W.codeIn K ae qual=true) (k:PySem.W.keepIn K (.ref f)=true):Bh K x qual st f (PySem.W.fnOf x qual (C3 st) (BW st) (AI st) .none kV doc pm an ae ct):=⟨⟨oc,od,kV,doc,pm,an,ae,ct,osl,rfl,l,c⟩,k⟩
end
theorem Bw{A:Around}{k:Nat}(hr:Bg k A):A.units+1<cLine:=ZG (Nat.add_le_add_left (by decide:1<=64) _) hr.units
theorem Ab{n:Nat}(h:n<=1000):n<sizeLine:=ZG h (by decide)
theorem pv(i:Nat){pos:Pos}(hN:X.N[i]?=some x:=by rfl)(hv:We X.env.scope x:=by first|exact Or.inl rfl|exact Or.inr (Or.inl rfl)|exact Or.inr (Or.inr rfl))(hd:(x==("__debug__":Str))=false:=by decide)
  (hcd:(x==("__classdict__":Str))=false:=by decide):PE X (.Name x pos) (Sg i):=Sh hN hv hd hcd
theorem Sx{A B:Prop}(h:B):if false=true then A else B:=by rw[qE Xx];exact h
theorem Wk{A B:Prop}(h:A):if true=true then A else B:=by rw[qF rfl];exact h
def AG(H H':Hp):Prop:=∀b o,H b=some o->H' b=some o
theorem AG.refl(H:Hp):AG H H:=λ_ _ h=>h
variable{H1 H2:Hp}
theorem AG.trans(a:AG H H1)(b:AG H1 H2):AG H H2:=λc o h=>b c o (a c o h)
variable{l:qR}
theorem AG.free(e:AG H H')(h:H' l=Option.none):H l=Option.none:=by
 cases q:H l with
 |none=>rfl
 |some o =>
  rw[e l o q]at h;cases h
theorem AG.seq{K:qV}(e:AG H H')(h:Af K H a xs):Af K H' a xs:=by
 rcases h with (h|⟨o,h⟩)|h
 ·exact .inl (.inl (e _ _ h))
 ·exact .inl (.inr ⟨o,e _ _ h⟩)
 ·exact .inr h
end L2
set_option maxHeartbeats 4000000
set_option compiler.extract_closed false
set_option genSizeOfSpec false
namespace L2
open PySem PySem.Spec PyProof.Rows
variable{C a l:qR}{CX:QJ}{D:Ez}{E:qQ->qS->Prop}{H H':Hp}{X:Cx}{an od:Option qR}{c tg:Expr}{ae doc oc u:qQ}{es:List Expr}{fd:FuncData}{name qual x:Str}{o:Obj}{osl:Array (Option qQ)}{a6:List (qR×Obj)}{ps:List Str}{s':qS}{scope:Scope}{st:Stmt}{t':Nat}{ta:TA}{xs:List V}{α β:Type}{σ:St}
noncomputable def Du(o:Obj):Option qQ:=match o.data with
 |.fields vs=>vs[2]?
 |_=>none
def DK(h h':Heap):Prop:=h.objs.size<=h'.objs.size/\∀(b:Nat) (o o':Obj),h.objs[b]?=some o->h'.objs[b]?=some o'->o'.dict=o.dict/\Du o'=Du o
theorem DK.refl(h:Heap):DK h h:=⟨Xi _,λb o o' e e'=>by rw[e]at e';cases e';exact⟨rfl,rfl⟩⟩
variable{h1:Heap}
theorem DK.trans{h2 h3:Heap}(x:DK h1 h2)(y:DK h2 h3):DK h1 h3:=⟨YG x.1 y.1,λb o o' e e'=>by obtain⟨hb,_⟩:=Array.getElem?_eq_some_iff.mp e;have q:h2.objs[b]?=some (h2.objs[b]'(Xn hb x.1)):=Zd (Xn hb x.1);exact⟨(y.2 b _ o' q e').1.trans (x.2 b o _ e q).1,(y.2 b _ o' q e').2.trans (x.2 b o _ e q).2⟩⟩
theorem OL{h:Heap}(e:h.get? a=some o):h.objs[a]?=some o:=by
 unfold Heap.get? at e
 split at e
 ·cases e
 ·exact e
variable{h':Heap}
theorem DK.get{h:Heap}{o':Obj}(x:DK h h')(e:h.get? a=some o)(e':h'.get? a=some o'):o'.dict=o.dict/\Du o'=Du o:=x.2 a o o' (OL e) (OL e')
theorem DK.push(h:Heap)(o:Obj):DK h (h.push o):=by
 refine⟨?_,λb u u' e e'=>?_⟩
 ·rw[Y1];exact ZD _
 ·have hb:=(Array.getElem?_eq_some_iff.mp e).1;have q:(h.push o).objs[b]?=h.objs[b]?:=by show (h.objs.push o)[b]?=_;rw[Array.getElem?_push_lt hb,Zd hb]
  rw[q,e]at e';cases e';exact⟨rfl,rfl⟩
theorem DK.update(h:Heap)(a:qR){f:Obj->Obj}(k:∀o,(f o).dict=o.dict/\Du (f o)=Du o):DK h (h.update a f):=by
 have q:(h.update a f).objs=h.objs.modify a f:=rfl;refine⟨by rw[q,Array.size_modify];exact Xi _,λb u u' e e'=>?_⟩;rw[q,Array.getElem?_modify]at e'
 split at e'
 ·rw[e]at e';cases e';exact k u
 ·rw[e]at e';cases e';exact⟨rfl,rfl⟩
noncomputable def KT{α:Type}:Sem α->Prop
 |.rule _ k=>∀u,KT (k u)
 |.at _ k=>∀u,KT (k u)
 |.load _ _ k=>∀u,KT (k u)
 |.update _ _ f k=>(∀o,(f o).dict=o.dict/\Du (f o)=Du o)/\∀u,KT (k u)
 |.loadIfAlive _ k=>∀u,KT (k u)
 |.point _ k=>∀u,KT (k u)
 |.alloc _ k=>∀u,KT (k u)
 |.fresh k=>∀u,KT (k u)
 |.ask k=>∀u,KT (k u)
 |.handled _ k=>∀u,KT (k u)
 |.stack k=>∀u,KT (k u)
 |.thread k=>∀u,KT (k u)
 |.pure _=>True
 |.raise _=>True
 |.unsupported _=>True
 |.finish _=>True
 |_=>False
theorem KT.keep{M:Model}{Γ:PySem.Ctx}:∀(t:Sem α),KT t->∀(Q:α->Pos->qS->Prop) (E:qQ->Pos->qS->Prop) (p:Pos) (s:qS),Sem.wp M Γ t Q E p s ->
  Sem.wp M Γ t (λa p' s'=>Q a p' s'/\DK s.heap s'.heap) (λe p' s'=>E e p' s'/\DK s.heap s'.heap) p s:=by
 intro t
 induction t with
 |pure x=>exact λ_ Q E p s h=>⟨h,DK.refl _⟩
 |raise v=>exact λ_ Q E p s h=>⟨h,DK.refl _⟩
 |unsupported|finish=>exact λ_ Q E p s h=>h
 |yield|fork|await|register|choose|os|call|genState|newGen|resume=>exact λk=>k.elim
 |rule _ k ih|«at» _ k ih|point _ k ih|loadIfAlive _ k ih|fresh k ih|ask k ih|handled _ k ih|stack k ih|thread k ih=>exact λz Q E p s h=>ih _ (z _) Q E _ _ h
 |alloc o k ih=>exact λz Q E p s h=>Sem.wp_mono _ _ _ (λa p' s' q=>⟨q.1,(DK.push _ _).trans q.2⟩) (λa p' s' q=>⟨q.1,(DK.push _ _).trans q.2⟩) _ _ (ih _ (z _) Q E _ _ h)
 |load a _ k ih=>exact λz Q E p s ⟨o,ho,h⟩=>⟨o,ho,ih _ (z _) Q E _ _ h⟩
 |update a _ f k ih=>exact λz Q E p s ⟨ha,h⟩=>⟨ha,Sem.wp_mono _ _ _ (λa p' s' q=>⟨q.1,(DK.update _ _ z.1).trans q.2⟩) (λa p' s' q=>⟨q.1,(DK.update _ _ z.1).trans q.2⟩) _ _ (ih _ (z.2 _) Q E _ _ h)⟩
theorem KT.run{M:Model}{A:Around}{t:Sem α}{Q:α->qS->Prop}{s:qS}(k:KT t)(h:wpAny M A t Q E s):
  wpAny M A t (λa s'=>Q a s'/\DK s.heap s'.heap) (λe s'=>E e s'/\DK s.heap s'.heap) s:=λΓ p hΓ=>KT.keep t k _ _ p s (h Γ p hΓ)
theorem KT.bind{m:Sem α}{f:α->Sem β}(a:KT m)(b:∀x,KT (f x)):KT (m >>= f):=by
 show KT (m.bind f)
 induction m with
 |pure x=>exact b x
 |raise v=>exact a
 |unsupported|finish=>exact a
 |yield|fork|await|register|choose|os|call|genState|newGen|resume=>exact a.elim
 |rule _ k ih|«at» _ k ih|point _ k ih|loadIfAlive _ k ih|fresh k ih|ask k ih|handled _ k ih|stack k ih|thread k ih|alloc _ k ih|load _ _ k ih=>exact λu=>ih u (a u)
 |update _ _ f' k ih=>exact⟨a.1,λu=>ih u (a.2 u)⟩
theorem KT.pure(x:α):KT (Pure.pure x:Sem α):=trivial
theorem KT.ite{c:Prop}[Decidable c]{a b:Sem α}(x:KT a)(y:KT b):KT (if c then a else b):=by split<;>assumption
theorem Ee(x:String):KT (PySem.unsupported x:Sem α):=trivial
theorem Iz(a:qR):KT (PySem.load a):=λ_=>trivial
theorem Jq(v:qQ):KT (fieldsOf v):=by
 unfold fieldsOf;split
 ·refine KT.bind (Iz _) λo=>?_;split
  ·exact KT.pure _
  ·exact Ee _
 ·exact Ee _
theorem E7(v:qQ)(i:Nat):KT (field v i):=by
 unfold field;refine KT.bind (Jq v) λo=>?_;split
 ·exact KT.pure _
 ·exact Ee _
theorem Dv(v x:qQ)(i:Nat)(hi:i≠2):KT (setField v i x):=by
 unfold setField;split
 ·unfold updateField;refine KT.bind (Iz _) λo=>?_;split
  ·refine KT.ite ⟨λo=>?_,λ_=>trivial⟩ (Ee _);obtain⟨c,d,dt,sl⟩:=o;cases dt with
   |fields vs=>exact⟨rfl,Array.getElem?_setIfInBounds_ne hi⟩
   |_=>exact⟨rfl,rfl⟩
  ·exact Ee _
 ·exact Ee _
theorem DZ(e:qQ)(f:Option qR):KT (setFlight e f):=by unfold setFlight;refine KT.bind (E7 _ _) λtb=>?_;exact KT.ite (Dv _ _ _ (by decide)) (KT.pure _)
theorem Gm:KT PySem.stack:=λ_=>trivial
theorem Jr:∀l:List Env,KT (readyFrames l)
 |[]=>trivial
 |env::outer=>by
  unfold readyFrames;split
  ·refine KT.bind (Iz _) λo=>KT.ite (KT.pure _) ?_
   refine KT.bind ?_ λi=>KT.bind ?_ λback=>KT.bind ⟨λo=>⟨rfl,rfl⟩,λ_=>trivial⟩ λ_=>Jr outer
   ·unfold behindIsImport;exact KT.ite (KT.pure _) (KT.ite (KT.pure _) (KT.bind (E7 _ _) λ_=>KT.pure _))
   ·unfold keptBack;split
    ·refine KT.ite (KT.pure _) (KT.bind ?_ λ_=>KT.pure _);unfold underTheClaimsCaller;exact KT.bind Gm λ_=>KT.pure _
    ·exact KT.pure _
  ·exact Ee _
theorem Kz(env:Env):KT (PySem.frameOf env):=by
 unfold PySem.frameOf frameEnvs;refine KT.bind (KT.bind Gm λ_=>KT.pure _) λl=>KT.bind ?_ λr=>?_
 ·unfold frameObject;split
  ·exact KT.pure _
  ·exact KT.bind (Jr _) λ_=>KT.pure _
 ·split
  ·exact KT.pure _
  ·exact Ee _
theorem JA(ty:String)(vs:List qQ):KT (newFields ty vs):=by
 unfold newFields newObj;dsimp only;split
 ·exact Ee _
 ·exact λ_=>trivial
theorem OM(f:qR)(b:Bool):KT (entryPlaceOf f b):=by
 unfold entryPlaceOf;refine KT.bind Gm λ_=>?_
 split<;>exact KT.pure _
theorem L9(e:qQ)(env:Env):KT (noteFrame e env):=by
 have last:∀h:qQ,∀f:qR,KT (do setField e 1 (<-EntryCells.newEntry h (<-PySem.frameOf env) .none (rawInt f) .none (<-entryPlaceOf f (h != .none)))):=λh f =>
  KT.bind (Kz env) λ_=>KT.bind (OM _ _) λ_=>KT.bind (JA _ _) λ_=>Dv _ _ _ (by decide)
 unfold noteFrame;split
 ·refine KT.bind (E7 _ _) λh=>?_;split
  ·refine KT.bind (E7 _ _) λx=>KT.ite (KT.pure _) (KT.bind (Dv _ _ _ (by decide)) λ_=>last h _)
  ·exact last h _
 ·exact Ee _
theorem Gn(e:qQ)(env:Env):KT (leaving env e):=by unfold leaving;exact KT.bind (L9 _ _) λ_=>DZ _ _
structure Qg(nc:Bool)(P:qT)(w:qU)(outer:List Env)(H:Hp)(s:qS)(a:qR)(cls a0:qQ)(D:Option qR)(B:Heap)(H':Hp)(s':qS):Prop where
 os:s'.os=s.os
 bare:AllBare s'.gens
 un:Un (Dq outer) [] H H' s.heap s'.heap
 hok:Dk P w H' s'.heap
 fly:Heap.FlyingW B outer a cls a0 s'.heap
 old:∀b o,s.heap.get? b=some o->b∉Dq outer->∀o',s'.heap.get? b=some o'->B.get? b=some o'
 trk:∀b u,H' b=some u->∀o',s'.heap.get? b=some o'->B.get? b=some o'
 dct:∃oe,s'.heap.get? a=some oe/\oe.dict=D
 ctx:nc=true->∃oe,s'.heap.get? a=some oe/\Du oe=some .none
def Ny(nc:Bool)(P:qT)(w:qU):QJ:=λouter H s E e s'=>∃a cls a0 D B H',e=.ref a/\Qg nc P w outer H s a cls a0 D B H' s'/\E cls D H'
abbrev IQ(P:qT)(w:qU):QJ:=Ny false P w
theorem Ag.somewhere{P:qT}{w:qU}{h:Heap}{o:HO}(x:Ag P w H h a o):∃ob,h.get? a=some ob:=by
 cases o with
 |lst xs=>obtain⟨_,_,_,_,e⟩:=x;exact⟨_,e⟩
 |tup xs=>obtain⟨_,_,_,ob,e,_⟩:=x;exact⟨ob,e⟩
 |dK kvs=>obtain⟨_,_,_,_,ob,_,_,e,_⟩:=x;exact⟨ob,e⟩
 |dT kvs=>obtain⟨_,_,_,_,ob,_,_,e,_⟩:=x;exact⟨ob,e⟩
 |set S n=>obtain⟨ob,_,_,_,e,_⟩:=x;exact⟨ob,e⟩
 |ins C dx fs=>obtain⟨_,_,_,e,_⟩:=x;exact⟨_,e⟩
 |own y=>exact x
 |xd fs=>obtain⟨_,⟨ob,_,_,e,_⟩,_⟩:=x;exact⟨ob,e⟩
 |rng lo hi=>obtain⟨_,_,_,e⟩:=x;exact⟨_,e⟩
 |frz ob u=>obtain⟨e,_⟩:=x;exact⟨ob,e⟩
 |tbl ps=>exact⟨_,(show h.get? a=some _ from x)⟩
 |met f y=>exact⟨_,(show h.get? a=some _ from x)⟩
 |ext φ=>obtain⟨_,e,_⟩:=x;exact e
variable{nc:Bool}{cls a0:qQ}
section
variable{s:qS}
theorem AR.slotted(I:AR X a6 σ H s)(k:∀b o,s.heap.get? b=some o->b∉Dq X.stack->h'.get? b=some o)
  (f:∀b o,s.heap.get? b=some o->b∈Dq X.stack->∃sl,h'.get? b=some {o with slots:=sl}):AR X a6 σ H {s with heap:=h',toks:=t'}:=by
 have u:Un (Dq X.stack) [] H H s.heap h':=⟨λb o e _ hb _=>k b o e hb,λb o e _ hb _=>f b o e hb,λ_ _ _ n _=>n,λb o e _=>by
  by_cases hb:b∈Dq X.stack
  ·obtain⟨sl,q⟩:=f b o e hb;exact⟨_,q⟩
  ·exact⟨o,k b o e hb⟩,λ_ _ q=>q,λ_ _ _ q=>q,λb ps q=>⟨#[],by rw[q];simp⟩⟩
 have hok:Dk X.prog X.w H h':=λb u q=>(I.hok b u q).stay (λc v hc r=>k c v r λhm=>by
  have z:=I.stkFree c hm;rcases hc with e|e
  ·rw[e,q]at z;cases z
  ·rw[e]at z;cases z) (λ_ q=>q) λ_ _ q=>q
 exact I.call (g':=s.gens) (d':=s.drawn) (ch:=[]) u hok I.bare (λb z=>qG z (by simp))
theorem AR.frameData(I:AR X a6 σ H s){b:qR}(e:s.heap.get? b=some o)(hb:b∈Dq X.stack):∀vs,o.data≠.fields vs:=by obtain⟨_,o',e',nf⟩:=I.stack.mem hb;rw[e]at e';cases e';exact nf
theorem Qg.fresh{D:Option qR}{B:Heap}(F:Qg nc X.prog X.w X.stack H s a cls a0 D B H' s'):H' a=none/\s.heap.get? a=none:=by
 have hB:=F.fly.2.1;obtain⟨oe,vs,he,_,hd,_⟩:=F.fly.first;refine⟨?_,?_⟩
 ·cases q:H' a with
  |none=>rfl
  |some u =>
   have z:=F.trk a u q oe he;rw[hB]at z;cases z
 ·cases q:s.heap.get? a with
  |none=>rfl
  |some o =>
   by_cases hm:a∈Dq X.stack
   ·obtain⟨_,o',e',nf⟩:=F.fly.2.2.1.mem hm;rw[he]at e';cases e';exact qG hd (nf vs)
   ·have z:=F.old a o q hm oe he;rw[hB]at z;cases z
theorem Qg.unAt{D:Option qR}{B:Heap}(I:AR X a6 σ H s)(F:Qg nc X.prog X.w X.stack H s a cls a0 D B H' s')(hB:B.StaysIn h')(sm:s'.heap.UpToSlots h'):
  Un (Dq X.stack) [] H H' s.heap h'/\Dk X.prog X.w H' h':=by
 have up:∀b o,s.heap.get? b=some o->b∈Dq X.stack->∃sl,h'.get? b=some {o with slots:=sl}:=λb o e hb=>by obtain⟨sl,e1⟩:=F.un.slot b o e (I.stkFree b hb) hb (by simp);obtain⟨sl',e2⟩:=sm b _ e1 (show ∀vs,o.data≠.fields vs from I.frameData e hb);exact⟨sl',e2⟩
 refine⟨⟨λb o e n hb hx=>hB b o (F.old b o e hb o (F.un.keep b o e n hb hx)),λb o e _ hb _=>up b o e hb,F.un.free,λb o e hx=>?_,F.un.tups,F.un.frzs,F.un.tbls⟩,λb u q=>?_⟩
 ·by_cases hb:b∈Dq X.stack
  ·obtain⟨sl,q⟩:=up b o e hb;exact⟨_,q⟩
  ·obtain⟨o',e1⟩:=F.un.there b o e hx;exact⟨o',hB b o' (F.old b o e hb o' e1)⟩
 ·refine (F.hok b u q).stay (λc v hc r=>?_) (λ_ q=>q) λ_ _ q=>q
  rcases hc with e|e
  ·subst e;exact hB c v (F.trk c u q v r)
  ·exact hB c v (F.trk c _ e v r)
theorem Qg.land{D:Option qR}{B:Heap}(I:AR X a6 σ H s)(F:Qg nc X.prog X.w X.stack H s a cls a0 D B H' s')(hB:B.StaysIn h')(sm:s'.heap.UpToSlots h'):AR X a6 σ H' {s' with heap:=h',toks:=t'}:=by obtain⟨u,hok⟩:=F.unAt I hB sm;exact I.call' (s':={s' with heap:=h',toks:=t'}) (ch:=[]) F.os u hok F.bare (λb z=>qG z (by simp))
def F8(a:qR)(cls:qQ)(D:Option qR)(n:Bool)(h:Heap):Prop:=∃o vs,h.get? a=some o/\o.cls=cls/\o.data=.fields vs/\o.dict=D/\(n=true->∃t:qR,vs=#[.ref t,.none,.none,.none,.bool false,.none])
noncomputable def Ul(a:qR)(cls:qQ)(D:Option qR)(n:Bool):HO:=.ext (F8 a cls D n)
theorem Qg.land'{D:Option qR}{B:Heap}{l:List Env}(I:AR X a6 σ H s)(F:Qg nc X.prog X.w X.stack H s a cls a0 D B H' s')(fl:Heap.FlyingW B l a cls a0 h')(sm:s'.heap.UpToSlots h')(dk:DK s'.heap h'):
  AR X a6 σ (AT H' a (Ul a cls D false)) {s' with heap:=h',toks:=t'}:=by
 obtain⟨u,hok⟩:=F.unAt I fl.1 sm;obtain⟨n1,n2⟩:=F.fresh;refine byG λGq hGq=>?_;obtain⟨oe,vs,he,hc,hd,_⟩:=fl.first;refine hGq ?_;clear hGq Gq;have ne:∀b o,s.heap.get? b=some o->b≠a:=λb o e z=>by rw[z,n2]at e;cases e
 have ne2:∀b o,H' b=some o->b≠a:=λb o e z=>by rw[z,n1]at e;cases e
 refine I.call' (s':={s' with heap:=h',toks:=t'}) (ch:=[]) F.os ⟨u.keep,u.slot,λb o e n hx=>?_,u.there,λb xs q=>?_,λb o v q=>?_,λb ps q=>?_⟩ (λb v q=>?_) F.bare (λb z=>qG z (by simp))
 ·rw[AJ (ne b o e)];exact u.free b o e n hx
 ·have q':=u.tups b xs q;rw[AJ (ne2 b _ q')];exact q'
 ·have q':=u.frzs b o v q;rw[AJ (ne2 b _ q')];exact q'
 ·obtain⟨more,q'⟩:=u.tbls b ps q;exact⟨more,by rw[AJ (ne2 b _ q')];exact q'⟩
 ·by_cases hb:b=a
  ·subst hb;rw[AE]at q;cases q;obtain⟨ow,hw,hwd⟩:=F.dct;exact⟨⟨oe,vs,he,hc,hd,(dk.get hw he).1.trans hwd,λz=>by cases z⟩,⟨oe,he⟩,λh1 h2 ⟨o,ws,e,r⟩ k=>⟨o,ws,k o e,r⟩⟩
  ·rw[AJ hb]at q;exact (hok b v q).stay (λc v' _ r=>r) (λc z=>by rw[AJ (ne2 c _ z)];exact z) λc xs z=>by rw[AJ (ne2 c _ z)];exact z
end
def ON(X:Cx)(C:qQ)(E:XK):Prop:=
 ∀(a6:List (qR×Obj)) (σ:St) (H:Hp) (s:qS) (h':Heap) (e:qR) (args:List qQ),AR X a6 σ H s->Heap.MadeExcOf s.heap h' e C args->E C none H->X.xe (.ref e) {s with heap:=h'}
def E8(CX:QJ)(X:Cx)(E:St->XK):Prop:=∀(a6:List (qR×Obj)) (σ:St) (H:Hp) (s:qS) (e:qQ) (s':qS),AR X a6 σ H s->CX X.stack H s (E σ) e s'->X.xe e s'
section
variable{P:qT}{w:qU}{K:qV}{mg:Str->Option qQ}{base:Heap}{N:List Str}{f:qR}{cd:qQ}{A:Around}{outer:List Env}{s:qS}{E:XK}
theorem C4{C:qQ}:ON (Dr (Ny nc P w) P w K mg base N qual scope f cd A outer s H E) C E:=by
 intro a6 σ H1 s1 h1 e args I hx hE;generalize hX:Dr (Ny nc P w) P w K mg base N qual scope f cd A outer s H E=X at I⊢;have hst:X.stack=X.env::X.outer:=by rw[<-hX];rfl
 have hfr:X.env.frame=some X.env.locals:=by rw[<-hX];rfl
 have hxe:X.xe=λe s'=>wpAny (model P w) X.A (leaving X.env e) (λ_ s''=>Ny nc P w X.outer X.H₀ X.s₀ E e s'') (λe' s''=>Ny nc P w X.outer X.H₀ X.s₀ E e' s'') s':=by rw[<-hX];rfl
 have hex:X.ex=[]:=by rw[<-hX];rfl
 have hp:X.prog=P:=by rw[<-hX];rfl
 have hw:X.w=w:=by rw[<-hX];rfl
 subst hp hw;rw[hxe];have fr:=I.stack;have hin:∀env∈X.stack,∀b,env.frame=some b->b∈Dq X.stack:=λenv he b hb=>Zo.mpr ⟨env,he,hb⟩
 have fr':s1.heap.FunFrames (PySem.W.hideAll s1.heap (Dq X.stack)) (X.env::X.outer):=by rw[<-hst];exact PySem.W.funFrames_hide fr hin
 refine qM (KT.run (Gn _ _) (wpAny_leaves_madeW (Q:=λ_ s2=>∃h2 t,s2={s1 with heap:=h2}/\Heap.FlyingW (PySem.W.hideAll s1.heap (Dq X.stack)) X.outer e C (.ref t) h2/\h1.UpToSlots h2) (E:=λ_ _=>False) (base:=PySem.W.hideAll s1.heap (Dq X.stack)) (h:=s1.heap) (L:=X.env.locals) (by rw[<-hst];exact I.ok.frames) hfr (λb o q=>PySem.W.of_hideAll _ q) fr' hx λh2 t x1 x2 x3 x4=>⟨h2,t,rfl,x1,x4⟩)) (λ_ s2 q=>?_) λ_ _ q=>q.1.elim
 obtain⟨⟨h2,t,rfl,x1,x4⟩,dk⟩:=q;have kept:∀b o,s1.heap.get? b=some o->b∉Dq X.stack->h2.get? b=some o:=λb o q hb=>x1.1 b o (Zj _ q hb)
 have J:AR X a6 σ H1 {s1 with heap:=h2,toks:=s1.toks}:=I.slotted kept λb o q hb=>x4 b o (hx.keeps b o q) (I.frameData q hb)
 have un:Un (Dq X.outer) [] X.H₀ H1 X.s₀.heap h2:=by have z:=J.base;rw[hex]at z;exact z
 have hdc:∃oe,h2.get? e=some oe/\oe.dict=none:=by obtain⟨ob,hob,_⟩:=x1.there;obtain⟨t',he,_,_⟩:=hx.there;exact⟨ob,hob,(dk.get he hob).1.trans rfl⟩
 have hcx:∃oe,h2.get? e=some oe/\Du oe=some .none:=by obtain⟨ob,hob,_⟩:=x1.there;obtain⟨t',he,_,_⟩:=hx.there;exact⟨ob,hob,(dk.get he hob).2.trans rfl⟩
 refine⟨e,C,.ref t,none,_,H1,rfl,⟨J.os,J.bare,un,J.hok,x1,λb o q hb o' q'=>?_,λb u q o' q'=>?_,hdc,λ_=>hcx⟩,hE⟩
 ·obtain⟨o1,q1⟩:=I.base.there b o q (by rw[hex];simp)
  have hn:b∉Dq X.stack:=λz=>by
   rcases X3.mp (I.stkSub b z) with y|y
   ·exact qG (Xn (Xm q) I.ok.above) (by rw[y];exact X8 _)
   ·exact hb y
  have q2:=kept b o1 q1 hn;rw[q']at q2;cases q2;exact Zj _ q1 hn
 ·have hn:b∉Dq X.stack:=λz=>by
   have y:=I.stkFree b z;rw[q]at y;cases y
  obtain⟨o1,r⟩:=(I.hok b u q).somewhere;have q2:=kept b o1 r hn;rw[q']at q2;cases q2;exact Zj _ r hn
theorem C5:E8 (Ny nc P w) (Dr (Ny nc P w) P w K mg base N qual scope f cd A outer s H E) (λ_=>E):=by
 intro a6 σ H1 s1 e s2 I h;generalize hX:Dr (Ny nc P w) P w K mg base N qual scope f cd A outer s H E=X at I h⊢;have hst:X.stack=X.env::X.outer:=by rw[<-hX];rfl
 have hfr:X.env.frame=some X.env.locals:=by rw[<-hX];rfl
 have hxe:X.xe=λe s'=>wpAny (model P w) X.A (leaving X.env e) (λ_ s''=>Ny nc P w X.outer X.H₀ X.s₀ E e s'') (λe' s''=>Ny nc P w X.outer X.H₀ X.s₀ E e' s'') s':=by rw[<-hX];rfl
 have hex:X.ex=[]:=by rw[<-hX];rfl
 have hp:X.prog=P:=by rw[<-hX];rfl
 have hw:X.w=w:=by rw[<-hX];rfl
 subst hp hw;rw[hxe];refine byG λGq hGq=>?_;obtain⟨a,cls,a0,D,B,H',rfl,F,hE⟩:=h;refine hGq ?_;clear hGq Gq;have fl:Heap.FlyingW B (X.env::X.outer) a cls a0 s2.heap:=by rw[<-hst];exact F.fly
 refine qM (KT.run (Gn _ _) (wpAny_leaves_onW (Q:=λ_ s3=>∃h3,s3={s2 with heap:=h3}/\Heap.FlyingW B X.outer a cls a0 h3/\s2.heap.UpToSlots h3) (E:=λ_ _=>False) (by rw[<-hst];exact I.ok.frames) hfr fl λh3 x1 x2=>⟨h3,rfl,x1,x2⟩)) (λ_ s3 q=>?_) λ_ _ q=>q.1.elim
 refine byG λGq hGq=>?_;obtain⟨⟨h3,rfl,x1,x2⟩,dk⟩:=q;refine hGq ?_;clear hGq Gq;have J:AR X a6 σ H' {s2 with heap:=h3,toks:=s2.toks}:=F.land I x1.1 x2;have un:Un (Dq X.outer) [] X.H₀ H' X.s₀.heap h3:=by have z:=J.base;rw[hex]at z;exact z
 have hdc:∃oe,h3.get? a=some oe/\oe.dict=D:=by obtain⟨ob,hob,_⟩:=x1.there;obtain⟨ow,hw,hwd⟩:=F.dct;exact⟨ob,hob,(dk.get hw hob).1.trans hwd⟩
 have hcx:nc=true->∃oe,h3.get? a=some oe/\Du oe=some .none:=λhnc=>by obtain⟨ob,hob,_⟩:=x1.there;obtain⟨ow,hw,hwd⟩:=F.ctx hnc;exact⟨ob,hob,(dk.get hw hob).2.trans hwd⟩
 refine⟨a,cls,a0,D,B,H',rfl,⟨J.os,J.bare,un,J.hok,x1,λb o q hb o' q'=>?_,λb u q o' q'=>?_,hdc,hcx⟩,hE⟩
 ·obtain⟨o1,q1⟩:=I.base.there b o q (by rw[hex];simp)
  have hn:b∉Dq X.stack:=λz=>by
   rcases X3.mp (I.stkSub b z) with y|y
   ·exact qG (Xn (Xm q) I.ok.above) (by rw[y];exact X8 _)
   ·exact hb y
  obtain⟨o2,q2⟩:=F.un.there b o1 q1 (by simp);have q3:=F.old b o1 q1 hn o2 q2;have q4:=x1.1 b o2 q3;rw[q']at q4;cases q4;exact q3
 ·obtain⟨o2,q2⟩:=(F.hok b u q).somewhere;have q3:=F.trk b u q o2 q2;have q4:=x1.1 b o2 q3;rw[q']at q4;cases q4;exact q3
end
abbrev OO:List qQ:=[.type "ValueError",.type "Exception",.type "BaseException",.type "object"]
theorem OP{p:Prop}(h:false=true):p:=nomatch h
theorem Qh{F:qR->List qQ->Option qQ->Option qQ->Option qQ->Option qQ->String->Option qQ->Bool}{G:Prop}:∀{m:List qQ} {l:List (Option qQ)},(∀C' bm k0 k1 k2 k3 n k5,m=.ref C'::bm->l=[k0,k1,k2,k3,some (.builtin n),k5]->F C' bm k0 k1 k2 k3 n k5=true->G)->PySem.W.excIn.match_1 (λ_ _=>Bool) m l F (λ_ _=>false)=true->G:=by
 intro m l hG q;rcases m with _|⟨v,bm⟩
 ·exact OP q
 cases v
 case ref C2 =>
  rcases l with _|⟨k0,_|⟨k1,_|⟨k2,_|⟨k3,_|⟨k4,l⟩⟩⟩⟩⟩
  iterate 5 exact OP q
  rcases k4 with _|k4
  ·exact OP q
  cases k4
  case builtin n =>
   rcases l with _|⟨k5,_|_⟩
   ·exact OP q
   ·exact hG _ _ _ _ _ _ _ _ rfl rfl q
   ·exact OP q
  all_goals exact OP q
 all_goals exact OP q
theorem Qi{F:Option qR->ClassData->Array (Option qQ)->Bool}{G:Prop}{o:Option Obj}(hG:∀dd cd sl,o=some ⟨.type "type",dd,.cls cd,sl⟩->F dd cd sl=true->G)(q:PySem.W.excIn.match_6 (λ_=>Bool) o F (λ_=>false)=true):G:=by
 rcases o with _|⟨cls,dd,data,sl⟩
 ·exact OP q
 cases cls
 case type s =>
  by_cases hs:s="type"
  ·subst hs;cases data
   case cls cd=>exact hG _ _ _ rfl q
   all_goals exact OP q
  ·delta PySem.W.excIn.match_6 PySem.W.nsOkIn._sparseCasesOn_4 PySem.W.excIn._sparseCasesOn_6 at q
   dsimp only at q;rw[dif_neg hs]at q;exact OP q
 all_goals exact OP q
theorem Qj{K:qV}{h:Heap}{newId:String}{bmB:List qQ}(kin:K.In h)(q:PySem.W.excIn K C bmB newId=true):
  ∃tl N nm qn bs dy sn sub ab col dd k0 k1 k2 k3 k5 mN,h.get? C=some (excClassObj nm qn C N bs tl dy sn sub ab col dd k0 k1 k2 k3 k5 newId)/\h.Ns N mN/\mN "__init__"=none/\OwnTail h bmB tl:=by
 unfold PySem.W.excIn at q;refine Qi (λdd cd sl ho q=>?_) q;refine Qh (λC2 tl k0 k1 k2 k3 n k5 hm hs q=>?_) q;refine byG λGq hGq=>?_;obtain⟨nm,bs,mro,N,qn,dy,sn,sub,ab,col,del⟩:=cd;refine hGq ?_;clear hGq Gq;obtain⟨l⟩:=sl;dsimp only at hm hs q;subst hm hs;simp only[Bool.and_eq_true,beq_iff_eq,Bool.not_eq_true']at q;refine byG λGq hGq=>?_;obtain⟨⟨⟨⟨⟨e1,e2⟩,e3⟩,e4⟩,e5⟩,e6⟩:=q;refine hGq ?_;clear hGq Gq;subst e1 e2 e3;exact⟨tl,N,nm,qn,bs,dy,sn,sub,ab,col,dd,k0,k1,k2,k3,k5,_,kin _ _ ho,.of_isNs (PySem.W.isNs_of_in kin e5),PySem.W.nsMap_none_of_in kin e5 e6,PySem.W.tail_of_in kin e4⟩
def OQ(C:qR)(E:XK)(t:TA):TS:=λ_ σ H=>t σ H λvs H1=>vs.length<=sizeLine/\E (.ref C) none H1
section
variable{E:XK}{e:Expr}{t:TA}{np cpos pos:Pos}
theorem E9(hc:X.calm=true)(hC:PySem.W.excIn X.K C OO "ValueError.__new__"=true)(hg:Gl X x)(hm:X.mg x=some (.ref C))(hx:ON X (.ref C) E)(ha:PA X (e::es) t)
  (hdb:(x==("__debug__":Str))=false:=by decide) (he:starEach (e::es) X.env=(false,eval e X.env)::starEach es X.env:=by rfl) (hpl:(backTo cpos (starEach es X.env)).any (·.1)=false:=by rfl):
  PS X (.Raise (some (.Call (.Name x np) (e::es) [] cpos)) none pos) (OQ C E t):=by
 intro a6 s σ H D I h;refine byG λGq hGq=>?_;obtain⟨tl,N,nm,qn,bs,dy,sn,sub,ab,col,dd,k0,k1,k2,k3,k5,mN,hO,hN,hni,T⟩:=Qj I.mod.kin hC;refine hGq ?_;clear hGq Gq;have FB:=PySem.F.excBase_ValueError;have arg:=ha cpos a6 s σ H _ I h;refine wpAny_Raise_call_subT (C:=C) (nm:=nm) (q:=qn) (N:=N) (bs:=bs) (bm:=tl) (hdct:=dy) (sn:=sn) (sub:=sub) (ab:=ab) (col:=col) (dd:=dd) (k0:=k0) (k1:=k1) (k2:=k2) (k3:=k3) (k5:=k5) FB (mN:=mN) (T.hasType FB.hasBase) (I.ok.hd hc) ?_ hni (GM I hg hm ⟨rfl,?_⟩ hdb)
 ·rw[he];show (false||(backTo cpos (starEach es X.env)).any (·.1))=false;rw[hpl];rfl
 ·rw[he]at arg⊢;refine Calls.evalArgs_plain (BJ arg λus s2 z9=>?_);obtain⟨vs,H2,I2,r,z,q⟩:=z9;exact⟨rfl,by rw[<-r.length];exact z,I2.bk _ _ hO,hN.keeps I2.bk,T.keeps I2.bk,λh2 a hq=>hx a6 σ H2 s2 h2 a us I2 hq q⟩
end
def JB(sp:Sp)(dvs:List V)(E:St->XK)(t:TA):TE:=λσ H Q=>t σ H λvs H1=>sp (vs++dvs) H1 Q (E σ)
section
variable{k:Nat}{f:qR}{sp:Sp}{dvs:List V}{ds:List qQ}{E:St->XK}{p pos:Pos}{e:Expr}{t:TA}
theorem OR(F:Fc X.prog X.w X.K X.mg X.base CX k f fd ps sp)(hr:Bg k X.A)(hg:Gl X x)(hm:X.mg x=some (.ref f))(hk:PySem.W.keepIn X.K (.ref f)=true)(hb:F7 X.K fd ps ds)(hd:Aq dvs ds)(hx:E8 CX X E)
  (ha:PA X (e::es) t) (hdb:(x==("__debug__":Str))=false:=by decide) (he:starEach (e::es) X.env=(false,eval e X.env)::starEach es X.env:=by rfl) (hpl:(backTo pos (starEach es X.env)).any (·.1)=false:=by rfl):
  PE X (.Call (.Name x p) (e::es) [] pos) (JB sp dvs E t):=by
 intro a6 s σ H Q I h;refine wpAny_Call_Name_kw (GM I hg hm ?_ hdb);refine PySem.W.callWith_K (h₀:=X.base) I.ok.mod.kin hk (BJ (ha pos a6 s σ H _ I h) λus s1 ⟨vs,H1,I1,r,q⟩=>⟨I1.kIn,?_⟩) he hpl;have r2:Aq (vs++dvs) (us++ds):=r.append hd;have hl:(us++ds).length=ps.length:=by rw[<-r2.length];exact F.len _ _ _ _ q
 refine wpAny_call (codeAny_mono (F.run X.A X.stack s1 H1 ⟨us,[]⟩ (us++ds) (vs++dvs) Q (E σ) hr I1.env0 (hb s1 us I1.kIn hl) r2 q) λrs s2 hq=>?_);rcases rs with er|fl
 ·exact hx a6 σ H1 s1 er s2 I1 hq
 ·cases fl with
  |ret u=>exact I1.after hq
  |next=>exact False.elim hq
  |brk=>exact False.elim hq
  |cont=>exact False.elim hq
end
variable{sp:Sp}
section
variable{P:qT}{w:qU}{K:qV}{mg:Str->Option qQ}{base:Heap}
theorem Bh.okX{f:qR}{N:List Str}{k:Nat}(F:Bh K x qual st f fd)(S:AL N ps (AI st))(len:∀vs H Q E,sp vs H Q E->vs.length=ps.length)
  (hbody:∀(ae:qQ) (A:Around) (outer:List Env) (s:qS) (H:Hp) (vs:List V) (Q:VK) (E:XK),Bg k (A.deeper (envOfC qual (AI st) s.heap.objs.size f ae))->sp vs H Q E ->
   ∃t,F6 (Dr (Ny nc P w) P w K mg base N qual (AI st) f ae A outer s H E) (BW st) t/\t {nx:=λ_ H'=>Q .non H',rt:=Q} (CK N vs) H):Fc P w K mg base (Ny nc P w) (k+1) f fd ps sp:=by
 refine byG λGq hGq=>?_;obtain⟨oc,od,kV,doc,pm,an,ae,ct,osl,rfl,lk,hcd⟩:=F.ex;refine hGq ?_;clear hGq Gq;exact Rp lk hcd S len λA outer s H vs Q E hr hsp=>hbody ae A outer s H vs Q E hr hsp
end
abbrev Cx.but(X:Cx)(p:List (qR×Obj))(E:qQ->qS->Prop):Cx:={X with pn:=p,xe:=E}
theorem Cx.Ok.but(ok:X.Ok)(p:List (qR×Obj))(E:qQ->qS->Prop):(X.but p E).Ok:=
 ⟨ok.mod,ok.kind,ok.glob,ok.blt,ok.above,ok.inj,ok.has,ok.cab,ok.hd,ok.frames,ok.stk,ok.exf,ok.bs,ok.bsz,ok.noex,ok.exfs,ok.funs,ok.frf⟩
theorem Cx.Ok.unbut{p:List (qR×Obj)}(ok:(X.but p E).Ok):X.Ok:=
 ⟨ok.mod,ok.kind,ok.glob,ok.blt,ok.above,ok.inj,ok.has,ok.cab,ok.hd,ok.frames,ok.stk,ok.exf,ok.bs,ok.bsz,ok.noex,ok.exfs,ok.funs,ok.frf⟩
noncomputable def Cx.tr(X:Cx)(p:List (qR×Obj))(W:St->XK):Cx:=X.but p λe s'=>∃a6 σ H s,AR (X.but p λ_ _=>False) a6 σ H s/\IQ X.prog X.w X.stack H s (W σ) e s'
noncomputable def Cx.hdl(X:Cx)(v:qQ):Cx:={X with A:=X.A.mark (some v),calm:=false,xe:=λ_ _=>False}
variable{pos:Pos}
section
variable{pins' p:List (qR×Obj)}{s:qS}{E':qQ->qS->Prop}
theorem AR.but(I:AR X a6 σ H s)(E:qQ->qS->Prop):AR (X.but (X.pn++a6) E) [] σ H s:=
 ⟨I.ok.but _ _,I.os,I.bare,I.base,I.loc,I.cell,I.free,I.freeC,λq hq=>I.pin q (by simpa using hq),I.hok,I.len⟩
theorem AR.unbut(I:AR (X.but (X.pn++a6) E) pins' σ H s):AR X a6 σ H s:=
 ⟨I.ok.unbut,I.os,I.bare,I.base,I.loc,I.cell,I.free,I.freeC,λq hq=>I.pin q (Yw _ hq),I.hok,I.len⟩
theorem AR.rebut(I:AR (X.but p E) a6 σ H s):AR (X.but p E') a6 σ H s:=
 ⟨I.ok.unbut.but _ _,I.os,I.bare,I.base,I.loc,I.cell,I.free,I.freeC,I.pin,I.hok,I.len⟩
theorem AR.hdl(I:AR X a6 σ H s)(v:qQ):AR (X.hdl v) a6 σ H s:=
 ⟨⟨I.ok.mod,I.ok.kind,I.ok.glob,I.ok.blt,I.ok.above,I.ok.inj,I.ok.has,I.ok.cab,λz=>qG z (by show ¬(false=true);decide),I.ok.frames,I.ok.stk,I.ok.exf,I.ok.bs,I.ok.bsz,I.ok.noex,I.ok.exfs,I.ok.funs,I.ok.frf⟩,
  I.os,I.bare,I.base,I.loc,I.cell,I.free,I.freeC,I.pin,I.hok,I.len⟩
theorem AR.unhdl{v:qQ}(hd:X.calm=true->X.A.handled=none)(I:AR (X.hdl v) a6 σ H s):AR X a6 σ H s:=
 ⟨⟨I.ok.mod,I.ok.kind,I.ok.glob,I.ok.blt,I.ok.above,I.ok.inj,I.ok.has,I.ok.cab,hd,I.ok.frames,I.ok.stk,I.ok.exf,I.ok.bs,I.ok.bsz,I.ok.noex,I.ok.exfs,I.ok.funs,I.ok.frf⟩,
  I.os,I.bare,I.base,I.loc,I.cell,I.free,I.freeC,I.pin,I.hok,I.len⟩
theorem Ek{W:St->XK}:E8 (IQ X.prog X.w) (X.tr p W) W:=λa6 σ H s e s' I h=>⟨a6,σ,H,s,AR.rebut (X:=X) I,h⟩
theorem SP.unbut{f:Flow}(h:SP (X.but (X.pn++a6) E) pins' D f s'):SP X a6 D f s':=by
 cases f with
 |next=>obtain⟨a,b,I,q⟩:=h;exact⟨a,b,I.unbut,q⟩
 |brk=>obtain⟨a,b,I,q⟩:=h;exact⟨a,b,I.unbut,q⟩
 |cont=>obtain⟨a,b,I,q⟩:=h;exact⟨a,b,I.unbut,q⟩
 |ret u=>obtain⟨v,a,b,I,q⟩:=h;exact⟨v,a,b,I.unbut,q⟩
theorem GP{M:Model}{A:Around}{i:Nat}{n:Str}{Q:Unit->qS->Prop}(I:AR X a6 σ H s)(hN:X.N.Nodup)(hi:X.N[i]?=some n)(hl:X.env.scope.names.lookup n=some .local)
  (h:∀s',AR X a6 (σ.set i none) H s'->Q () s'):wpAny M A (do bindName X.env n .none;unbindBehindTheSuite X.env n pos) Q E s:=by
 obtain⟨m,hn,lk⟩:=id I.loc;have hcls:(X.env.scope.kind==.class||(X.env.scope.kind==.module&&X.env.locals != X.env.globals))=false:=by rw[I.ok.kind];rfl
 refine wpAny_nameGoes_keeps (show X.env.kindOf n=some .local from hl) hn hcls λh' v hn' sb=>h _ ?_
 have away:∀b o,X.s₀.heap.get? b=some o->b≠X.env.locals:=λb o e=>YA (Xn (Xm e) I.ok.above)
 have hiσ:i<σ.length:=by rw[I.len];exact (Xg.mp hi).1
 refine⟨I.ok,I.os,I.bare,⟨λb o e nn hb hx=>(sb.2 b (away b o e)).trans (I.base.keep b o e nn hb hx),λb o e nn hb hx=>?_,I.base.free,λb o e hx=>?_,I.base.tups,I.base.frzs,I.base.tbls⟩,
  ⟨_,hn',λj y w e1 e2 e3=>?_⟩,λy c e=>?_,I.free,I.freeC,λq hq=>?_,λb u q=>?_,by simpa using I.len⟩
 ·obtain⟨sl,e1⟩:=I.base.slot b o e nn hb hx;exact⟨sl,(sb.2 b (away b o e)).trans e1⟩
 ·obtain⟨o',e1⟩:=I.base.there b o e hx;exact⟨o',(sb.2 b (away b o e)).trans e1⟩
 ·by_cases hj:j=i
  ·subst hj;rw[Zt hiσ]at e2;cases e2
  ·rw[Z4 (Ne.symm hj)]at e2;obtain⟨u,r,z⟩:=lk j y w e1 e2 e3;refine⟨u,r,?_⟩;rcases z with⟨k,z⟩|⟨k,c,z,y'⟩
   ·have ny:y≠n:=λq=>hj (Gf hN e1 (q▸hi))
    exact .inl ⟨k,by simp[ny,z]⟩
   ·exact .inr ⟨k,c,z,y'.sameBut sb (I.cne y c z)⟩
 ·obtain⟨w,z⟩:=I.cell y c e;exact⟨w,z.sameBut sb (I.cne y c e)⟩
 ·obtain⟨e,nn,ne,nf,d⟩:=I.pin q hq;exact⟨(sb.2 q.1 ne).trans e,nn,ne,nf,d⟩
 ·refine (I.hok b u q).stay (λc w hc r=>(sb.2 c λz=>?_).trans r) (λ_ q=>q) λ_ _ q=>q
  have fz:=I.free;rcases hc with e|e
  ·rw[<-z,e,q]at fz;cases fz
  ·rw[<-z,e]at fz;cases fz
end
def U4(K:qV)(R:qQ)(i:Nat)(W:St->XK)(tb th:TS):TS:=λD σ H=>tb D σ H/\∀σ' cls D' H',W σ' cls D' H'->PySem.W.exmOne K cls R=some true/\∀a,H' a=none ->
 th {nx:=λσ2 H2=>D.nx (σ2.set i none) H2,rt:=D.rt,bk:=λσ2 H2=>D.bk (σ2.set i none) H2,ct:=λσ2 H2=>D.ct (σ2.set i none) H2} (σ'.set i (some (.ref a))) (AT H' a (Ul a cls D' false))
section
variable{n:Str}{R:qR}{i:Nat}{W:St->XK}{b:List Stmt}{c0:Stmt}{suite:List Stmt}{tb th:TS}{np hpos:Pos}
theorem Sy(hN:X.N.Nodup)(hi:X.N[i]?=some n)(hl:X.env.scope.names.lookup n=some .local)(hg:Gl X x)(hm:X.mg x=some (.ref R))(hst:X.stack=X.env::X.outer)(hfr:X.env.frame=some X.env.locals)
  (hb:∀p,F6 (X.tr p W) b tb) (hs:∀v,F6 (X.hdl v) (c0::suite) th) (hd:(x==("__debug__":Str))=false:=by decide):
  PS X (.Try b [.ExceptHandler (some (.Name x np)) (some n) (c0::suite) hpos] [] [] pos) (U4 X.K (.ref R) i W tb th):=by
 intro a6 s σ H D I h;obtain⟨h1,h2⟩:=h;refine wpAny_Try_except (qM (hb (X.pn++a6) [] s σ H D (I.but _) h1) (λf s1 q=>?_) λe s1 q=>?_)
 ·have q':SP X a6 D f s1:=SP.unbut (pins':=[]) q;cases f with
  |next=>exact wpAny_execs_nil q'
  |ret u=>exact q'
  |brk=>exact q'
  |cont=>exact q'
 ·obtain⟨pins0,σ0,H0,s0,I0,a,cls,a0,D',B,H',rfl,F,hW⟩:=q;have J0:AR X a6 σ0 H0 s0:=I0.unbut;obtain⟨hx,hth⟩:=h2 σ0 cls D' H' hW;have fl:Heap.FlyingW B (X.env::X.outer) a cls a0 s1.heap:=by rw[<-hst];exact F.fly
  refine qM (KT.run (L9 _ _) (wpAny_looks_onW (Q:=λ_ s4=>∃h4,s4={s1 with heap:=h4}/\Heap.HeldW B (X.env::X.outer) a cls a0 X.env.locals h4/\s1.heap.UpToSlots h4) (E:=λ_ _=>False) (by rw[<-hst];exact J0.ok.frames) hfr fl λh4 held4 sm4=>⟨h4,rfl,held4,sm4⟩)) (λ_ s4 q=>?_) λ_ _ q=>q.1.elim
  obtain⟨⟨h4,rfl,held4,sm4⟩,dk4⟩:=q;refine qM (KT.run (DZ _ _) (wpAny_landsW (Q:=λ_ s5=>∃h5,s5={s1 with heap:=h5}/\Heap.FlyingW B (X.env::X.outer) a cls a0 h5/\h4.UpToSlots h5) (E:=λ_ _=>False) (s:={s1 with heap:=h4}) held4 λh5 fl5 sm5=>⟨h5,rfl,fl5,sm5⟩)) (λ_ s5 q=>?_) λ_ _ q=>q.1.elim
  obtain⟨⟨h5,rfl,fl5,sm5⟩,dk5⟩:=q;have J5:AR X a6 σ0 H' {s1 with heap:=h5,toks:=s1.toks}:=F.land J0 fl5.1 (sm4.trans sm5);have K5:=J5.hdl (.ref a);refine wpAny_handleBy_cons (codeAny_handlers_test (GM K5 hg hm ?_ hd)) (by intro q;cases q);obtain⟨ob,hob,hobc⟩:=fl5.there
  have LT:PySem.W.Looks (model X.prog X.w) h5 (typeOf (.ref a)) cls:=by subst hobc;exact (PySem.W.Looks.ld hob).andThen .now
  refine (PySem.W.exm_one J5.kIn LT hx).here ?_;show codeAny _ _ _ _ _;refine codeAny_handlers_suite_as ?_;refine qM (KT.run (DZ _ _) (lands_againW (Q:=λ_ s6=>∃h6,s6={s1 with heap:=h6}/\Heap.FlyingW B (X.env::X.outer) a cls a0 h6/\h5.UpToSlots h6) (E:=λ_ _=>False) (s:={s1 with heap:=h5}) fl5 λh6 fl6 sm6=>⟨h6,rfl,fl6,sm6⟩)) (λ_ s6 q=>?_) λ_ _ q=>q.1.elim
  obtain⟨⟨h6,rfl,fl6,sm6⟩,dk6⟩:=q;have J6:AR X a6 σ0 (AT H' a (Ul a cls D' false)) {s1 with heap:=h6,toks:=s1.toks}:=F.land' J0 fl6 ((sm4.trans sm5).trans sm6) ((dk4.trans dk5).trans dk6);refine Gg J6 hN hi (.inl hl) (v:=.ref a) rfl (λs7 I7=>?_) (.inr hl);have run:=hs (.ref a) a6 s7 _ _ _ (I7.hdl (.ref a)) (hth a F.fresh.1);refine qM run (λf s8 q8=>?_) λ_ _ z=>z.elim
  cases f with
  |next =>
   obtain⟨σ8,H8,I8,q8⟩:=q8;exact GP (I8.unhdl J0.ok.hd) hN hi hl λs9 I9=>⟨_,_,I9,q8⟩
  |brk =>
   obtain⟨σ8,H8,I8,q8⟩:=q8;exact GP (I8.unhdl J0.ok.hd) hN hi hl λs9 I9=>⟨_,_,I9,q8⟩
  |cont =>
   obtain⟨σ8,H8,I8,q8⟩:=q8;exact GP (I8.unhdl J0.ok.hd) hN hi hl λs9 I9=>⟨_,_,I9,q8⟩
  |ret u =>
   obtain⟨v8,σ8,H8,I8,r8,q8⟩:=q8;exact GP (I8.unhdl J0.ok.hd) hN hi hl λs9 I9=>⟨v8,_,_,I9,r8,q8⟩
end
structure K1(K:qV)(D:qR):Prop where
 ci:(PySem.W.clsIn K D).isSome=true
 ga:PySem.W.findIn K (.ref D) "__getattribute__"=some (some (.builtin "BaseException.__getattribute__"))
 gn:PySem.W.findIn K (.ref D) "__getattr__"=some none
 ca:PySem.W.findIn K (.ref D) "__class__"=some (some (.builtin "object.__class__"))
 sg:PySem.W.specialIn K (.builtin "object.__class__") "__get__"=some (some (.builtin "getset_descriptor.__get__"))
 tk:PySem.W.takesIn K (.builtin "object.__class__")=some true
 mo:PySem.W.mroIn K D (.type "object")=some true
 mb:PySem.W.mroIn K D (.type "BaseException")=some true
section
variable{K:qV}{D:qR}{dy:Option qR}{n:Bool}
theorem K1.isCls(c:K1 K D){M:Model}{h:Heap}(kin:K.In h):PySem.W.Looks M h (isType (.ref D)) true:=by
 have z:=c.ci;unfold PySem.W.clsIn at z
 split at z
 next ho =>
  intro A Q E s k q;unfold isType loadHead;exact qC (wpAny_loadPart (k _ _ (kin _ _ ho)) (qD q))
 next=>cases z
theorem F8.ty{M:Model}{h:Heap}(x:F8 a cls dy n h):PySem.W.Looks M h (typeOf (.ref a)) cls:=by refine byG λGq hGq=>?_;obtain⟨o,vs,e,c,_⟩:=x;refine hGq ?_;clear hGq Gq;subst c;exact (PySem.W.Looks.ld e).andThen .now
theorem K2{M:Model}{h:Heap}{x:qQ}{g:qQ}(kin:K.In h)(h1:PySem.W.findIn K (.ref D) name=some (some u))(h2:PySem.W.specialIn K u "__get__"=some (some g))(h3:PySem.W.takesIn K u=some true):
  PySem.W.Looks M h (Builtin.ObjectAttr.find x (.ref D) name) (.bind g u):=by
 have a1:=Z5 (M:=M) kin h1;have a2:PySem.W.Looks M h (Builtin.ObjectAttr.getOf (some u)) (some g):=PySem.W.looks_specialIn kin h2;have a3:PySem.W.Looks M h (Builtin.ObjectAttr.dataDescriptor? (some u) (some g)) (some (g,u)):=(PySem.W.looks_takesIn (M:=M) kin h3).andThen .now;exact a1.andThen (a2.andThen (a3.andThen (PySem.W.Looks.tag .now)))
theorem Qk{prog:qT}{w:qU}{A:Around}{R:Result->qS->Prop}{s:qS}{tp:qQ}(c:K1 K D)(kin:K.In s.heap)(x:F8 a (.ref D) dy n s.heap)(q:R (.ok (.ret (.ref D))) s):
  codeAny (model prog w) A (.call (.builtin "getset_descriptor.__get__") ⟨[.builtin "object.__class__",.ref a,tp],[]⟩) R s:=by
 obtain⟨hp,g,d,t,os⟩:=s;have a1:=x.ty (M:=model prog w);have a2:=PySem.W.looks_mroIn (M:=model prog w) kin c.mo;refine codeAny_call_builtin PySem.W.KF.slot_gs.plain PySem.W.KF.entry_gs (PySem.W.KF.slot_gs.check _ _ _ _ _ _ _ _ PySem.W.KF.type_class (PySem.W.KF.args_gs _ _ _) ?_)
 (unfold Builtin.«getset_descriptor.__get__» Builtin.Getset_descriptor.descrGet;rw[PySem.W.dga_obj];refine qC (qD ?_))
 (unfold Builtin.Getset_descriptor.descrGetter Builtin.Getset_descriptor.descrCheckInstance Builtin.Getset_descriptor.descrNameAndClass isInstance;simp only[PySem.W.KF.owner_class])
 repeat lk
 refine⟨Code.quiet_builtin _ (by decide +kernel),codeAny_builtin PySem.W.KF.entry_class ?_⟩
 (unfold Builtin.«object.__class__» shownTypeOf;repeat lk)
 exact q
theorem NI{prog:qT}{w:qU}{A:Around}{Q:Option qQ->qS->Prop}{s:qS}(c:K1 K D)(kin:K.In s.heap)(x:F8 a (.ref D) dy n s.heap)
  (q:Q (some (.ref D)) {s with toks:=s.toks+1}):wpAny (model prog w) A (getAttr? (.ref a) "__class__") Q E s:=by
 refine byG λGq hGq=>?_;obtain⟨hp,g,d,t,os⟩:=s;refine hGq ?_;clear hGq Gq;have LT:=x.ty (M:=model prog w);have L1:=Z5 (M:=model prog w) kin c.ga;have L2:=Z5 (M:=model prog w) kin c.gn;have L3:=K2 (M:=model prog w) (x:=.ref a) kin c.ca c.sg c.tk;have L4:PySem.W.Looks (model prog w) hp (isInstance (.ref a) (.type "BaseException")) true:=LT.andThen (PySem.W.looks_mroIn kin c.mb);have FA:=PySem.F.excAttr_ValueError;unfold getAttr? getAttrBy? getAttrBy;refine qC (wpAny_mkText (qC (wpAny_attempt (qO (qC (LT.at (qC (L1.at ?_))))))));show wpAny _ _ (getAttrByItsOwn _ _ _ _ _ _) _ _ _;unfold getAttrByItsOwn;refine qC (show wpAny _ _ (typeLookup (.ref D) "__getattr__") _ _ _ from L2.at ?_);refine qC (wpAny_attempt (qO ?_));show wpAny _ _ (boundAndCalled _ _ _) _ _ _;unfold boundAndCalled;refine qC (wpAny_of_eq (FA.ga.bind _) ?_);refine wpAny_call (codeAny_call_builtin FA.ga.plain PySem.F.entry_bexc_ga ?_);have hk:builtinKind "BaseException.__getattribute__"=some .slot:=by decide +kernel
 have hsp:splitId "BaseException.__getattribute__"=some ("BaseException","__getattribute__"):=by decide +kernel
 have ha:=PySem.F.args_bexc_ga (.ref a) (.str "__class__" t);show wpAny _ _ (checkBuiltinCall "BaseException.__getattribute__" ⟨[.ref a,.str "__class__" t],[]⟩) _ _ _;simp only[checkBuiltinCall,hk,hsp];refine qC (L4.at ?_)
 repeat (any_goals (first|assumption|wp_step))
 refine byG λGq hGq=>?_;obtain⟨o,vs,eo,co,vo⟩:=id x;refine hGq ?_;clear hGq Gq;refine wpAny_loadPart eo ?_;refine qD ?_;rw[co];refine qC (L3.at ?_);show wpAny _ _ (call (.builtin "getset_descriptor.__get__") [.builtin "object.__class__",.ref a,.ref D] >>= λv=>ret v) _ _ _;refine qC (wpAny_call (Qk c kin ⟨o,vs,eo,co,vo⟩ ?_));refine qD ?_;show wpAny _ _ (handedOut (.ref D)) _ _ _;exact qD (qD q)
theorem Js(c:K1 K D):PySem.W.KitX K (.ref a) (.ref D) (F8 a (.ref D) dy n) where
 ty:=λ_ _ _ x=>x.ty
 it:=λ_ _ kin _=>c.isCls kin
 ne:=λh tp dd its n sl kin htp=>by
  refine Bool.eq_false_iff.mpr λq=>?_;have e:D=tp:=Value.ref.inj (beq_iff_eq.mp q);subst e;have z:=c.ci;unfold PySem.W.clsIn at z
  split at z
  next ho =>
   have y:=(kin _ _ ho).symm.trans htp;cases y
  next=>cases z
 ca:=λkin x q=>NI c kin x q
end
inductive U5(K:qV)(H:Hp):V->qQ->Prop where
 |of {x:V} {t:qQ} (h:Fb K H x t):U5 K H x t
 |exc {a D:qR} {dy:Option qR} {n:Bool} (e:H a=some (Ul a (.ref D) dy n)) (c:K1 K D):U5 K H (.ref a) (.ref D)
noncomputable def OS:V->Option qQ
 |.ty n=>some (.type n)
 |.ref a=>some (.ref a)
 |_=>none
noncomputable def Ql(K:qV):List V->Hp->VK->Prop
 |[x,c],H,Q=>∃t u b,U5 K H x t/\OS c=some u/\PySem.W.kitOne K t u=some b/\Q (.bl b) H
 |_,_,_=>False
theorem OT:CJ X (.builtin "isinstance") (Ql X.K):=by
 intro a6 s σ H xs us Q I rv h
 match xs,h with
 |[x,c],h =>
 refine byG λGq hGq=>?_;obtain⟨t,u,b,ty,rc,k,q⟩:=h;refine hGq ?_;clear hGq Gq;refine byG λGq hGq=>?_;obtain⟨v1,v2,rfl,r1,r2⟩:=Jn rv;refine hGq ?_;clear hGq Gq
 have e:v2=u:=by
  cases c with
  |ty n=>cases rc;exact r2
  |ref a=>cases rc;exact r2
  |_=>cases rc
 subst e;cases ty with
 |of ty=>exact NG I r1 ty k λtk=>⟨.bl b,H,I.tok tk,rfl,q⟩
 | @exc a D dy n e ck =>
  cases (show v1=Value.ref a from r1);obtain⟨x,_,_⟩:=(show Ag X.prog X.w H s.heap a (.ext (F8 a (.ref D) _ _)) from I.hok a _ e);exact Yk (Js ck) I.kIn x k (λz=>nomatch z) λtk=>⟨.bl b,H,I.tok tk,rfl,q⟩
variable{items:Array qQ}
section
variable{prog:qT}{w:qU}{A:Around}{s:qS}
theorem NJ:typeLookup (.type "list_reverseiterator") "__len__"=pure none:=by rw[typeLookup_type,builtinLookup_eq_fast];kernel_rfl
theorem OU:typeLookup (.type "list_reverseiterator") "__length_hint__"=pure (some (.builtin "list_reverseiterator.__length_hint__")):=by rw[typeLookup_type,builtinLookup_eq_fast];kernel_rfl
theorem OV{I:qR}{Q:Bool->qS->Prop}(hT:s.TypeIs (.ref I) "list_reverseiterator")(q:Q false s):wpAny (model prog w) A (Builtin.List.listLengthHint (.ref I)) Q E s:=by
 unfold Builtin.List.listLengthHint;refine qC (wpAny_specialOf hT NJ ?_);show wpAny _ A (specialOf (Value.ref I) (Str.ofString "__length_hint__") >>= _) _ _ _;refine qC (wpAny_specialOf hT OU ?_);generalize hz:("list_reverseiterator.__length_hint__":String)=zz
 wp_delta
 rw[show splitId zz=some ("list_reverseiterator","__length_hint__") from by subst hz;decide +kernel];subst hz;refine qC (wpAny_isInstance (b:=true) hT (by rw[isSubtype_type];kernel_rfl) ?_);exact qD q
theorem Jt{I:qR}{Q:qQ->qS->Prop}(hh:A.handled=none)(hIl:l≠I)(hit:s.heap.IsRevIter I l ((items.size:Int)-1))(hl:s.heap.IsList l items)(hz:items.size<=sizeLine)
  (hQ:∀h' tk c' ad,(∀b o,b≠I->s.heap.get? b=some o->h'.get? b=some o)->h'.get? s.heap.objs.size=some {cls:=.type "list",dict:=none,data:=.seq ad c',slots:=#[]} ->
   ad.toList=items.toList.reverse->Q (.ref s.heap.objs.size) {s with heap:=h',toks:=tk}):wpAny (model prog w) A (call (.type "list") [.ref I]) Q E s:=by
 have W:=(Walks.listRev (prog:=prog) (w:=w) (A:=A.in1.in1) hh I l hIl items).toS;have hIlt:I<s.heap.objs.size:=by obtain⟨o,e,_⟩:=hit;exact Xm e
 have hllt:l<s.heap.objs.size:=by obtain⟨o,e,_⟩:=hl;exact Xm e
 refine callType_codes (Q₁:=λobj s₁=>obj=.ref s.heap.objs.size/\s₁={s with heap:=s.heap.push {cls:=.type "list",data:=.seq #[]}}) PySem.F.called_list (PySem.F.typeCall_list_1 _) PySem.F.entry_list_init
  (code_list_new _ ⟨rfl,rfl⟩) λobj s₁ h₁=>?_
 obtain⟨rfl,rfl⟩:=h₁;have hS:(s.heap.push {cls:=.type "list",data:=.seq #[]}).get? s.heap.objs.size=some {cls:=.type "list",data:=.seq #[]}:=Xs _ rfl;refine⟨⟨_,hS,rfl⟩,PySem.F.args_list_init_2 _ _,?_⟩;show wpAny _ _ (do let old <-Builtin.List.listItems (.ref s.heap.objs.size);Builtin.List.listUpdate (.ref s.heap.objs.size) (λ_=>#[]);letGo old.toList.reverse;Builtin.List.listExtendWith (.ref s.heap.objs.size) (.ref I) .none) _ _ _;refine qC ?_;unfold Builtin.List.listItems;refine qC (wpAny_seqItems hS rfl (qD ?_));show wpAny _ _ (updateSeq s.heap.objs.size (λ_=>#[]) >>= λ_=>letGo (#[]:Array qQ).toList.reverse >>= λ_=>Builtin.List.listExtendWith (.ref s.heap.objs.size) (.ref I) .none) _ _ _;refine qC (wpAny_updateSeq hS rfl ?_);have hS2:=Heap.get?_update_self (Obj.mapSeq (λ_=>(#[]:Array qQ))) hS rfl
 have kp:∀b o,s.heap.get? b=some o->((s.heap.push {cls:=.type "list",data:=.seq #[]}).update s.heap.objs.size (Obj.mapSeq (λ_=>(#[]:Array qQ)))).get? b=some o:=
  λb o e=>(Heap.get?_update_other _ _ (ZO (Xm e))).trans (Xh _ e)
 refine qC (wpAny_letGo ?_);have hit2:=hit.at λo e=>kp I o e
 have hl2:=hl.at λo e=>kp l o e
 unfold Builtin.List.listExtendWith;refine qC (wpAny_typeOf (T:="list_reverseiterator") hit2.typeIs ?_);have h1:Builtin.List.listSameRef (.ref s.heap.objs.size) (.ref I)=false:=by simp[Builtin.List.listSameRef,Nat.ne_of_gt hIlt]
 rw[qE (by rw[h1];decide)];refine qC (wpAny_pyIter_revIter hit2 ?_);refine qC (qO (OV hit2.typeIs ?_));rw[qE (by decide)]
 have nf:s.heap.objs.size∉[I,l]:=by simp only[List.mem_cons,List.not_mem_nil,or_false,not_or];exact⟨ZO hIlt,ZO hllt⟩
 refine qD ⟨plainId_quiet PySem.F.plain_extend_loop _,codeAny_extend_loopS W hz _ nf _ items.size 0 _ _ _ rfl (Nat.zero_le _) ⟨Nat.zero_le _,by simpa using hit2,hl2⟩ hS2 (ItemsOf.nil _) λs' ad c' hm hS' hacc=>?_⟩;refine⟨rfl,?_⟩;rw[Moved.eq_with hm];refine hQ s'.heap s'.toks c' ad (λb o hb e=>hm.heap b o (λz=>?_) (kp b o e)) hS' ?_
 ·rcases X3.mp z with z|z
  ·exact qG (Xm e) (by rw[z];exact X8 _)
  ·exact hb (Xu.mp z)
 ·apply List.ext_getElem?;intro i
  by_cases hi:i<items.size
  ·have hi2:i<ad.size:=by rw[hacc.1];exact hi
   have p:=hacc.2 i ad[i] (Zd hi2);rw[List.getElem?_reverse (by simpa using hi),Array.getElem?_toList,Array.getElem?_eq_getElem hi2,Array.getElem?_toList,Array.length_toList];exact p.symm
  ·rw[ZY (by rw[X0,hacc.1];lia),ZY (by rw[List.length_reverse,X0];lia)]
end
def OW(K:qV)(ta:TA):TE:=λσ H Q=>ta σ H λvs H1=>∃a xs,vs=[.ref a]/\Af K H1 a xs/\∀p,H1 p=none->Q (.ref p) (AT H1 p (.lst xs.reverse))
theorem Qm{l:Expr}{p1 p2 pos1 pos2:Pos}(hc:X.calm=true)(hg:Gl X "reversed")(hm:X.mg "reversed"=none)(hg2:Gl X "list")(hm2:X.mg "list"=none)(ha:PA X [l] ta)(hs:starEach [l] X.env=[(false,eval l X.env)]:=by rfl)
  (hs2:starEach [.Call (.Name "reversed" p1) [l] [] pos1] X.env=[(false,eval (.Call (.Name "reversed" p1) [l] [] pos1) X.env)]:=by rfl):
  PE X (.Call (.Name "list" p2) [.Call (.Name "reversed" p1) [l] [] pos1] [] pos2) (OW X.K ta):=by
 intro a6 s σ H Q I h;refine Call_ (Ck I hg2 hm2 PyProof.Rows.boot_list (YU (T:="list") ?_ hs2 rfl));rw[hs2];show wpAny _ _ (spliced ((false,eval (.Call (.Name "reversed" p1) [l] [] pos1) X.env)::[])) _ _ s;refine Calls.spliced_cons (Call_ (Ck I hg hm boot_reversed (YU (BJ (ha pos1 a6 s σ H _ I h) λus s1 z9=>?_) hs rfl)));obtain⟨vs,H1,I1,r1,q1⟩:=z9;refine byG λGq hGq=>?_;obtain⟨a,xs,e,hq,q⟩:=q1;refine hGq ?_;clear hGq Gq;subst e;cases r1 with
 |cons r rr =>
  cases rr;cases r;refine byG λGq hGq=>?_;obtain⟨its,rv,pl,hz⟩:=I1.list hq;refine hGq ?_;clear hGq Gq;have hlen:=rv.length;refine call_reversed_list pl.isList ?_;refine Calls.spliced_nil ?_;have ne:a≠s1.heap.objs.size:=by obtain⟨o,e,_⟩:=pl.isList;exact YA (Xm e)
  have hL:(s1.heap.push (revObj a ((its.toArray.size:Int)-1))).IsList a its.toArray:=pl.isList.at λo e=>Xh _ e
  refine Jt (s:={s1 with heap:=s1.heap.push (revObj a ((its.toArray.size:Int)-1))}) (I.ok.hd hc) ne ⟨_,Xs _ rfl,rfl,rfl⟩ hL (by rw[YS,<-hlen];exact hz) λh' tk c' ad kp hD hacc=>?_;have kp2:∀b o,s1.heap.get? b=some o->h'.get? b=some o:=λb o e=>kp b o (YA (Xm e)) (Xh _ e)
  have hf:H1 (s1.heap.push (revObj a ((its.toArray.size:Int)-1))).objs.size=none:=I1.hok.fresh (by rw[Y1];lia);have rv2:Aq xs.reverse ad.toList:=by rw[hacc];simpa using rv.reverse
  refine⟨.ref _,_,I1.laid (t':=tk) kp2 (by rw[Y1];lia) ?_,rfl,q _ hf⟩;exact⟨by rw[List.length_reverse];exact hz,ad.toList,c',rv2,by simpa using hD⟩
def U6(K:qV):R2:=λx y H Q=>∃(a b:qR) (ns ms:qW),x=.ref a/\y=.ref b/\Af K H a (ns.map V.int)/\Af K H b (ms.map V.int)/\Q (.bl (decide (ns=ms))) H
def Sz(K:qV):R2:=λx y H Q=>∃(a b:qR) (ns ms:qW),x=.ref a/\y=.ref b/\Af K H a (ns.map V.int)/\Af K H b (ms.map V.int)/\Q (.bl (!decide (ns=ms))) H
theorem S0(hu:X.A.units+64<cLine):Ec X (compareOp .Eq) (U6 X.K):=by intro a6 s σ H x y v u Q I rx ry h;refine byG λGq hGq=>?_;obtain⟨a,b,ns,ms,rfl,rfl,ha,hb,q⟩:=h;refine hGq ?_;clear hGq Gq;cases rx;cases ry;refine byG λGq hGq=>?_;obtain⟨va,ra,pa,_⟩:=I.list ha;refine hGq ?_;clear hGq Gq;refine byG λGq hGq=>?_;obtain⟨vb,rb,pb,_⟩:=I.list hb;refine hGq ?_;clear hGq Gq;exact PySem.W.eq_intsK pa.isList (DY ra) pb.isList (DY rb) hu ⟨.bl _,H,I,rfl,q⟩
theorem S5(hu:X.A.units+64<cLine):Ec X (compareOp .NotEq) (Sz X.K):=by intro a6 s σ H x y v u Q I rx ry h;refine byG λGq hGq=>?_;obtain⟨a,b,ns,ms,rfl,rfl,ha,hb,q⟩:=h;refine hGq ?_;clear hGq Gq;cases rx;cases ry;refine byG λGq hGq=>?_;obtain⟨va,ra,pa,_⟩:=I.list ha;refine hGq ?_;clear hGq Gq;refine byG λGq hGq=>?_;obtain⟨vb,rb,pb,_⟩:=I.list hb;refine hGq ?_;clear hGq Gq;exact PySem.W.ne_intsK pa.isList (DY ra) pb.isList (DY rb) hu ⟨.bl _,H,I,rfl,q⟩
theorem OX{P:qT}{w:qU}{K:qV}{mg:Str->Option qQ}{base:Heap}{N:List Str}{f:qR}{cd:qQ}{A:Around}{outer:List Env}{s:qS}{E:XK}:(Dr CX P w K mg base N qual scope f cd A outer s H E).K=K:=rfl
theorem Wm{p:List (qR×Obj)}{W:St->XK}:(X.tr p W).K=X.K:=rfl
theorem Rt{v:qQ}:(X.hdl v).K=X.K:=rfl
theorem U7{P:qT}{w:qU}:E8 (IQ P w) X (λ_=>E0):=λ_ _ _ _ _ _ _ h=>by obtain⟨_,_,_,_,_,_,_,_,h⟩:=h;exact h.elim
theorem AG.new{p:qR}(h:H p=none)(o:HO):AG H (AT H p o):=λb u q=>by rw[AJ (BE q h)];exact q
theorem OY{p q:qR}{o:HO}(h:AT H p o q=none):q≠p/\H q=none:=by
 have ne:q≠p:=λz=>by rw[z,AE]at h;cases h
 rw[AJ ne]at h;exact⟨ne,h⟩
theorem U8{n:Nat}(h:n<=1000):n<=sizeLine:=Y9 (Ab h)
section
variable{p:Pos}{a:Expr}{ta tc:TE}
theorem Ef{n:String}(hg:Gl X x)(hm:X.mg x=none)(hv:bootBuiltins x=some (.type n))(hn:x≠"__name__":=by decide)(hd:(x==("__debug__":Str))=false:=by decide):PE X (.Name x pos) (tC (.ty n)):=
 QT (v:=.ty n) hg hm hv rfl hn hd
theorem El(hg:Gl X x)(hm:X.mg x=some (.ref C))(hd:(x==("__debug__":Str))=false:=by decide):PE X (.Name x pos) (tC (.ref C)):=Lr (v:=.ref C) hg hm rfl hd
theorem OZ{i:Int}{t:Tok}(hg:Gl X x)(hm:X.mg x=some (.int i t))(hd:(x==("__debug__":Str))=false:=by decide):PE X (.Name x pos) (tC (.int i)):=Lr (v:=.int i) hg hm ⟨t,rfl⟩ hd
theorem S6(hg:Gl X "isinstance")(hm:X.mg "isinstance"=none)(ha:PE X a ta)(hc:PE X c tc)(h1:starEach [a,c] X.env=(false,eval a X.env)::starEach [c] X.env:=by rfl)(h2:starEach [c] X.env=(false,eval c X.env)::starEach [] X.env:=by rfl)
  (h3:(backTo pos (starEach [c] X.env)).any (·.1)=false:=by rfl):PE X (.Call (.Name "isinstance" p) [a,c] [] pos) (Uk (Ql X.K) (Dt ta (Dt tc IC))):=
 Ai OT hg hm PyProof.Rows.boot_isinstance (AA ha (AA hc AD h2) h1) (by decide) (by decide) h1 h3
end
theorem XY{t u:TS}(Z:St->Hp->Prop)(h1:∀N:St->Hp->Prop,(∀σ' H',Z σ' H'->N σ' H')->t {D with nx:=N} σ H)(h2:∀σ' H',Z σ' H'->u D σ' H'):NA t u D σ H:=h1 (u D) h2
def AY(K:qV)(x:Str)(st:Stmt)(f:qR):Prop:=(∃fd,Bh K x x st f fd)/\PySem.W.nsIn K mainGlobals x=some (some (.ref f))
theorem AZ{K:qV}{f:qR}{kV pm ct:qQ}(a:PySem.W.nsIn K mainGlobals x=some (some (.ref f)))
  (l:K.lookup f=some ⟨oc,od,.func (PySem.W.fnOf x x (C3 st) (BW st) (AI st) .none kV doc pm an ae ct),osl⟩) (c:PySem.W.codeIn K ae x=true) (k:PySem.W.keepIn K (.ref f)=true):AY K x st f:=
 ⟨⟨_,Sw l c k⟩,a⟩
section
variable{s:qS}
theorem AR.turnedNew{ch:List qR}{p:qR}{o:HO}(I:AR X a6 σ H s)(hf:∀b∈ch,CS X a6 H b)(k:∀b u,b∉ch->s.heap.get? b=some u->h'.get? b=some u)(hp:s.heap.objs.size<=p)
  (new:Ag X.prog X.w (AT H p o) h' p o):AR X a6 σ (AT H p o) {s with heap:=h',toks:=t'}:=by
 have hpn:H p=none:=I.hok.fresh hp;have nit:∀b u,H b=some u->b∉ch:=λb u e z=>by rw[(hf b z).1]at e;cases e
 have np:∀b u,s.heap.get? b=some u->b≠p:=λb u e=>YA (Xn (Xm e) hp)
 refine I.step (g':=s.gens) (d':=s.drawn) (ch:=ch) (λb hb=>⟨(hf b hb).2.2.2.1,(hf b hb).2.1,(hf b hb).2.2.2.2.1,(hf b hb).2.2.2.2.2⟩) (λb u _ _ hc e _=>k b u hc e) (λb u _ _ hc e _=>⟨u.slots,k b u hc e⟩)
  (λb u _ e n=>by rw[AJ (np b u e)];exact n) (λb u hc e=>⟨u,k b u hc e⟩) (λb xs e=>by rw[AJ (BE e hpn)];exact e) (λb u v e=>by rw[AJ (BE e hpn)];exact e)
  (λb ps e=>⟨#[],by rw[AJ (BE e hpn),e];simp⟩) (λm hm=>?_) (λb u e=>?_) I.bare
 ·obtain⟨o,es,ep,ho,r⟩:=hm;exact⟨o,es,ep,k _ o (λz=>(hf _ z).2.1 rfl) ho,r⟩
 ·by_cases z:b=p
  ·subst z;rw[AE]at e;cases e;exact new
  ·rw[AJ z]at e;refine (I.hok b u e).stay (λc v hc q=>k c v ?_ q) (λc q=>by rw[AJ (BE q hpn)];exact q) λc xs q=>by rw[AJ (BE q hpn)];exact q
   rcases hc with y|y
   ·rw[y];exact nit b u e
   ·exact nit c _ y
end
noncomputable def U9(K:qV)(a:qR):It:=
 ⟨λi H=>∃xs x,Af K H a xs/\xs[i]?=some x,λi H v H'=>∃p x,v=.ref p/\H p=none/\H'=AT H p (.tup [.int i,x])/\∀xs,Af K H a xs->xs[i]?=some x,λi H=>∃xs,Af K H a xs/\xs.length<=i⟩
variable{elts:List Expr}{tpos:Pos}
theorem NK{P:qT}{w:qU}{K:qV}{ctx}(a e it:qR)(hne:e≠it):
  IB P w K (.Tuple elts ctx tpos) (U9 K a) [e,it] e (λi h=>(∃old,IsEnum h e it ((i:Nat):Int) old)/\h.IsListIter it a i) where
 mem:=by simp
 obj:=λi h st b hb=>by
  refine byG λGq hGq=>?_;obtain⟨⟨old,q⟩,o,e1,c,d⟩:=st;refine hGq ?_;clear hGq Gq;rcases X3.mp hb with z|z
  ·rw[z];exact⟨_,q,λv y=>by cases y⟩
  ·rw[Xu.mp z];exact⟨o,e1,λv y=>by rw[d]at y;cases y⟩
 keep:=λi h h' st k=>by obtain⟨⟨old,q⟩,li⟩:=st;exact⟨⟨old,k e (by simp) _ q⟩,li.at λo z=>k it (by simp) o z⟩
 item:=by
  intro X hP hw hK hc i a6 s σ H E I hf st hg;subst hP hw hK;refine byG λGq hGq=>?_;obtain⟨xs,x,hq,hx⟩:=hg;refine hGq ?_;clear hGq Gq;refine byG λGq hGq=>?_;obtain⟨its,rv,p,hz⟩:=I.list hq;refine hGq ?_;clear hGq Gq;obtain⟨u,hu,ru⟩:=rv.get hx;obtain⟨⟨old,he⟩,li⟩:=st;refine wpAny_pyNext_enum_item he li p.isList (x:=u) (by simpa using hu) hne λh1 out li1 ht hsz k1=>?_;refine⟨_,rfl,wpAny_letOwnedTupleGo_enum out λh2 he2 sb=>?_⟩
  have k2:∀b o,b∉[e,it]->s.heap.get? b=some o->h2.get? b=some o:=λb o hb z=>by
   have hb1:b≠e:=λy=>hb (by simp[y])
   have hb2:b≠it:=λy=>hb (by simp[y])
   exact (sb.2 b hb1).trans (k1 b o hb1 hb2 z)
  have hpe:s.heap.objs.size≠e:=ZO (Xm he);have ht2:h2.get? s.heap.objs.size=some {cls:=.type "tuple",data:=.seq #[.int ((i:Nat):Int) s.toks,u]}:=(sb.2 _ hpe).trans ht;have hn:H s.heap.objs.size=none:=I.hok.fresh (Xi _);refine⟨.ref s.heap.objs.size,AT H s.heap.objs.size (.tup [.int ((i:Nat):Int),x]),I.turnedNew (h':=h2) (t':=s.toks+1) hf k2 (Xi _) ?_,rfl,⟨_,x,rfl,hn,rfl,λys hy=>by rw[I.list_inj hy hq];exact hx⟩,⟨⟨u,?_⟩,?_⟩,λb hb=>?_⟩
  ·exact⟨by show 2<=sizeLine;decide,[.int ((i:Nat):Int) s.toks,u],.cons ⟨_,rfl⟩ (.cons ru .nil),⟨_,ht2,rfl,_,rfl⟩⟩
  ·have ec:(((i+1:Nat)):Int)=((i:Nat):Int)+1:=by push_cast;rfl
   rw[ec];exact he2
  ·exact li1.at λo z=>(sb.2 it (Ne.symm hne)).trans z
  ·have b0:=(hf b hb).1;rw[AJ λz=>?_]
   ·exact b0
   ·obtain⟨o,z1,_⟩:=id li;rcases X3.mp hb with y|y
    ·exact hpe (z.symm.trans y)
    ·exact qG (Xm z1) (by rw[<-Xu.mp y,z];exact X8 _)
 done:=by intro X hP hw hK hc i a6 s σ H E I hf st hg;subst hP hw hK;obtain⟨xs,hq,hx⟩:=hg;refine byG λGq hGq=>?_;obtain⟨its,rv,p,hz⟩:=I.list hq;refine hGq ?_;clear hGq Gq;obtain⟨⟨old,he⟩,li⟩:=st;refine byG λGq hGq=>?_;obtain⟨f0,f1,f2,f3,f4,f5⟩:=hf it (by simp);refine hGq ?_;clear hGq Gq;have hl:=rv.length;exact wpAny_pyNext_enum_end (I.ok.hd hc) he li p.isList (by simp;lia) λh' eb=>⟨rfl,I.turned (t':=s.toks) (λb o hb e=>eb b o hb e) f0 f1 f3 f4 f5⟩
 self:=λ_ _ _ _ _ st h=>by obtain⟨⟨old,he⟩,_⟩:=st;exact wpAny_pyIter_enum he h
section
variable{ctx}
def VA(K:qV)(ta:TA):TI:=λσ H R=>ta σ H λvs H1=>∃a xs,vs=[.ref a]/\Af K H1 a xs/\R (U9 K a) H1
theorem Qn{l:Expr}{p pos:Pos}(hg:Gl X "enumerate")(hm:X.mg "enumerate"=none)(ha:PA X [l] ta)(hs:starEach [l] X.env=[(false,eval l X.env)]:=by rfl):PI X (.Tuple elts ctx tpos) (.Call (.Name "enumerate" p) [l] [] pos) (VA X.K ta):=by
 intro a6 s σ H R I h;refine Call_ (Ck I hg hm boot_enumerate (YU (BJ (ha pos a6 s σ H _ I h) λus s1 z9=>?_) hs rfl));obtain⟨vs,H1,I1,r1,q1⟩:=z9;obtain⟨a,xs,e,hq,q⟩:=q1;subst e;cases r1 with
 |cons r rr =>
  cases rr;cases r;obtain⟨its,rv,pl,hz⟩:=I1.list hq;refine call_enumerate_list pl.isList λh1 he li hsz k1=>?_;refine wpAny_pyIter_enum he ?_;have n1:H1 (s1.heap.objs.size+1)=none:=I1.hok.fresh (ZD _);have n0:H1 s1.heap.objs.size=none:=I1.hok.fresh (Xi _);refine⟨s1.heap.objs.size+1,[s1.heap.objs.size+1,s1.heap.objs.size],_,_,H1,rfl,I1.kept (t':=s1.toks) k1,NK a _ _ (Nat.succ_ne_self _),⟨⟨_,he⟩,li⟩,λb hb=>?_,q⟩;rcases X3.mp hb with z|z
  ·rw[z];exact I1.fpOk (ZD _) n1
  ·rw[Xu.mp z];exact I1.fpOk (Xi _) n0
theorem Oa{K:qV}{g:TG}{tb:TS}(Pv:Nat->St->Hp->Prop)(h0:Pv 0 σ H)(hl:∀i σ H,i<=xs.length->Pv i σ H->Af K H a xs)
  (hs:∀i x p σ H,xs[i]?=some x->Pv i σ H->H p=none->g (.ref p) σ (AT H p (.tup [.int ((i:Nat):Int),x])) λσ2 H2=>tb {D with nx:=Pv (i+1),ct:=Pv (i+1),bk:=D.nx} σ2 H2) (hd:∀σ H,Pv xs.length σ H->D.nx σ H):
  ∃W:Nat->Nat->St->Hp->Prop,(∃m,W 0 m σ H)/\∀i m σ H,W i m σ H ->
   ((U9 K a).stop i H/\D.nx σ H)\/((U9 K a).go i H/\∃N:St->Hp->Prop,(∀σ' H',N σ' H'->∃m',m'<m/\W (i+1) m' σ' H')/\∀x H',(U9 K a).yld i H x H'->g x σ H' λσ2 H2=>tb {D with nx:=N,ct:=N,bk:=D.nx} σ2 H2):=by
 refine⟨λi m σ H=>m=xs.length-i/\i<=xs.length/\Pv i σ H,⟨xs.length,by simp,Nat.zero_le _,h0⟩,?_⟩;rintro i m σ H ⟨rfl,hi,p⟩;have q:=hl i σ H hi p
 by_cases hlt:i<xs.length
 ·refine .inr ⟨⟨xs,xs[i],q,by simp[hlt]⟩,Pv (i+1),λσ' H' p'=>⟨xs.length-(i+1),by lia,rfl,hlt,p'⟩,λv H' y=>?_⟩;refine byG λGq hGq=>?_;obtain⟨p2,x,e1,e2,e3,y⟩:=y;refine hGq ?_;clear hGq Gq;subst e1 e3;exact hs i x p2 σ H (y xs q) p e2
 ·have e:i=xs.length:=by lia
  subst e;exact .inl ⟨⟨xs,q,Xi _⟩,hd σ H p⟩
end
theorem ME:∀{xs:List V} {us:List qQ},xs.length=us.length->(∀(i:Nat) (x:V) (u:qQ),xs[i]?=some x->us[i]?=some u->A4 x u)->Aq xs us
 |[],[],_,_=>.nil
 |x::xs,u::us,hl,h=>.cons (h 0 x u rfl rfl) (ME (by simpa using hl) λi y v e1 e2=>h (i+1) y v (by simpa using e1) (by simpa using e2))
 |[],_::_,hl,_=>by simp at hl
 |_::_,[],hl,_=>by simp at hl
noncomputable def ET(n:Nat):qW:=(List.range n).map λi:Nat=>(i:Int)
theorem Go{n i:Nat}(h:i<n):(ET n)[i]?=some (i:Int):=by unfold ET;rw[List.getElem?_map,List.getElem?_range h];rfl
theorem Bx(n:Nat):(ET n).length=n:=by unfold ET;rw[List.length_map,List.length_range]
section
variable{a:Expr}{cs:List Expr}{ta:TE}{tc:TA}{p:Pos}{ctx}
noncomputable def Ob(K:qV):List V->Hp->VK->Prop
 |[x,c],H,Q=>∃t tp vs us b,U5 K H x t/\c=.ref tp/\H tp=some (.tup vs)/\vs.map OS=us.map some/\PySem.W.kitAny K t us=some b/\Q (.bl b) H
 |_,_,_=>False
theorem Ju:∀{vs:List V} {its us:List qQ},Aq vs its->vs.map OS=us.map some->its=us
 |_,_,[],.nil,_=>rfl
 |_,_,_::_,.nil,e=>by simp at e
 |_,_,[],.cons _ _,e=>by simp at e
 |x::xs,_,u::us,.cons r rr,e=>by
  simp only[List.map_cons,List.cons.injEq]at e;obtain⟨e1,e2⟩:=e;rw[Ju rr e2]
  congr 1
  cases x with
  |ty n=>cases e1;exact r
  |ref a=>cases e1;exact r
  |_=>cases e1
theorem S7{s:qS}{x:V}{v t:qQ}(I:AR X a6 σ H s)(rx:A4 x v)(ty:U5 X.K H x t):(∃φ,PySem.W.KitX X.K v t φ/\φ s.heap)/\v≠.builtin "__main__.__loader__#opaque":=by
 cases ty with
 |of ty =>
  cases ty with
  |non=>cases (show v=Value.none from rx);exact⟨⟨_,PySem.W.kitx_none,True.intro⟩,λz=>nomatch z⟩
  |bl y=>cases (show v=Value.bool y from rx);exact⟨⟨_,PySem.W.kitx_bool,True.intro⟩,λz=>nomatch z⟩
  |int i=>obtain⟨t,q⟩:=(show ∃t,v=Value.int i t from rx);cases q;exact⟨⟨_,PySem.W.kitx_int,True.intro⟩,λz=>nomatch z⟩
  |str y=>obtain⟨t,q⟩:=(show ∃t,v=Value.str y t from rx);cases q;exact⟨⟨_,PySem.W.kitx_str,True.intro⟩,λz=>nomatch z⟩
  |flt y=>obtain⟨t,q⟩:=(show ∃t,v=Value.float y t from rx);cases q;exact⟨⟨_,PySem.W.kitx_float,True.intro⟩,λz=>nomatch z⟩
  | @lst a xs ea =>
   cases (show v=Value.ref a from rx);obtain⟨_,_,n,_,h1⟩:=(show Ag X.prog X.w H s.heap a (.lst xs) from I.hok a _ ea);exact⟨⟨_,Zx,⟨_,h1,rfl⟩⟩,λz=>nomatch z⟩
  | @frz a ob xs ea =>
   cases (show v=Value.ref a from rx);obtain⟨_,_,_,n,_,h1⟩:=(show Ag X.prog X.w H s.heap a (.frz ob (.lst xs)) from I.hok a _ ea);exact⟨⟨_,Zx,⟨_,h1,rfl⟩⟩,λz=>nomatch z⟩
  | @tup a xs ea =>
   cases (show v=Value.ref a from rx);obtain⟨_,_,_,p⟩:=(show Ag X.prog X.w H s.heap a (.tup xs) from I.hok a _ ea);obtain⟨o,h1,h2,_⟩:=p;exact⟨⟨_,PySem.W.kitx_tuple,⟨o,h1,h2⟩⟩,λz=>nomatch z⟩
  | @dK a kvs ea =>
   cases (show v=Value.ref a from rx);obtain⟨_,_,vs,_,p⟩:=(show Ag X.prog X.w H s.heap a (.dK kvs) from I.hok a _ ea);obtain⟨o,es,ep,h1,h2,_⟩:=p;exact⟨⟨_,Zy,⟨o,h1,h2.1⟩⟩,λz=>nomatch z⟩
  | @dT a kvs ea =>
   cases (show v=Value.ref a from rx);obtain⟨_,_,xs,_,o,es,ep,h1,h2,_⟩:=(show Ag X.prog X.w H s.heap a (.dT kvs) from I.hok a _ ea);exact⟨⟨_,Zy,⟨o,h1,h2.1⟩⟩,λz=>nomatch z⟩
  | @ins a C dx fs ea cl ha hn htk hm =>
   cases (show v=Value.ref a from rx);obtain⟨mA,O,_⟩:=Lz I.hok ea;obtain⟨od,J,_⟩:=O.look;exact⟨⟨_,PySem.W.kitx_own (cl.get _) cl.hd ha hn htk hm,J⟩,λz=>nomatch z⟩
 | @exc a D dy n e ck =>
  cases (show v=Value.ref a from rx);obtain⟨x,_,_⟩:=(show Ag X.prog X.w H s.heap a (.ext (F8 a (.ref D) _ _)) from I.hok a _ e);exact⟨⟨_,Js ck,x⟩,λz=>nomatch z⟩
theorem NL:CJ X (.builtin "isinstance") (Ob X.K):=by
 intro a6 s σ H xs us Q I rv h
 match xs,h with
 |[x,c],h =>
 refine byG λGq hGq=>?_;obtain⟨t,tp,vs,ucs,b,ty,rfl,ht,hcs,k,q⟩:=h;refine hGq ?_;clear hGq Gq;refine byG λGq hGq=>?_;obtain⟨v1,v2,rfl,r1,r2⟩:=Jn rv;refine hGq ?_;clear hGq Gq;cases (show v2=Value.ref tp from r2);refine byG λGq hGq=>?_;obtain⟨_,its,rits,o,ho,hcl,n,hd⟩:=(show Ag X.prog X.w H s.heap tp (.tup vs) from I.hok tp _ ht);refine hGq ?_;clear hGq Gq;refine byG λGq hGq=>?_;obtain⟨c1,c2,c3,c4⟩:=o;refine hGq ?_;clear hGq Gq;dsimp only at hcl hd;subst hcl hd;have e:=Ju rits hcs;subst e;refine byG λGq hGq=>?_;obtain⟨⟨φ,Z,hφ⟩,hx⟩:=S7 I r1 ty;refine hGq ?_;clear hGq Gq;exact PySem.W.kia_tup Z I.kIn hφ ho k hx λtk=>⟨.bl b,H,I.tok tk,rfl,q⟩
theorem Qo(hg:Gl X "isinstance")(hm:X.mg "isinstance"=none)(ha:PE X a ta)(hc:PA X cs tc)(h1:starEach [a,.Tuple cs ctx tpos] X.env=(false,eval a X.env)::starEach [.Tuple cs ctx tpos] X.env:=by rfl)
  (h2:starEach [.Tuple cs ctx tpos] X.env=(false,eval (.Tuple cs ctx tpos) X.env)::starEach [] X.env:=by rfl)
  (h3:(backTo pos (starEach [.Tuple cs ctx tpos] X.env)).any (·.1)=false:=by rfl):PE X (.Call (.Name "isinstance" p) [a,.Tuple cs ctx tpos] [] pos) (Uk (Ob X.K) (Dt ta (Dt (Sr tc) IC))):=
 Ai NL hg hm PyProof.Rows.boot_isinstance (AA ha (AA (BI hc) AD h2) h1) (by decide) (by decide) h1 h3
end
section
variable{K:qV}
theorem Ru:PySem.W.kitOne K (.type "int") (.type "int")=some true:=by kernel_rfl
theorem Rv:PySem.W.kitOne K (.type "int") (.type "bool")=some false:=by kernel_rfl
theorem Rw:PySem.W.kitOne K (.type "bool") (.type "int")=some true:=by kernel_rfl
theorem Rx:PySem.W.kitOne K (.type "bool") (.type "bool")=some true:=by kernel_rfl
theorem Ry:PySem.W.kitOne K (.type "NoneType") (.type "int")=some false:=by kernel_rfl
theorem Rz:PySem.W.kitOne K (.type "str") (.type "int")=some false:=by kernel_rfl
theorem R0:PySem.W.kitOne K (.type "list") (.type "int")=some false:=by kernel_rfl
theorem R9:PySem.W.kitOne K (.type "list") (.type "list")=some true:=by kernel_rfl
theorem SA:PySem.W.kitOne K (.type "tuple") (.type "tuple")=some true:=by kernel_rfl
theorem SB:PySem.W.kitOne K (.type "tuple") (.type "int")=some false:=by kernel_rfl
end
structure Ak(P:qT)(w:qU)(K:qV)(mg:Str->Option qQ)(base:Heap)(k:Nat)(f:qR)(ps:List Str)(sp:Sp):Prop where
 ex:∃fd,Fc P w K mg base (IQ P w) k f fd ps sp/\F7 K fd ps []
 kp:PySem.W.keepIn K (.ref f)=true
section
variable{P:qT}{w:qU}{K:qV}{mg:Str->Option qQ}{base:Heap}{f:qR}{N:List Str}{k:Nat}
theorem Bh.ok0(F:Bh K x qual st f fd)(S:AL N ps (AI st))(len:∀vs H Q E,sp vs H Q E->vs.length=ps.length)
  (hbody:∀(ae:qQ) (A:Around) (outer:List Env) (s:qS) (H:Hp) (vs:List V) (Q:VK) (E:XK),Bg k (A.deeper (envOfC qual (AI st) s.heap.objs.size f ae))->sp vs H Q E ->
   ∃t,F6 (Dr (IQ P w) P w K mg base N qual (AI st) f ae A outer s H E).nox (BW st) t/\t {nx:=λ_ H'=>Q .non H',rt:=Q} (CK N vs) H):Fc P w K mg base (IQ P w) (k+1) f fd ps sp:=
 F.okX S len λae A outer s H vs Q E hr hsp=>by obtain⟨t,h,q⟩:=hbody ae A outer s H vs Q E hr hsp;exact⟨t,h.nox,q⟩
abbrev Dw(x qual:Str)(st:Stmt)(ps:List Str):Prop:=∀(kV doc pm:qQ) (an:Option qR) (ae ct:qQ) (us:List qQ),us.length=ps.length->bindArgs (PySem.W.fnOf x qual (C3 st) (BW st) (AI st) .none kV doc pm an ae ct) ⟨us,[]⟩=pure (ps.zip us)
theorem Qp(D:∃fd,Bh K x qual st f fd)(S:AL N ps (AI st))(bd:Dw x qual st ps)(len:∀vs H Q E,sp vs H Q E->vs.length=ps.length)
  (hbody:∀(ae:qQ) (A:Around) (outer:List Env) (s:qS) (H:Hp) (vs:List V) (Q:VK) (E:XK),Bg k (A.deeper (envOfC qual (AI st) s.heap.objs.size f ae))->sp vs H Q E ->
   ∃t,F6 (Dr (IQ P w) P w K mg base N qual (AI st) f ae A outer s H E).nox (BW st) t/\t {nx:=λ_ H'=>Q .non H',rt:=Q} (CK N vs) H):Ak P w K mg base (k+1) f ps sp:=by
 obtain⟨fd,F⟩:=D;exact⟨⟨fd,F.ok0 S len hbody,F.binds bd⟩,F.kp⟩
theorem Qq(D:∃fd,Bh K x qual st f fd)(S:AL N ps (AI st))(bd:Dw x qual st ps)(len:∀vs H Q E,sp vs H Q E->vs.length=ps.length)
  (hbody:∀(ae:qQ) (A:Around) (outer:List Env) (s:qS) (H:Hp) (vs:List V) (Q:VK) (E:XK),Bg k (A.deeper (envOfC qual (AI st) s.heap.objs.size f ae))->sp vs H Q E ->
   ∃t,F6 (Dr (IQ P w) P w K mg base N qual (AI st) f ae A outer s H E) (BW st) t/\t {nx:=λ_ H'=>Q .non H',rt:=Q} (CK N vs) H):Ak P w K mg base (k+1) f ps sp:=by
 obtain⟨fd,F⟩:=D;exact⟨⟨fd,F.okX S len hbody,F.binds bd⟩,F.kp⟩
end
section
variable{k:Nat}{f:qR}{E:St->XK}{EX:XK}{np p cpos:Pos}{e:Expr}{t:TA}
theorem CL(G:Ak X.prog X.w X.K X.mg X.base k f ps sp)(hr:Bg k X.A)(hg:Gl X x)(hm:X.mg x=some (.ref f))(hx:E8 (IQ X.prog X.w) X E)
  (ha:PA X (e::es) t) (hdb:(x==("__debug__":Str))=false:=by decide) (he:starEach (e::es) X.env=(false,eval e X.env)::starEach es X.env:=by rfl) (hpl:(backTo pos (starEach es X.env)).any (·.1)=false:=by rfl):
  PE X (.Call (.Name x p) (e::es) [] pos) (JB sp [] E t):=by
 refine byG λGq hGq=>?_;obtain⟨⟨fd,F,b⟩,kp⟩:=G;refine hGq ?_;clear hGq Gq;exact OR F hr hg hm kp b .nil hx ha hdb he hpl
theorem EG{i:Int}(hg:Gl X x)(hm:∃t,X.mg x=some (.int i t))(hd:(x==("__debug__":Str))=false:=by decide):PE X (.Name x pos) (tC (.int i)):=by obtain⟨t,hm⟩:=hm;exact OZ hg hm hd
end
inductive K3(K:qV)(vs:List V)(H:Hp)(Q:VK)(z3_:XK):Prop
 |m (a:qR) (ns:qW) (k:Nat):vs=[.ref a,.int k]->Af K H a (ns.map V.int)->ns.length<=63->Q (.int (ns.getD k 0)) H->K3 K vs H Q z3_
noncomputable def Kd(H:Hp):V->Prop
 |.int _=>True
 |.bl _=>True
 |.non=>True
 |.str _=>True
 |.ref a=>∃xs,H a=some (.lst xs)\/H a=some (.tup xs)
 |_=>False
theorem Kd.same(e:AG H H'):∀{x:V},Kd H x->Kd H' x
 |.int _,_=>True.intro
 |.bl _,_=>True.intro
 |.non,_=>True.intro
 |.str _,_=>True.intro
 |.ref a,h=>by obtain⟨xs,h⟩:=h;exact⟨xs,h.elim (λq=>.inl (e _ _ q)) λq=>.inr (e _ _ q)⟩
noncomputable def Wn:V->Bool
 |.int _=>true
 |_=>false
inductive EH(vs:List V)(H:Hp)(Q:VK)(z3_:XK):Prop
 |m (x:V):vs=[x]->Kd H x->Q (.bl (Wn x)) H->EH vs H Q z3_
noncomputable def QK(g:Int):V->Bool
 |.int i=>decide (0<=i)&&decide (i<g)
 |_=>false
inductive JC(vs:List V)(H:Hp)(Q:VK)(z3_:XK):Prop
 |m (x:V) (g:Int):vs=[x,.int g]->Kd H x->Q (.bl (QK g x)) H->JC vs H Q z3_
noncomputable def B8(g:Int)(xs:List V):Option Nat:=xs.findIdx? λx=>!QK g x
noncomputable def K4(g n:Int)(ns:qW):Int:=ns.foldl (λm x=>m*g+x) n
noncomputable def BM(g:Int)(ns:qW):Int:=K4 g 0 ns
theorem Gp{g:Int}(h:B8 g xs=none):∃ns:qW,xs=ns.map V.int/\∀n∈ns,0<=n/\n<g:=by
 unfold B8 at h;rw[Ze]at h
 induction xs with
 |nil=>exact⟨[],rfl,λn z=>qG z (by simp)⟩
 |cons x xs ih =>
  obtain⟨ns,e,b⟩:=ih λy hy=>h y (Xw _ hy)
  have hx:=h x X5;cases x with
  |int i =>
   simp only[QK,Bool.not_eq_false',Bool.and_eq_true,decide_eq_true_eq]at hx;exact⟨i::ns,by rw[e];rfl,λn z=>(X3.mp z).elim (λq=>q▸hx) (b n)⟩
  |_=>simp[QK]at hx
theorem K6{g:Int}{ns:qW}(h:∀n∈ns,0<=n/\n<g):B8 g (ns.map V.int)=none:=by unfold B8;rw[Ze];intro x hx;obtain⟨n,hn,e⟩:=Xy.mp hx;subst e;have q:=h n hn;simp[QK,q.1,q.2]
theorem MF{ns:qW}:∀x∈ns.map V.int,Kd H x:=λx hx=>by obtain⟨n,_,e⟩:=Xy.mp hx;subst e;exact True.intro
end L2
namespace L2
open PySem
variable{D:Ez}{H':Hp}{xs:List V}{σ:St}
theorem Fg{t:TS}(Z:Hp->Prop)(hz:Z H')(h:∀H2,Z H2->t D σ H2):t D σ H':=h H' hz
theorem Jv{ns ms:qW}(h:ns.map V.int=ms.map V.int):ns=ms:=(List.map_inj_right (f:=V.int) λ_ _ e=>V.int.inj e).mp h
theorem K7{g:Int}{i:Nat}{x:V}(hb:B8 g (xs.take i)=none)(hx:xs[i]?=some x)(hs:QK g x=true):B8 g (xs.take (i+1))=none:=by
 unfold B8 at *;rw[Ze]at hb⊢;intro y hy;rw[List.take_succ,hx]at hy;rcases Xr.mp hy with z|z
 ·exact hb y z
 ·have e:y=x:=by simpa using z
  rw[e,hs];rfl
theorem K8{g:Int}{i:Nat}{x:V}(hb:B8 g (xs.take i)=none)(hx:xs[i]?=some x)(hs:QK g x=false):B8 g xs=some i:=by
 obtain⟨hi,ex⟩:=Xg.mp hx
 have e:xs=xs.take i++x::xs.drop (i+1):=by rw[<-ex,<-Zf hi,Yl]
 unfold B8 at *;rw[e,List.findIdx?_append,hb];simp[List.findIdx?_cons,hs,List.length_take];lia
theorem Fh{ns:qW}{i:Nat}{x:V}(h:(ns.map V.int)[i]?=some x):∃n,ns[i]?=some n/\x=.int n:=by rw[Xl]at h;obtain⟨n,e1,e2⟩:=Xz.mp h;exact⟨n,e1,e2.symm⟩
theorem Dx{g n:Int}{ns:qW}{i:Nat}(h:ns[i]?=some n):BM g (ns.take (i+1))=BM g (ns.take i)*g+n:=by unfold BM K4;rw[List.take_succ,h,List.foldl_append];rfl
noncomputable def low(g:Int):qW->Int
 |[]=>0
 |x::r=>x+g*low g r
theorem Jw(g x:Int):∀l:qW,low g (l++[x])=low g l+x*g^l.length
 |[]=>by simp[low]
 |y::l=>by
  rw[List.cons_append,low,low,Jw g x l,YT,YH,Int.mul_add,Int.add_assoc]
  congr 2
  rw[Zm g,Int.mul_assoc]
theorem Gr(g x:Int)(l:qW):BM g (l++[x])=BM g l*g+x:=by unfold BM K4;rw[List.foldl_append];rfl
theorem JD(g:Int):∀l:qW,BM g l.reverse=low g l
 |[]=>rfl
 |x::l=>by rw[List.reverse_cons,Gr,JD g l,low,Zm,Int.add_comm]
theorem MG(g:Int)(ns:qW):BM g ns=low g ns.reverse:=by rw[<-JD,List.reverse_reverse]
end L2
namespace L2
open PySem PySem.Spec PyProof.Rows
variable{C a it l:qR}{D:Ez}{E Q:qQ->qS->Prop}{H H' H2:Hp}{T:String}{X:Cx}{c:Expr}{elts es:List Expr}{fp:List qR}{h' h1:Heap}{items:Array qQ}{a6:List (qR×Obj)}{pos tpos:Pos}{s':qS}{scope:Scope}{ta:TA}{te:TE}{xs:List V}{σ:St}
mutual
inductive EU(K:qV)(H:Hp):V->PyData->Prop
 |non:EU K H .non .none
 |bl (b:Bool):EU K H (.bl b) (.bool b)
 |int (i:Int):EU K H (.int i) (.int i)
 |str (x:Str):EU K H (.str x) (.str x)
 |lst {a:qR} {xs:List V} {ds:List PyData}:Af K H a xs->Co K H xs ds->EU K H (.ref a) (.list ds)
 |tup {a:qR} {xs:List V} {ds:List PyData}:Aa K H a xs->Co K H xs ds->EU K H (.ref a) (.tuple ds)
inductive Co(K:qV)(H:Hp):List V->List PyData->Prop
 |nil:Co K H [] []
 |cons {x:V} {xs:List V} {d:PyData} {ds:List PyData}:EU K H x d->Co K H xs ds->Co K H (x::xs) (d::ds)
end
section
variable{s:qS}
mutual
theorem EU.reads(I:AR X a6 σ H s):∀{x:V} {d:PyData} {u:qQ},EU X.K H x d->A4 x u->∃as,Reads s.heap u d as
 |_,_,_,.non,r=>by cases r;exact⟨_,.none⟩
 |_,_,_,.bl b,r=>by cases r;exact⟨_,.bool b⟩
 |_,_,_,.int i,r=>by obtain⟨t,e⟩:=r;subst e;exact⟨_,.int i t⟩
 |_,_,_,.str x,r=>by obtain⟨t,e⟩:=r;subst e;exact⟨_,.str x t⟩
 |_,_,_,.lst hq ha,r=>by cases r;obtain⟨its,rv,⟨o,n,e,c,_,d⟩,_⟩:=I.list hq;obtain⟨as,q⟩:=Co.reads I ha rv;exact⟨_,.list e c d (by simpa using q)⟩
 |_,_,_,.tup hq ha,r=>by cases r;obtain⟨its,rv,⟨o,e,c,n,d⟩,_⟩:=I.tuple hq;obtain⟨as,q⟩:=Co.reads I ha rv;exact⟨_,.tuple e c d (by simpa using q)⟩
theorem Co.reads(I:AR X a6 σ H s):∀{xs:List V} {ds:List PyData} {us:List qQ},Co X.K H xs ds->Aq xs us->∃as,ReadsAll s.heap us ds as
 |_,_,_,.nil,.nil=>⟨_,.nil⟩
 |_,_,_,.cons h t,.cons r rr=>by obtain⟨as,q⟩:=EU.reads I h r;obtain⟨bs,q2⟩:=Co.reads I t rr;exact⟨_,.cons q q2⟩
end
def VB(K:qV):R2:=λx y H Q=>∃d e,EU K H x d/\EU K H y e/\d.canLay0=true/\e.canLay0=true/\d.depth<=60/\Q (.bl (PyData.eqv d e)) H
theorem S8(hu:X.A.units+64<cLine):Ec X (compareOp .Eq) (VB X.K):=by intro a6 s σ H x y v u Q I rx ry h;obtain⟨d,e,hd,he,c1,c2,dd,q⟩:=h;obtain⟨as,r1⟩:=hd.reads I rx;obtain⟨bs,r2⟩:=he.reads I ry;have z:=SeqAt.rcAt_reads (A:=X.A) r1 r2 c1 c2 (by have:=Nat.min_le_left d.depth e.depth;lia);exact z X.prog X.w X.xe _ ⟨.bl _,H,I,rfl,q⟩
end
theorem Jx{K:qV}:∀ns:qW,Co K H (ns.map V.int) (ns.map PyData.int)
 |[]=>.nil
 |n::ns=>.cons (.int n) (Jx ns)
theorem Gs:∀ns:qW,PyData.canLayAll0 (ns.map PyData.int)=true
 |[]=>by simp only[List.map_nil,PyData.canLayAll0]
 |n::ns=>by simp only[List.map_cons,PyData.canLayAll0,PyData.canLay0,Gs ns,Bool.and_self]
theorem Xd{K:qV}{t:qQ}(h:PySem.W.kitOne K t (.type T)=some true)(r:List qQ):PySem.W.kitAny K t (.type T::r)=some true:=by unfold PySem.W.kitAny;rw[h]
theorem Oc{K:qV}(h:X.K=K):Rs X (Qd K):=h▸L7
theorem Qr{K:qV}(h:X.K=K):Rs X (Qe K):=h▸OI
noncomputable def Dl(X:Cx)(s2:qS)(H2:Hp)(env:Env)(fp:List qR)(N:List Str):Cx:={X with N:=N,s₀:=s2,H₀:=H2,env:=env,outer:=X.stack,ex:=fp,fn:=λ_=>false,pn:=[],xe:=λ_ _=>False}
theorem SC{s2:qS}{env:Env}{N:List Str}:(Dl X s2 H2 env fp N).K=X.K:=rfl
noncomputable def GH(env:Env):List (Str×qR)->Prop
 |[]=>True
 | (y,c)::r=>env.cells.lookup y=some c/\GH env r
theorem GH.at'{env:Env}:∀{cl:List (Str×qR)},GH env cl->∀{y:Str} {c:qR},cl.lookup y=some c->env.cells.lookup y=some c
 |[],_,_,_,h=>by cases h
 | (z,d)::r,⟨h1,h2⟩,y,c,h=>by
  rw[ZS]at h;cases e:y==z with
  |true =>
   rw[e]at h;cases h;rw[eq_of_beq e];exact h1
  |false =>
   rw[e]at h;exact h2.at' h
noncomputable def WY:Option NameKind->Bool
 |some .cell=>true
 |some .free=>true
 |_=>false
theorem Od{k:Option NameKind}(h:WY k=true):k=some .cell\/k=some .free:=by
 unfold WY at h
 split at h
 ·exact .inl rfl
 ·exact .inr rfl
 ·cases h
noncomputable def Gu(X:Cx)(scope:Scope)(cl:List (Str×qR)):List (Nat×Str)->Prop
 |[]=>True
 | (j,y)::r=>(X.N[j]?=some y/\WY (X.env.scope.names.lookup y)=true/\(relabel scope X.env).names.lookup y=X.env.scope.names.lookup y/\(cl.lookup y).isSome=true)/\Gu X scope cl r
variable{cl:List (Str×qR)}
theorem Gu.at':∀{fv:List (Nat×Str)},Gu X scope cl fv->∀q∈fv,X.N[q.1]?=some q.2/\WY (X.env.scope.names.lookup q.2)=true/\(relabel scope X.env).names.lookup q.2=X.env.scope.names.lookup q.2/\(cl.lookup q.2).isSome=true
 |[],_,q,h=>by cases h
 | (j,y)::r,⟨h1,h2⟩,q,h=>(X3.mp h).elim (λe=>by rw[e];exact h1) λz=>h2.at' q z
noncomputable def Cd(σ:St)(fv:List (Nat×Str)):List (Option V):=fv.map λq=>(σ[q.1]?).join
def PF(X:Cx)(ifs:List Expr)(t:TT):Prop:=∀(a6:List (qR×Obj)) (s:qS) (σ:St) (H:Hp) (Q:Bool->Hp->Prop),AR X a6 σ H s->t σ H Q ->
 wpAny (model X.prog X.w) X.A (forIn ifs true λc r=>if r=true then do let ok <-isTrue c X.env (eval c X.env);pure (ForInStep.yield ok) else pure (ForInStep.yield r)) (TP X a6 σ Q) X.xe s
def Qs:TT:=λ_ H Q=>Q true H
theorem Gv:PF X [] Qs:=λa6 s σ H Q I h=>qD ⟨H,I,h⟩
theorem Em{t:TT}(h:PT X c t):PF X [c] t:=λa6 s σ H Q I q=>by simp only[List.forIn_cons,List.forIn_nil,if_true];exact qC (qC (BJ (h a6 s σ H Q I q) λb s1 z=>qD (qD z)))
def Dy(J:It)(tt:TT)(te:TE)(σf:List (Option V))(D:qR)(Q:VK)(H:Hp):Prop:=∃W:Nat->Nat->List V->Hp->Prop,(∃n,W n 0 [] (AT H D (.lst [])))/\∀n i ad H2,W n i ad H2 ->
 (J.stop i H2/\Q (.ref D) H2)\/(J.go i H2/\∃N:List V->Hp->Prop,(∀l H',N l H'->∃n',n'<n/\W n' (i+1) l H')/\∀v H3,J.yld i H2 v H3->tt (some v::σf) H3 λb H4 =>
  if b=true then te (some v::σf) H4 λy H5=>H5 D=some (.lst ad)/\ad.length<sizeLine/\N (ad++[y]) (AT H5 D (.lst (ad++[y]))) else N ad H4)
def Oe(wi:TI)(fv:List (Nat×Str))(tt:TT)(te:TE):TE:=λσ H Q=>wi σ H λJ H1=>∀D,H1 D=none->Dy J tt te (Cd σ fv) D Q H1
section
variable{X:Cx}{x:Str}{px pos:Pos}{elt iter:Expr}{ifs:List Expr}{scope:Scope}{cl:List (Str×qR)}{fv:List (Nat×Str)}{wi:TI}{tt:TT}{te:TE}
 {a6:List (qR×Obj)} {σ:St} {H2:Hp} {s2:qS} {fp:List qR} {it:qR} {tn:Nat->Heap->Prop} {J:It}
theorem Of{N:List Str}(I2:AR X a6 σ H2 s2)(f2:∀b∈fp,CS X a6 H2 b)(o2:∀b∈fp,∃o,s2.heap.get? b=some o/\∀v,o.data≠.cell v)(hC:s2.heap.objs.size<=C)(hk:scope.kind=.function)(hcl:GH X.env cl)
  (hhas:((relabel scope X.env).names.all λz=>!(z.2==.cell||z.2==.free)||(cl.lookup z.1).isSome)=true):(Dl X s2 H2 (compEnvC scope cl C X.env) fp N).Ok where
 mod:=I2.ok.mod
 kind:=hk
 glob:=I2.ok.glob
 blt:=I2.ok.blt
 above:=hC
 inj:=λx y c h1 h2=>I2.ok.inj x y c (hcl.at' h1) (hcl.at' h2)
 has:=λy h=>by
  have key:∀k:NameKind,(relabel scope X.env).names.lookup y=some k->(k==.cell||k==.free)=true->∃c,cl.lookup y=some c:=λk hl hk=>by
   have mem:(y,k)∈(relabel scope X.env).names:=by
    generalize (relabel scope X.env).names=l at hl
    induction l with
    |nil=>cases hl
    |cons q r ih =>
     rw[ZS]at hl;cases e:y==q.1 with
     |true =>
      rw[e]at hl;cases hl;rw[eq_of_beq e];exact X5
     |false =>
      rw[e]at hl;exact Xw _ (ih hl)
   have z:=Zg.mp hhas _ mem;simp only[hk,Bool.not_true,Bool.false_or]at z;exact ZK.mp z
  rcases h with h|h
  ·exact key _ h rfl
  ·exact key _ h rfl
 cab:=λ_ _ h=>nomatch h
 hd:=I2.ok.hd
 frames:=I2.ok.frames
 stk:=.inl rfl
 exf:=λb hb=>by obtain⟨o,e,_⟩:=o2 b hb;exact⟨YA (Xn (Xm e) hC),λy c h=>(f2 b hb).2.2.2.2.1 y c (hcl.at' h)⟩
 bs:=λb o e=>I2.bs b o e
 bsz:=YG I2.ok.bsz I2.sz
 noex:=λb o e hb=>by
  obtain⟨_,_,_,h,_⟩:=f2 b hb;rcases h with h|h
  ·exact I2.ok.noex b o e h
  ·exact qG (Xn (Xm e) (YG I2.ok.bsz h)) (X8 _)
 exfs:=λb hb z=>(X3.mp (I2.stkSub b z)).elim (f2 b hb).2.1 (f2 b hb).2.2.1
 funs:=I2.stack
 frf:=I2.stkFree
theorem Gw{env:Env}{N:List Str}{σ':St}{pl:List (qR×Obj)}(I2:AR X a6 σ H2 s2)(f2:∀b∈fp,CS X a6 H2 b)(Ib:AR (Dl X s2 H2 env fp N) pl σ' H' s'):AR X a6 σ H' s':=
 I2.call' (ch:=fp) Ib.os Ib.base Ib.hok Ib.bare λb hb=>⟨(f2 b hb).2.2.2.1,(f2 b hb).2.1,(f2 b hb).2.2.2.2.1,(f2 b hb).2.2.2.2.2⟩
theorem S9{D:qR}{t1:Nat}(I2:AR X a6 σ H2 s2)(f2:∀b∈fp,CS X a6 H2 b)(o2:∀b∈fp,∃o,s2.heap.get? b=some o/\∀v,o.data≠.cell v)(hD:s2.heap.objs.size<=D)(hC:s2.heap.objs.size<=C)(hDC:D≠C)
  (old:∀b o,s2.heap.get? b=some o->h1.get? b=some o) (hl:h1.PlainList D #[]) (hn:h1.Ns C (λ_=>none)) (hk:scope.kind=.function) (hcl:GH X.env cl)
  (hhas:((relabel scope X.env).names.all λz=>!(z.2==.cell||z.2==.free)||(cl.lookup z.1).isSome)=true) (hfv:Gu X scope cl fv):
  AR (Dl X s2 H2 (compEnvC scope cl C X.env) fp (x::fv.map (·.2))) [] (none::Cd σ fv) (AT H2 D (.lst [])) {s2 with heap:=h1,toks:=t1} where
 ok:=Of I2 f2 o2 hC hk hcl hhas
 os:=rfl
 bare:=I2.bare
 base:=Un.laid old hD (I2.hok.fresh hD)
 loc:=by
  refine⟨_,hn,λi y v h1' h2' _=>?_⟩;cases i with
  |zero=>cases h2'
  |succ i =>
   have h1':(fv.map (·.2))[i]?=some y:=h1';have h2':(Cd σ fv)[i]?=some (some v):=h2'
   obtain⟨q,hq,e1⟩:∃q,fv[i]?=some q/\q.2=y:=by rw[Xl]at h1';exact Xz.mp h1'
   subst e1;refine byG λGq hGq=>?_;obtain⟨g1,g2,g3,g4⟩:=hfv.at' q (Xq hq);refine hGq ?_;clear hGq Gq;unfold Cd at h2';rw[Xl,hq]at h2';have e2:(σ[q.1]?).join=some v:=Option.some.inj h2'
   have e3:σ[q.1]?=some (some v):=by
    cases z:σ[q.1]? with
    |none=>rw[z]at e2;cases e2
    |some w=>rw[z]at e2;exact qP some e2
   obtain⟨m,_,lk⟩:=I2.loc;have g2:=Od g2;obtain⟨u,ru,lu⟩:=lk q.1 q.2 v g1 e3 (.inr g2);refine⟨u,ru,.inr ⟨g2.imp (λz=>g3.trans z) (λz=>g3.trans z),?_⟩⟩;obtain⟨c,hc⟩:=ZK.mp g4;refine⟨c,hc,?_⟩;rcases lu with⟨kk,_⟩|⟨_,c',e',⟨o,eo,d⟩⟩
   ·rcases g2 with z|z<;>(rw[show X.env.kindOf q.2=_ from z]at kk;cases kk)
   ·have e4:=hcl.at' hc;rw[e']at e4;cases e4;exact⟨o,old c o eo,d⟩
 cell:=λy c h=>by refine byG λGq hGq=>?_;obtain⟨v,o,eo,d⟩:=I2.cell y c (hcl.at' h);refine hGq ?_;clear hGq Gq;exact⟨v,o,old c o eo,d⟩
 free:=by show AT H2 D _ C=none;rw[AJ (Ne.symm hDC)];exact I2.hok.fresh hC
 freeC:=λy c h=>by refine byG λGq hGq=>?_;obtain⟨v,o,eo,d⟩:=I2.cell y c (hcl.at' h);refine hGq ?_;clear hGq Gq;rw[AJ (YA (Xn (Xm eo) hD))];exact I2.freeC y c (hcl.at' h)
 pin:=λp hp=>nomatch hp
 hok:=I2.hok.laid old hD (by obtain⟨n,e⟩:=hl;exact⟨Nat.zero_le _,[],n,.nil,by simpa using e⟩)
 len:=by simp[Cd,Dl]
theorem MH{RR:qQ->qR->Result->qS->Prop}{Q:VK}(hc:X.calm=true)(I2:AR X a6 σ H2 s2)(T:IB X.prog X.w X.K (.Name x px) J fp it tn)(st2:tn 0 s2.heap)(f2:∀b∈fp,CS X a6 H2 b)
  (hcell:∀y∈scope.names,y.2≠.cell) (hk:scope.kind=.function) (hx:scope.names.lookup x=some .local) (hcl:GH X.env cl) (hhas:((relabel scope X.env).names.all λz=>!(z.2==.cell||z.2==.free)||(cl.lookup z.1).isSome)=true) (hfv:Gu X scope cl fv) (hnd:(x::fv.map (·.2)).Nodup)
  (hf:∀s H C fp,PF (Dl X s H (compEnvC scope cl C X.env) fp (x::fv.map (·.2))) ifs tt) (he:∀s H C fp,PE (Dl X s H (compEnvC scope cl C X.env) fp (x::fv.map (·.2))) elt te)
  (hw:∀D,H2 D=none->Dy J tt te (Cd σ fv) D Q H2)
  (hRR:∀D C σ' H' s',s2.heap.objs.size<=C->AR (Dl X s2 H2 (compEnvC scope cl C X.env) fp (x::fv.map (·.2))) [] σ' H' s'->Q (.ref D) H'->RR (.ref D) C (.ok .next) s'):
  wpAny (model X.prog X.w) X.A (newList []) (λad s3=>wpAny (model X.prog X.w) X.A (newFunctionEnv scope X.env.globals cl [] X.env.qual none .none (some X.env)) (λcenv s4 =>
   codeAny (model X.prog X.w) X.A (.compStart (.ListComp elt [⟨.Name x px,iter,ifs,0⟩] scope pos) 0 (.ref it) ad {cenv with scope:=relabel scope X.env}) (RR ad cenv.locals) s4) E s3) E s2:=by
 refine wpAny_newObj_type (wpAny_newFunctionEnv hcell (by intro y hy;simp at hy) (λh1 hns hsb=>?_) hk);dsimp only at hns hsb⊢;generalize hH:s2.heap.push {cls:=.type "list",dict:=none,data:=.seq ([]:List qQ).toArray}=HH at hns hsb⊢;have eC:HH.objs.size=s2.heap.objs.size+1:=by rw[<-hH,Y1]
 have hDC:s2.heap.objs.size≠HH.objs.size:=by rw[eC];exact YA (Nat.lt_succ_self _)
 have hC:s2.heap.objs.size<=HH.objs.size:=by rw[eC];exact ZD _
 have old:∀b o,s2.heap.get? b=some o->h1.get? b=some o:=λb o e=>hsb.extBut b o (by rw[eC];exact YA (Zz (Xm e))) (Xh _ (hH▸Xh _ e))
 have hacc:h1.PlainList s2.heap.objs.size #[]:=⟨_,hsb.extBut _ _ hDC (Xh _ (hH▸Xs _ rfl))⟩;have o2:=T.obj _ _ st2;refine byG λGq hGq=>?_;obtain⟨W,⟨n0,w0⟩,turn⟩:=hw s2.heap.objs.size (I2.hok.fresh (Xi _));refine hGq ?_;clear hGq Gq;generalize eD:s2.heap.objs.size=D at *;generalize eCC:HH.objs.size=C at *;have Ib:=S9 (x:=x) (t1:=s2.toks+([]:List (Str×qQ)).length) I2 f2 o2 (by rw[eD];exact Xi _) (by rw[eD];exact hC) hDC old hacc hns hk hcl hhas hfv;have st1:tn 0 h1:=T.keep _ _ _ st2 λb _ o e=>old b o e
 have nD:∀b∈fp,b≠D:=λb hb=>by obtain⟨o,e,_⟩:=o2 b hb;rw[<-eD];exact YA (Xm e)
 have fr1:∀b∈fp,AT H2 D (.lst []) b=none:=λb hb=>by rw[AJ (nD b hb)];exact (f2 b hb).1
 have hxl:(relabel scope X.env).names.lookup x=some .local:=lookup_relabel_local hx
 have stat:∀{H':Hp},(∀b∈fp,H' b=none)->∀b∈fp,CS (Dl X s2 H2 (compEnvC scope cl C X.env) fp (x::fv.map (·.2))) [] H' b:=λhn b hb=>by obtain⟨o,e,_⟩:=o2 b hb;exact⟨hn b hb,λz=>qG (Xm e) (by rw[z,eD];exact Nat.not_lt.mpr hC),λz=>(X3.mp (I2.stkSub b z)).elim (f2 b hb).2.1 (f2 b hb).2.2.1,.inl hb,λy c h=>(f2 b hb).2.2.2.2.1 y c (hcl.at' h),λq hq=>nomatch hq⟩
 have loop:codeAny (model X.prog X.w) X.A (.compLoop (.ListComp elt [⟨.Name x px,iter,ifs,0⟩] scope pos) 0 (.ref it) (.ref D) (compEnvC scope cl C X.env)) (RR (.ref D) C) {s2 with heap:=h1,toks:=s2.toks+([]:List (Str×qQ)).length}:=by
  refine codeAny_compLoop_tests (λn s'=>∃i ad σb H',AR (Dl X s2 H2 (compEnvC scope cl C X.env) fp (x::fv.map (·.2))) [] σb H' s'/\σb.tail=Cd σ fv/\tn i s'.heap/\(∀b∈fp,H' b=none)/\W n i ad H') ?_ n0 ⟨0,[],_,_,Ib,rfl,st1,fr1,w0⟩;intro n s3 hRq;refine byG λGq hGq=>?_;obtain⟨i,ad,σ3,H3,I3,t3,st3,fr3,w3⟩:=hRq;refine hGq ?_;clear hGq Gq;rcases turn n i ad H3 w3 with⟨stop,qn⟩|⟨go,NN,hNN,step⟩
  ·refine BJ (T.done (Dl X s2 H2 (compEnvC scope cl C X.env) fp (x::fv.map (·.2))) rfl rfl rfl hc i [] s3 σ3 H3 _ I3 (stat fr3) st3 stop) λr s4 q4=>?_;obtain⟨hr,I4⟩:=q4;subst hr;exact hRR D C σ3 H3 s4 hC I4 qn
  ·refine BJ (T.item (Dl X s2 H2 (compEnvC scope cl C X.env) fp (x::fv.map (·.2))) rfl rfl rfl hc i [] s3 σ3 H3 _ I3 (stat fr3) st3 go) λr s4 q4=>?_;obtain⟨u,hr,h4⟩:=q4;subst hr;refine (show wpAny _ _ (letOwnedTupleGo (.Name x px) (.ref it) u >>= λ_=>assign (.Name x px) (compEnvC scope cl C X.env) u) _ _ _ from qC (BJ h4 λ_ s5 q5=>?_));refine byG λGq hGq=>?_;obtain⟨v,H5,I5,r5,y5,st5,fr5⟩:=q5;refine hGq ?_;clear hGq Gq;have I5':=I5.pinned (stat fr5) (T.obj _ _ st5);have again:∀{σ7:St} {H7:Hp} {s7:qS},AR (Dl X s2 H2 (compEnvC scope cl C X.env) fp (x::fv.map (·.2))) ([]++Fa fp s5.heap) σ7 H7 s7->tn (i+1) s7.heap/\∀b∈fp,H7 b=none:=λ{σ7 H7 s7} I7=>by refine⟨T.keep _ _ _ st5 λb hb o e=>(I7.pin (b,o) (Xv _ (Xv _ (B9 hb e)))).1,λb hb=>?_⟩;obtain⟨o,e,d⟩:=T.obj _ _ st5 b hb;exact (I7.pin (b,o) (Xv _ (Xv _ (B9 hb e)))).2.1
   have sσ:σ3.set 0 (some v)=some v::Cd σ fv:=by
    cases σ3 with
    |nil =>
     have z:=I3.len;simp[Dl]at z
    |cons a b =>
     have z:b=Cd σ fv:=t3;rw[z];rfl
   have g:=GN (X:=Dl X s2 H2 (compEnvC scope cl C X.env) fp (x::fv.map (λq:Nat×Str=>q.2))) (pos:=px) (i:=0) (x:=x) hnd rfl (.inl hxl) (.inr hxl);refine wpAny_noRaise (BJ (g _ s5 σ3 H5 v u (λσ' H'=>σ'=some v::Cd σ fv/\H'=H5) I5' r5 ⟨sσ,rfl⟩) λ_ s6 q6=>?_);refine byG λGq hGq=>?_;obtain⟨σ6,H6,I6,rfl,rfl⟩:=q6;refine hGq ?_;clear hGq Gq;refine wpAny_noRaise (BJ (hf _ _ _ _ _ s6 _ _ _ I6 (step v _ y5)) λb s7 q7=>?_);obtain⟨H7,I7,q7⟩:=q7;cases b with
   |false =>
    rw[qE (by decide)]at q7⊢;obtain⟨n',hn',w7⟩:=hNN _ _ q7;exact⟨n',hn',i+1,ad,_,H7,I7.unpinned,rfl,(again I7).1,(again I7).2,w7⟩
   |true =>
    rw[qF rfl]at q7⊢;refine wpAny_noRaise (BJ (he _ _ _ _ _ s7 _ _ _ I7 q7) λyv s8 q8=>?_);refine byG λGq hGq=>?_;obtain⟨y,H8,I8,r8,e8,l8,q8⟩:=q8;refine hGq ?_;clear hGq Gq;obtain⟨n',hn',w8⟩:=hNN _ _ q8;refine wpAny_noRaise (BJ (Ff (X:=Dl X s2 H2 (compEnvC scope cl C X.env) fp (x::fv.map (·.2))) _ s8 _ H8 (.ref D) [y] (.ref D) [yv] (λ_ H'=>H'=AT H8 D (.lst (ad++[y]))) I8 rfl (.cons r8 .nil) ⟨D,ad,y,rfl,rfl,e8,l8,rfl⟩) λ_ s9 q9=>?_);refine byG λGq hGq=>?_;obtain⟨_,H9,I9,_,rfl⟩:=q9;refine hGq ?_;clear hGq Gq;exact⟨n',hn',i+1,ad++[y],_,_,I9.unpinned,rfl,(again I9).1,(again I9).2,w8⟩
 exact codeAny_compStart_list loop (T.self X.A 0 _ _ _ st1 loop)
theorem AR.letGo(I2:AR X a6 σ H2 s2){σ':St}(J:AR X a6 σ' H' s')(hC:s2.heap.objs.size<=C)(hn:H' C=none)(sb:Heap.SameBut C s'.heap h'):AR X a6 σ' H' {s' with heap:=h',toks:=s'.toks}:=
 J.turned (it:=C) (λb o hb e=>(sb.2 b hb).trans e) hn (ZO (Xn I2.lt hC)) (.inr (YG I2.sz hC)) (λy c e z=>by obtain⟨v,o,eo,d⟩:=I2.cell y c e;exact qG (Xn (Xm eo) (by rw[z];exact hC)) (X8 _)) λp hp z=>qG (Xn (Xm (I2.pin p hp).1) (by rw[z];exact hC)) (X8 _)
theorem Qt(hc:X.calm=true)(hi:PI X (.Name x px) iter wi)(hclos:closureFor scope X.env=pure cl)(hcell:∀y∈scope.names,y.2≠.cell)(hk:scope.kind=.function)(hnames:∀z∈scope.names,z.2=.local->scope.names.lookup z.1=some .local)
  (hx:scope.names.lookup x=some .local) (hcl:GH X.env cl) (hhas:((relabel scope X.env).names.all λz=>!(z.2==.cell||z.2==.free)||(cl.lookup z.1).isSome)=true) (hfv:Gu X scope cl fv) (hnd:(x::fv.map (·.2)).Nodup)
  (hf:∀s H C fp,PF (Dl X s H (compEnvC scope cl C X.env) fp (x::fv.map (·.2))) ifs tt) (he:∀s H C fp,PE (Dl X s H (compEnvC scope cl C X.env) fp (x::fv.map (·.2))) elt te)
  (hs:∀x,foldedSetIterable iter X.env x=pure x:=by intro _;rfl):PE X (.ListComp elt [⟨.Name x px,iter,ifs,0⟩] scope pos) (Oe wi fv tt te):=by
 intro a6 s σ H Q I h;rw[eval_ListComp];refine wpAny_comprehension_free (use:=none) rfl hs hclos hk hnames (BJ (hi a6 s σ H _ I h) λv s1 h1=>BJ h1 λitv s2 h2=>?_);refine byG λGq hGq=>?_;obtain⟨it,fp,tn,J,H2,e,I2,T,st2,f2,hw⟩:=h2;refine hGq ?_;clear hGq Gq;subst e;refine MH (RR:=λad C=>compPost (model X.prog X.w) X.A X.xe none (EP X a6 σ Q) ad C) hc I2 T st2 f2 hcell hk hx hcl hhas hfv hnd hf he hw λD C σ' H' s' hC Ib q=>?_;obtain⟨m,hn,_⟩:=Ib.loc;exact⟨m,hn,λh' sb=>⟨.ref D,H',AR.letGo I2 (Gw I2 f2 Ib) hC Ib.free sb,rfl,q⟩⟩
theorem Da{y:Str}{iy:Nat}{py spos:Pos}(hc:X.calm=true)(hN:X.N.Nodup)(hy:X.N[iy]?=some y)(hyl:Rj X.env.scope y)(hi:PI X (.Name x px) iter wi)(hsw:swapsWith (.ListComp elt [⟨.Name x px,iter,ifs,0⟩] scope pos) (some (.Name y py)) spos.line X.env=pure true)
  (hclos:closureFor scope X.env=pure cl) (hcell:∀y∈scope.names,y.2≠.cell) (hk:scope.kind=.function) (hnames:∀z∈scope.names,z.2=.local->scope.names.lookup z.1=some .local)
  (hx:scope.names.lookup x=some .local) (hcl:GH X.env cl) (hhas:((relabel scope X.env).names.all λz=>!(z.2==.cell||z.2==.free)||(cl.lookup z.1).isSome)=true) (hfv:Gu X scope cl fv) (hnd:(x::fv.map (·.2)).Nodup)
  (hf:∀s H C fp,PF (Dl X s H (compEnvC scope cl C X.env) fp (x::fv.map (·.2))) ifs tt) (he:∀s H C fp,PE (Dl X s H (compEnvC scope cl C X.env) fp (x::fv.map (·.2))) elt te)
  (hyf:X.fn y=true\/X.env.scope.names.lookup y=some .local:=by first|exact .inl rfl|exact .inr rfl) (hs:∀x,foldedSetIterable iter X.env x=pure x:=by intro _;rfl):
  PS X (.Assign [.Name y py] (.ListComp elt [⟨.Name x px,iter,ifs,0⟩] scope pos) spos) (NB (Oe wi fv tt te) (E1 iy)):=by
 intro a6 s σ H D h' h;have I:=h';rw[exec_Assign_Name_used _ _ _ _ hsw];refine qC (wpAny_standAt (qC ?_));show wpAny _ X.A (do let _ <-comprehension (.ListComp elt [⟨.Name x px,iter,ifs,0⟩] scope pos) scope X.env _ (newList []) false (eval iter X.env) (some (assign (.Name y py) X.env))) _ _ s;refine qC (qM (wpAny_comprehension_free (use:=some (assign (.Name y py) X.env)) (Q:=λ_ s'=>SP X a6 D .next s') rfl hs hclos hk hnames (BJ (hi a6 s σ H _ I h) λv s1 h1=>BJ h1 λitv s2 h2=>?_)) (λ_ s' hq=>qD (qD hq)) λ_ _ e=>e);obtain⟨it,fp,tn,J,H2,e,I2,T,st2,f2,hw⟩:=h2;subst e;refine MH (Q:=λv H1=>E1 iy v σ H1 D.nx) (RR:=λad C=>compPost (model X.prog X.w) X.A X.xe (some (assign (.Name y py) X.env)) (λ_ s'=>SP X a6 D .next s') ad C) hc I2 T st2 f2 hcell hk hx hcl hhas hfv hnd hf he hw λD' C σ' H' s' hC Ib q=>?_;obtain⟨m,hn,_⟩:=Ib.loc;show wpAny _ X.A (assign (.Name y py) X.env (.ref D')) _ _ _;refine wpAny_assign_Name (IJ (Gw I2 f2 Ib) hN hy hyl (v:=.ref D') rfl (λs3 I3 hsb=>?_) hyf);obtain⟨a,sb3,ha⟩:=hsb
 have nC:C≠a:=λz=>by
  rcases ha with e|e
  ·exact qG (Xn I2.lt hC) (by rw[z,e];exact X8 _)
  ·obtain⟨v,o,eo,d⟩:=I2.cell y a e;exact qG (Xn (Xm eo) (by rw[<-z];exact hC)) (X8 _)
 exact⟨m,hn.sameBut sb3 nC,λh'' sb=>⟨_,H',AR.letGo I2 I3 hC Ib.free sb,q⟩⟩
end
variable{tt:TT}{σf:List (Option V)}
theorem CA{lo:Int}{n:Nat}{D:qR}{Q:VK}(Pv:Nat->List V->Hp->Prop)(h0:Pv 0 [] (AT H D (.lst [])))
  (hs:∀i ad H2,i<n->Pv i ad H2->tt (some (.int (lo+i))::σf) H2 λb H4=>if b=true then te (some (.int (lo+i))::σf) H4 λy H5=>H5 D=some (.lst ad)/\ad.length<sizeLine/\Pv (i+1) (ad++[y]) (AT H5 D (.lst (ad++[y]))) else Pv (i+1) ad H4)
  (hd:∀ad H2,Pv n ad H2->Q (.ref D) H2):Dy (Sk lo n) tt te σf D Q H:=by
 refine⟨λk i ad H=>k=n-i/\i<=n/\Pv i ad H,⟨n,by simp,Nat.zero_le _,h0⟩,?_⟩;rintro k i ad H2 ⟨rfl,hi,p⟩
 by_cases hlt:i<n
 ·refine .inr ⟨hlt,Pv (i+1),λl H' p'=>⟨n-(i+1),by lia,rfl,hlt,p'⟩,λx H' y=>?_⟩;obtain⟨e,y⟩:=y;subst e y;exact hs i ad _ hlt p
 ·have e:i=n:=by lia
  subst e;exact .inl ⟨Xi _,hd ad H2 p⟩
theorem IR{K:qV}{D:qR}{Q:VK}(Pv:Nat->List V->Hp->Prop)(h0:Pv 0 [] (AT H D (.lst [])))(hl:∀i ad H,i<=xs.length->Pv i ad H->Af K H a xs)
  (hs:∀i x ad H2,xs[i]?=some x->Pv i ad H2->tt (some x::σf) H2 λb H4=>if b=true then te (some x::σf) H4 λy H5=>H5 D=some (.lst ad)/\ad.length<sizeLine/\Pv (i+1) (ad++[y]) (AT H5 D (.lst (ad++[y]))) else Pv (i+1) ad H4)
  (hd:∀ad H2,Pv xs.length ad H2->Q (.ref D) H2):Dy (Ui K a) tt te σf D Q H:=by
 refine⟨λk i ad H=>k=xs.length-i/\i<=xs.length/\Pv i ad H,⟨xs.length,by simp,Nat.zero_le _,h0⟩,?_⟩;rintro k i ad H2 ⟨rfl,hi,p⟩;have q:=hl i ad H2 hi p
 by_cases hlt:i<xs.length
 ·refine .inr ⟨⟨xs,xs[i],q,by simp[hlt]⟩,Pv (i+1),λl H' p'=>⟨xs.length-(i+1),by lia,rfl,hlt,p'⟩,λx H' y=>?_⟩;obtain⟨e,y⟩:=y;subst e;exact hs i x ad _ (y xs q) p
 ·have e:i=xs.length:=by lia
  subst e;exact .inl ⟨⟨xs,q,Xi _⟩,hd ad H2 p⟩
theorem En:CJ X (.type "int") (λxs H Q=>∃i:Int,(xs=[.int i]\/∃b,xs=[.bl b]/\i=if b=true then 1 else 0)/\Q (.int i) H):=by
 intro a6 s σ H xs us Q I r h;obtain⟨i,h,q⟩:=h;rcases h with rfl|⟨b,rfl,e⟩
 ·obtain⟨u,rfl,⟨t,rfl⟩⟩:=E4 r;exact call_int_int ⟨.int i,H,I,⟨t,rfl⟩,q⟩
 ·obtain⟨u,rfl,rx⟩:=E4 r;cases rx;subst e;exact call_int_bool ⟨.int _,H,I.tok _,⟨_,rfl⟩,q⟩
def Wo(K:qV)(n:Nat)(t:QI):TG:=λv σ H Q=>∃a xs,v=.ref a/\Af K H a xs/\xs.length=n/\t xs σ H Q
theorem Og{k:Nat}{t:QI}{n:Nat}(hc:X.calm=true)(h:Uh X es t)
  (hn:(assignEach es X.env).length=n:=by rfl) (hst:(assignEach es X.env).findIdx? (·.1)=none:=by rfl):PG X (.Tuple es k pos) (Wo X.K n t):=by
 intro a6 s σ H v u Q I r hw;refine byG λGq hGq=>?_;obtain⟨a,xs,e1,hq,hl,hw⟩:=hw;refine hGq ?_;clear hGq Gq;subst e1;cases r;refine byG λGq hGq=>?_;obtain⟨its,rv,p,hz⟩:=I.list hq;refine hGq ?_;clear hGq Gq;have hn2:(assignEach es X.env).length=its.toArray.size:=by simp[hn,<-hl,rv.length]
 rw[assign_Tuple];refine qC (wpAny_standAt ?_);unfold unpack;rw[hn2,hst];refine qC (qO (PySem.W.kun_itemsOf (I.ok.hd hc) p.isList λh' hx=>?_));have I1:AR X a6 σ H {s with heap:=h'}:=I.kept (t':=s.toks) λb o e=>hx b o (YA (Xm e)) e
 exact h a6 _ σ H xs _ Q I1 (by simpa using rv) hw
section
variable{prog:qT}{w:qU}{A:Around}{s:qS}
theorem GI{t:qR}{i:Nat}{items}{x:qQ}(hit:s.heap.IsTupleIter it t i)(ht:s.heap.IsTuple t items)(hx:items[i]?=some x)
  (hQ:∀h',h'.IsTupleIter it t (i+1)->Heap.SameBut it s.heap h'->Q x {s with heap:=h'}):wpAny (model prog w) A (Builtin.SmallTypes.nextOf (.ref it)) Q E s:=by
 refine byG λGq hGq=>?_;obtain⟨o,ho,hc,hd⟩:=id hit;refine hGq ?_;clear hGq Gq;refine byG λGq hGq=>?_;obtain⟨ol,hol,_,nl,hdl⟩:=ht;refine hGq ?_;clear hGq Gq;unfold Builtin.SmallTypes.nextOf;refine qC (wpAny_callSpecial?_slot (name:=Str.ofString "__next__") hit.typeIs F.slot_tuple_iterator_next (wpAny_call_entry F.slot_tuple_iterator_next hit.typeIs F.entry_tuple_iterator_next ?_ (F.args_tuple_iterator_next_1 _)))
 (show wpAny _ _ (field (.ref it) 0 >>= _) _ _ s);refine qC (wpAny_field ho hd (x:=.ref t) rfl ?_)
 (show wpAny _ _ (if (Value.ref t==Value.none)=true then _ else _) _ _ s);rw[qE (show ¬((Value.ref t==Value.none)=true) from Xx)]
 (show wpAny _ _ (field (.ref it) 1 >>= _) _ _ s);refine qC (wpAny_field ho hd (x:=.int i 0) rfl ?_)
 (show wpAny _ _ (seqItems? (.ref t) >>= _) _ _ s);refine qC (wpAny_seqItems hol hdl ?_)
 simp only[Int.toNat_natCast,hx];refine qC (wpAny_setField ho hd (by simp) (qD ⟨x,rfl,qD (hQ _ ⟨_,Heap.get?_update_self _ ho (Obj.isFreed_of_fields (Obj.data_mapFields hd _)),(Obj.cls_mapFields ..).trans hc,by rw[Obj.data_mapFields hd];simp[rawInt]⟩ (Heap.SameBut.update ..))⟩))
theorem Dz{t:qR}{i:Nat}{items}(hh:A.handled=none)(hit:s.heap.IsTupleIter it t i)(ht:s.heap.IsTuple t items)(hx:items[i]?=none)
  (hE:∀h' e,Heap.ExtBut it s.heap h'->(∃o,h'.get? e=some o/\o.cls=.type "StopIteration")->E (.ref e) {s with heap:=h'}):wpAny (model prog w) A (Builtin.SmallTypes.nextOf (.ref it)) Q E s:=by
 refine byG λGq hGq=>?_;obtain⟨o,ho,hc,hd⟩:=id hit;refine hGq ?_;clear hGq Gq;refine byG λGq hGq=>?_;obtain⟨ol,hol,_,nl,hdl⟩:=ht;refine hGq ?_;clear hGq Gq;unfold Builtin.SmallTypes.nextOf;refine qC (wpAny_callSpecial?_slot (name:=Str.ofString "__next__") hit.typeIs F.slot_tuple_iterator_next (wpAny_call_entry F.slot_tuple_iterator_next hit.typeIs F.entry_tuple_iterator_next ?_ (F.args_tuple_iterator_next_1 _)))
 (show wpAny _ _ (field (.ref it) 0 >>= _) _ _ s);refine qC (wpAny_field ho hd (x:=.ref t) rfl ?_)
 (show wpAny _ _ (if (Value.ref t==Value.none)=true then _ else _) _ _ s);rw[qE (show ¬((Value.ref t==Value.none)=true) from Xx)]
 (show wpAny _ _ (field (.ref it) 1 >>= _) _ _ s);refine qC (wpAny_field ho hd (x:=.int i 0) rfl ?_)
 (show wpAny _ _ (seqItems? (.ref t) >>= _) _ _ s);refine qC (wpAny_seqItems hol hdl ?_)
 simp only[Int.toNat_natCast,hx];refine qC (wpAny_rule (qC (wpAny_setField ho hd (by simp) ?_)));show wpAny _ _ (newExc (.type "StopIteration") [] >>= _) _ _ _;refine qC ?_;simp only[newExc,newTuple];refine qC (wpAny_newObj_type ?_ (by size_fits));refine qC (m:=firstArgMember _ _) (wpAny_of_eq (a:=Value.none) (by first|rfl|(simp only[firstArgMember];rfl)) ?_);refine wpAny_newObj_type ?_ (by size_fits);simp only[raiseNew];refine qC (wpAny_handled ?_);(first|rw[show A.in1.handled=none from hh]|rw[hh]);refine qC (qD (wpAny_throw ?_));exact (hE _ _ (((Heap.SameBut.update ..).extBut.push _).push _) ⟨_,Xs _ rfl,rfl⟩)
theorem NM(hh:A.handled=none)(it t:qR)(hne:t≠it)(items:Array qQ):Draws prog w A it [it,t] items.size (λi v=>items[i]?=some v) (λi h=>h.IsTupleIter it t i/\h.IsTuple t items) where
 live:=λ_ _ ⟨⟨o,ho,_⟩,_⟩=>⟨o,ho⟩
 frame:=λ_ _ _ ⟨st,o,ho,r⟩ hk=>⟨st.at λo e=>hk it (by simp) o e,o,hk t (by simp) o ho,r⟩
 item:=λi s Q E hi st hQ=>GI st.1 st.2 (x:=items[i]) (by simp[hi]) λh' hit' hs'=>hQ _ h' s.toks (by simp[hi]) ⟨hit',st.2.extBut hs'.extBut hne⟩ hs'
 done:=λs Q E st hE=>Dz hh st.1 st.2 (by simp) hE
open AutoSeq1 (wpAny_loadPart') in
theorem Jy(l:qR)(items:Array qQ)(n:Nat)(dct:Option qR)(sl:Array (Option qQ)):
  Meets (Builtin.«enumerate.__new__» ⟨[.type "enumerate",.ref l],[]⟩) (λ_ R s=>s.heap.get? l=some {cls:=.type "tuple",dict:=dct,data:=.seq items n,slots:=sl} /\
   R (.ok (.ret (.ref (s.heap.push {cls:=.type "tuple_iterator",data:=.fields #[.ref l,.int 0 0]}).objs.size)))
    {s with heap:=(s.heap.push {cls:=.type "tuple_iterator",data:=.fields #[.ref l,.int 0 0]}).push {cls:=.type "enumerate",data:=.fields #[.none,.bool false,.ref s.heap.objs.size,rawInt 0,.none,.none]}}):=
 .of_wp λprog w A R s h=>by
  obtain⟨hp,g,d,tk,os⟩:=s;obtain⟨hl,h⟩:=h;have hsub:=sub_enumerate;have hL:Heap.IsTuple (Shared.heap ⟨hp,g,d,tk,os⟩) l items:=⟨_,hl,rfl,n,rfl⟩
  wp_walk using wpAny_loadPart' hl
  refine wpAny_stack_any λst=>qD ?_
  split
  ·rename_i c _ _ _ _ _
   cases (c==Value.type "enumerate")<;>(wp_walk using wpAny_loadPart' hl,wpAny_pyIter_tuple hL)<;>exact⟨_,rfl,h⟩
  ·(wp_walk using wpAny_loadPart' hl,wpAny_pyIter_tuple hL);exact⟨_,rfl,h⟩
theorem K9(hL:s.heap.IsTuple l items)
  (h:∀h',IsEnum h' (s.heap.objs.size+1) s.heap.objs.size 0 .none->h'.IsTupleIter s.heap.objs.size l 0->h'.objs.size=s.heap.objs.size+2->(∀b o,s.heap.get? b=some o->h'.get? b=some o)->Q (.ref (s.heap.objs.size+1)) {s with heap:=h'}):
  wpAny (model prog w) A (call (.type "enumerate") [.ref l]) Q E s:=by
 refine byG λGq hGq=>?_;obtain⟨⟨c,dct,dt,sl⟩,hl,hc,n,hd⟩:=hL;refine hGq ?_;clear hGq Gq;replace hc:c=.type "tuple":=hc;replace hd:dt=.seq items n:=hd;subst hc hd;refine callType_new F.called_enumerate (by decide) (F.typeCall_enumerate_1 _) (F.newCall_enumerate_1 _) (λobj=>F.args_object_init_2 obj _) F.entry_enumerate_new (Jy l items n dct sl) ⟨hl,?_⟩;have hz:(s.heap.push {cls:=.type "tuple_iterator",data:=.fields #[.ref l,.int 0 0]}).objs.size=s.heap.objs.size+1:=Y1 ..;show _/\_;rw[hz]
 have he:IsEnum ((s.heap.push {cls:=.type "tuple_iterator",data:=.fields #[.ref l,.int 0 0]}).push {cls:=.type "enumerate",data:=.fields #[.none,.bool false,.ref s.heap.objs.size,rawInt 0,.none,.none]}) (s.heap.objs.size+1) s.heap.objs.size 0 .none:=by have:=Xs (s.heap.push {cls:=.type "tuple_iterator",data:=.fields #[.ref l,.int 0 0]}) (o:={cls:=.type "enumerate",data:=.fields #[.none,.bool false,.ref s.heap.objs.size,rawInt 0,.none,.none]}) rfl;rw[hz]at this;exact this
 exact⟨⟨_,he,rfl⟩,h _ he ⟨_,Xh _ (Xs _ rfl),rfl,rfl⟩ (by rw[Y1,hz]) λb o x=>Xh _ (Xh _ x)⟩
theorem Fi{e t:qR}{i:Nat}{old:qQ}{Q:Option qQ->qS->Prop}(hh:A.handled=none)(he:IsEnum s.heap e it i old)(hit:s.heap.IsTupleIter it t i)(ht:s.heap.IsTuple t items)(hx:items[i]?=none)
  (hQ:∀h',Heap.ExtBut it s.heap h'->Q none {s with heap:=h'}):wpAny (model prog w) A (pyNext (.ref e)) Q E s:=by
 have hT:s.TypeIs (.ref e) "enumerate":=⟨_,he,rfl⟩;unfold pyNext;refine qC (wpAny_attempt (wpAny_callSpecial?_slot (name:=Str.ofString "__next__") hT F.slot_enumerate_next (wpAny_call_entry F.slot_enumerate_next hT F.entry_enumerate_next ?_ (F.args_enumerate_next_1 _))))
 (show wpAny _ _ (field (.ref e) 2 >>= _) _ _ _);refine qC (wpAny_field he rfl (x:=.ref it) rfl ?_)
 refine qC (Dz hh hit ht hx λh' x he' hx'=>?_);obtain⟨o,ho,hc⟩:=hx';exact qC (wpAny_isInstance (T:="StopIteration") (b:=true) ⟨o,ho,hc⟩ isSubtype_stop (qD (hQ _ he')))
end
noncomputable def NO(K:qV)(a:qR):It:=
 ⟨λi H=>∃xs x,Aa K H a xs/\xs[i]?=some x,λi H v H'=>∃p x,v=.ref p/\H p=none/\H'=AT H p (.tup [.int i,x])/\∀xs,Aa K H a xs->xs[i]?=some x,λi H=>∃xs,Aa K H a xs/\xs.length<=i⟩
theorem LA{P:qT}{w:qU}{K:qV}{ctx}(a e it:qR)(hne:e≠it)(hna:a≠it)(hea:e≠a):
  IB P w K (.Tuple elts ctx tpos) (NO K a) [e,it] e (λi h=>(∃old,IsEnum h e it ((i:Nat):Int) old)/\h.IsTupleIter it a i) where
 mem:=by simp
 obj:=λi h st b hb=>by
  refine byG λGq hGq=>?_;obtain⟨⟨old,q⟩,o,e1,c,d⟩:=st;refine hGq ?_;clear hGq Gq;rcases X3.mp hb with z|z
  ·rw[z];exact⟨_,q,λv y=>by cases y⟩
  ·rw[Xu.mp z];exact⟨o,e1,λv y=>by rw[d]at y;cases y⟩
 keep:=λi h h' st k=>by obtain⟨⟨old,q⟩,li⟩:=st;exact⟨⟨old,k e (by simp) _ q⟩,li.at λo z=>k it (by simp) o z⟩
 item:=by
  intro X hP hw hK hc i a6 s σ H E I hf st hg;subst hP hw hK;refine byG λGq hGq=>?_;obtain⟨xs,x,hq,hx⟩:=hg;refine hGq ?_;clear hGq Gq;refine byG λGq hGq=>?_;obtain⟨its,rv,p,hz⟩:=I.tuple hq;refine hGq ?_;clear hGq Gq;obtain⟨u,hu,ru⟩:=rv.get hx;obtain⟨⟨old,he⟩,li⟩:=st
  have hil:i<its.toArray.size:=by have:=(Xg.mp hu).1;simpa using this
  refine wpAny_pyNext_enum_itemD (NM (A:=X.A.in1) (show X.A.in1.handled=none from I.ok.hd hc) it a hna its.toArray) he ⟨li,show s.heap.IsTuple a its.toArray from p⟩ hil hne (by simp[hne,hea]) λy h1 tk hy out li1 ht hsz k1=>?_
  have ey:y=u:=by
   have e1:its.toArray[i]?=some u:=by simpa using hu
   rw[e1]at hy;exact (Option.some.inj hy).symm
  subst ey;refine⟨_,rfl,wpAny_letOwnedTupleGo_enum out λh2 he2 sb=>?_⟩;have k2:∀b o,b∉[e,it]->s.heap.get? b=some o->h2.get? b=some o:=λb o hb z=>(sb.2 b λy=>hb (by simp[y])).trans (k1 b o (λy=>hb (by simp[y])) (λy=>hb (by simp[y])) z)
  have hpe:s.heap.objs.size≠e:=ZO (Xm he);have ht2:h2.get? s.heap.objs.size=some {cls:=.type "tuple",data:=.seq #[.int ((i:Nat):Int) tk,y]}:=(sb.2 _ hpe).trans ht;have hn:H s.heap.objs.size=none:=I.hok.fresh (Xi _);refine⟨.ref s.heap.objs.size,AT H s.heap.objs.size (.tup [.int ((i:Nat):Int),x]),I.turnedNew (h':=h2) (t':=tk+1) hf k2 (Xi _) ⟨by show 2<=sizeLine;decide,[.int ((i:Nat):Int) tk,y],.cons ⟨_,rfl⟩ (.cons ru .nil),⟨_,ht2,rfl,_,rfl⟩⟩,rfl,⟨_,x,rfl,hn,rfl,λys hy=>by rw[I.tuple_inj hy hq];exact hx⟩,⟨⟨y,?_⟩,?_⟩,λb hb=>?_⟩
  ·have ec:(((i+1:Nat)):Int)=((i:Nat):Int)+1:=by push_cast;rfl
   rw[ec];exact he2
  ·exact li1.1.at λo z=>(sb.2 it (Ne.symm hne)).trans z
  ·have b0:=(hf b hb).1;rw[AJ λz=>?_]
   ·exact b0
   ·obtain⟨o,z1,_⟩:=id li;rcases X3.mp hb with y|y
    ·exact hpe (z.symm.trans y)
    ·exact qG (Xm z1) (by rw[<-Xu.mp y,z];exact X8 _)
 done:=by intro X hP hw hK hc i a6 s σ H E I hf st hg;subst hP hw hK;obtain⟨xs,hq,hx⟩:=hg;refine byG λGq hGq=>?_;obtain⟨its,rv,p,hz⟩:=I.tuple hq;refine hGq ?_;clear hGq Gq;obtain⟨⟨old,he⟩,li⟩:=st;refine byG λGq hGq=>?_;obtain⟨f0,f1,f2,f3,f4,f5⟩:=hf it (by simp);refine hGq ?_;clear hGq Gq;have hl:=rv.length;exact Fi (I.ok.hd hc) he li p (by simp;lia) λh' eb=>⟨rfl,I.turned (t':=s.toks) (λb o hb e=>eb b o hb e) f0 f1 f3 f4 f5⟩
 self:=λ_ _ _ _ _ st h=>by obtain⟨⟨old,he⟩,_⟩:=st;exact wpAny_pyIter_enum he h
section
variable{ctx}
def TB(K:qV)(ta:TA):TI:=λσ H R=>ta σ H λvs H1=>∃a xs,vs=[.ref a]/\Aa K H1 a xs/\R (NO K a) H1
theorem Gx{l:Expr}{p pos:Pos}(hg:Gl X "enumerate")(hm:X.mg "enumerate"=none)(ha:PA X [l] ta)(hs:starEach [l] X.env=[(false,eval l X.env)]:=by rfl):PI X (.Tuple elts ctx tpos) (.Call (.Name "enumerate" p) [l] [] pos) (TB X.K ta):=by
 intro a6 s σ H R I h;refine Call_ (Ck I hg hm boot_enumerate (YU (BJ (ha pos a6 s σ H _ I h) λus s1 z9=>?_) hs rfl));obtain⟨vs,H1,I1,r1,q1⟩:=z9;refine byG λGq hGq=>?_;obtain⟨a,xs,e,hq,q⟩:=q1;refine hGq ?_;clear hGq Gq;subst e;cases r1 with
 |cons r rr =>
  cases rr;cases r;refine byG λGq hGq=>?_;obtain⟨its,rv,pl,hz⟩:=I1.tuple hq;refine hGq ?_;clear hGq Gq;have hal:a<s1.heap.objs.size:=by obtain⟨o,ho,_⟩:=id pl;exact Xm ho
  refine K9 pl λh1 he li hsz k1=>?_;refine wpAny_pyIter_enum he ?_;have n1:H1 (s1.heap.objs.size+1)=none:=I1.hok.fresh (ZD _);have n0:H1 s1.heap.objs.size=none:=I1.hok.fresh (Xi _);refine⟨s1.heap.objs.size+1,[s1.heap.objs.size+1,s1.heap.objs.size],_,_,H1,rfl,I1.kept (t':=s1.toks) k1,LA a _ _ (Nat.succ_ne_self _) (YA hal) (ZO (Zz hal)),⟨⟨_,he⟩,li⟩,λb hb=>?_,q⟩;rcases X3.mp hb with z|z
  ·rw[z];exact I1.fpOk (ZD _) n1
  ·rw[Xu.mp z];exact I1.fpOk (Xi _) n0
theorem IS{K:qV}{g:TG}{tb:TS}(Pv:Nat->St->Hp->Prop)(h0:Pv 0 σ H)(hl:∀i σ H,i<=xs.length->Pv i σ H->Aa K H a xs)
  (hs:∀i x p σ H,xs[i]?=some x->Pv i σ H->H p=none->g (.ref p) σ (AT H p (.tup [.int ((i:Nat):Int),x])) λσ2 H2=>tb {D with nx:=Pv (i+1),ct:=Pv (i+1),bk:=D.nx} σ2 H2) (hd:∀σ H,Pv xs.length σ H->D.nx σ H):
  ∃W:Nat->Nat->St->Hp->Prop,(∃m,W 0 m σ H)/\∀i m σ H,W i m σ H ->
   ((NO K a).stop i H/\D.nx σ H)\/((NO K a).go i H/\∃N:St->Hp->Prop,(∀σ' H',N σ' H'->∃m',m'<m/\W (i+1) m' σ' H')/\∀x H',(NO K a).yld i H x H'->g x σ H' λσ2 H2=>tb {D with nx:=N,ct:=N,bk:=D.nx} σ2 H2):=by
 refine⟨λi m σ H=>m=xs.length-i/\i<=xs.length/\Pv i σ H,⟨xs.length,by simp,Nat.zero_le _,h0⟩,?_⟩;rintro i m σ H ⟨rfl,hi,p⟩;have q:=hl i σ H hi p
 by_cases hlt:i<xs.length
 ·refine .inr ⟨⟨xs,xs[i],q,by simp[hlt]⟩,Pv (i+1),λσ' H' p'=>⟨xs.length-(i+1),by lia,rfl,hlt,p'⟩,λv H' y=>?_⟩;refine byG λGq hGq=>?_;obtain⟨p2,x,e1,e2,e3,y⟩:=y;refine hGq ?_;clear hGq Gq;subst e1 e3;exact hs i x p2 σ H (y xs q) p e2
 ·have e:i=xs.length:=by lia
  subst e;exact .inl ⟨⟨xs,q,Xi _⟩,hd σ H p⟩
end
def TC(K:qV):R2:=λx y H Q=>∃d e,EU K H x d/\EU K H y e/\d.canLay0=true/\e.canLay0=true/\d.depth<=60/\Q (.bl (!PyData.eqv d e)) H
theorem TD(hu:X.A.units+64<cLine):Ec X (compareOp .NotEq) (TC X.K):=by intro a6 s σ H x y v u Q I rx ry h;refine byG λGq hGq=>?_;obtain⟨d,e,hd,he,c1,c2,dd,q⟩:=h;refine hGq ?_;clear hGq Gq;obtain⟨as,r1⟩:=hd.reads I rx;obtain⟨bs,r2⟩:=he.reads I ry;have z:=SeqAt.rcNeAt_reads (A:=X.A) r1 r2 c1 c2 (by have:=Nat.min_le_left d.depth e.depth;lia);exact z X.prog X.w X.xe _ ⟨.bl _,H,I,rfl,q⟩
theorem Db(ns:qW):(PyData.tuple (ns.map PyData.int)).canLay0=true:=by simp only[PyData.canLay0,Gs]
theorem Qu(ns:qW):PyData.eqv (.tuple (ns.map PyData.int)) (.tuple (ns.map PyData.int))=true:=SeqAt.eqvAll_refl (ns.map PyData.int) (Db ns)
end L2
namespace RW
noncomputable def dr(g n:Int):Nat->Int
 |0=>n
 |i+1=>dr g n i/g
noncomputable def Cy(g n:Int):Nat->qW
 |0=>[]
 |i+1=>Cy g n i++[dr g n i%g]
theorem C6(g n:Int):∀i,(Cy g n i).length=i
 |0=>rfl
 |i+1=>by rw[Cy,Xt,C6 g n i];rfl
theorem Ao{g:Int}(hg:2<=g):∀m:Nat,0<g^m
 |0=>by rw[Ya];decide
 |m+1=>by rw[YH];exact Int.mul_pos (Ao hg m) (by lia)
theorem Oh{g:Int}(hg:2<=g)(n:Int):∀i:Nat,dr g n i=n/g^i
 |0=>by rw[dr,Ya,Int.ediv_one]
 |i+1=>by rw[dr,Oh hg n i,YH,Int.ediv_ediv_of_nonneg (YI (Ao hg i))]
theorem MK{g n:Int}(hg:2<=g)(hn:0<=n){m:Nat}(h:n<g^m):dr g n m=0:=by rw[Oh hg];exact Zv hn h
theorem TF{g n:Int}(hg:2<=g){m:Nat}(h:g^m<=n):0<dr g n m:=by
 rw[Oh hg];have h1:1*g^m<=n:=by rw[ZI];exact h
 have h2:=(Int.le_ediv_iff_mul_le (Ao hg m)).mpr h1;lia
end RW
namespace L2
open PySem
variable{H H' H1:Hp}{a l:qR}{xs:List V}{α:Type}
theorem By{g:Int}(hg:2<=g){m n:Nat}(h:m<=n):g^m<=g^n:=by obtain⟨k,rfl⟩:=Nat.exists_eq_add_of_le h;rw[Int.pow_add];have h1:=RW.Ao hg m;have h2:=RW.Ao hg k;have h3:=Y8 (show 1<=g^k by lia) (YI h1);lia
theorem Oi{g:Int}(hg:2<=g){m n:Nat}(h:m<n):g^m<g^n:=by have h1:=By hg (show m+1<=n from h);rw[YH]at h1;have h2:=RW.Ao hg m;have h3:=Y8 hg (YI h2);lia
theorem EI{g:Int}(hg:2<=g){m n:Nat}(h:g^m=g^n):m=n:=by
 rcases Nat.lt_trichotomy m n with z|z|z
 ·have:=Oi hg z;lia
 ·exact z
 ·have:=Oi hg z;lia
theorem IT{g:Int}(hg:2<=g):∀{rs:qW},(∀n∈rs,0<=n/\n<g)->0<=low g rs/\low g rs<g^rs.length
 |[],_=>⟨Yz _,by show (0:Int)<g^0;rw[Ya];decide⟩
 |x::r,h=>by
  obtain⟨h1,h2⟩:=IT hg (rs:=r) λn hn=>h n (Xw _ hn)
  obtain⟨h3,h4⟩:=h x X5;have h5:=Int.mul_nonneg (show 0<=g by lia) h1;have h6:=Y8 (show low g r+1<=g^r.length by lia) (show 0<=g by lia);rw[Int.mul_add,Int.mul_one]at h6;refine⟨by show 0<=x+g*low g r;lia,?_⟩;show x+g*low g r<g^(r.length+1);rw[YH,Zm (g^r.length)];lia
theorem DG{g:Int}(hg:2<=g){ns:qW}(h:∀n∈ns,0<=n/\n<g):0<=BM g ns/\BM g ns<g^ns.length:=by rw[MG,<-List.length_reverse];exact IT hg λn hn=>h n (List.mem_reverse.mp hn)
theorem JE{b:qR}{zs:List V}{Q:VK}(h1:H l=some (.lst xs))(h2:H b=some (.lst zs))(hz:xs.length+zs.length<=1000)(q:∀p H',AG H H'->H p=none->H' p=some (.lst (xs++zs))->Q (.ref p) H'):U3 (.ref l) (.ref b) H Q:=
 ⟨l,b,xs,zs,rfl,rfl,h1,h2,U8 hz,λp hp=>q p _ (AG.new hp _) hp AE⟩
theorem LB{K:qV}{lo hi:Option Int}{Q:VK}(h:Af K H a xs)(q:∀p H',AG H H'->H p=none->H' p=some (.lst (Iu xs lo hi))->Q (.ref p) H'):U1 K (.ref a) lo hi H Q:=
 ⟨a,xs,rfl,h,λp hp=>q p _ (AG.new hp _) hp AE⟩
theorem ML{k:Nat}:Iu xs none (some ((k:Nat):Int))=xs.take k:=by
 have e:HT.Jo xs.length xs.length (some ((k:Nat):Int))=min k xs.length:=by show (if ((k:Nat):Int)<0 then (((k:Nat):Int)+(xs.length:Int)).toNat else min ((k:Nat):Int).toNat xs.length)=_;rw[qE (by lia),Xo]
 unfold Iu;rw[e];show (xs.drop 0).take (min k xs.length-0)=_;rw[List.drop_zero,Nat.sub_zero]
 by_cases z:k<=xs.length
 ·rw[Nat.min_eq_left z]
 ·rw[Nat.min_eq_right (by lia),YK,YX (by lia)]
theorem NP{k:Nat}:Iu xs (some ((k:Nat):Int)) none=xs.drop k:=by
 have e:HT.Jo xs.length 0 (some ((k:Nat):Int))=min k xs.length:=by show (if ((k:Nat):Int)<0 then (((k:Nat):Int)+(xs.length:Int)).toNat else min ((k:Nat):Int).toNat xs.length)=_;rw[qE (by lia),Xo]
 unfold Iu;rw[e];show (xs.drop (min k xs.length)).take (xs.length-min k xs.length)=_;rw[YX (by rw[Yp];exact Xi _)]
 by_cases z:k<=xs.length
 ·rw[Nat.min_eq_left z]
 ·rw[Nat.min_eq_right (by lia),List.drop_length,List.drop_of_length_le (by lia)]
theorem D0{ns:qW}{k:Nat}(h:k<ns.length):Kt (ns.map V.int) ((k:Nat):Int)=some (.int (ns.getD k 0)):=by refine GO ?_;rw[Xl,Xj h,Xk,Xj h];rfl
def BV(H:Hp)(r:qR)(g lo:Int)(a7:qW):Prop:=∃tb,H r=some (.tup [.int g,.int lo,.ref tb])/\H tb=some (.tup (a7.map V.int))
variable{a7:qW}
theorem BV.same{r:qR}{g lo:Int}(e:AG H H')(h:BV H r g lo a7):BV H' r g lo a7:=by obtain⟨tb,h1,h2⟩:=h;exact⟨tb,e _ _ h1,e _ _ h2⟩
inductive C7(vs:List V)(H:Hp)(Q:VK)(z3_:XK):Prop
 |m (g n:Int):vs=[.int g,.int n]->2<=g->g<=9->(∀m:Nat,n=g^m->Q (.int ((m:Nat):Int)) H)->((∀m:Nat,n≠g^m)->Q (.int 0) H)->C7 vs H Q z3_
inductive DL(vs:List V)(H:Hp)(Q:VK)(z3_:XK):Prop
 |m (r:qR) (g lo:Int) (a7:qW) (m:Nat):vs=[.ref r]->2<=g->g<=9->BV H r g lo a7->(a7.length:Int)=g^m->Q (.int ((m:Nat):Int)) H->DL vs H Q z3_
noncomputable def D1(g:Int)(m:Nat)(xs:List V):Option Nat:=match B8 g (xs.take m) with
 |some i=>some i
 |none=>if xs.length=m then none else some (min xs.length m)
theorem Jz{g:Int}{m:Nat}(h:D1 g m xs=none):xs.length=m/\B8 g xs=none:=by
 unfold D1 at h;cases e:B8 g (xs.take m) with
 |some i=>rw[e]at h;cases h
 |none =>
  rw[e]at h
  by_cases z:xs.length=m
  ·refine⟨z,?_⟩;rw[<-z,YK]at e;exact e
  ·rw[qE z]at h;cases h
theorem J1{g:Int}{ns:qW}(h:∀n∈ns,0<=n/\n<g):D1 g ns.length (ns.map V.int)=none:=by unfold D1;have e:(ns.map V.int).take ns.length=ns.map V.int:=YX (by rw[Xf];exact Xi _);rw[e,K6 h,Xf];exact qF rfl
theorem Qv{n i:Nat}(h:i<n):OH n ((i:Nat):Int)=some i:=by unfold OH;rw[qF (by lia),qF (by lia),Xo]
theorem Gy:∀ns:qW,PyData.depthAll (ns.map PyData.int)=0
 |[]=>by simp only[List.map_nil,PyData.depthAll]
 |n::ns=>by simp only[List.map_cons,PyData.depthAll,PyData.depth,Gy ns,Nat.max_self]
def Qw(H H':Hp)(r:qR)(ns:qW):Prop:=AG H H'/\H r=none/\H' r=some (.lst (ns.map V.int))
inductive JF(vs:List V)(H:Hp)(Q:VK)(z3_:XK):Prop
 |m (g m:Int):vs=[.int g,.int m]->2<=g->g<=9->1<=m->(g^m.toNat<=256->Q (.int (g^m.toNat)) H)->(256<g^m.toNat->∀r:Int,256<r->Q (.int r) H)->JF vs H Q z3_
inductive Ce(vs:List V)(H:Hp)(Q:VK)(z3_:XK):Prop
 |m (g m:Int):vs=[.int g,.int m]->2<=g->g<=9->0<=m->m<=256->Q (.int (g^m.toNat)) H->Ce vs H Q z3_
theorem MM(g n:Int):∀i:Nat,RW.dr g n (i+1)=RW.dr g (n/g) i
 |0=>rfl
 |i+1=>by rw[RW.dr,MM g n i];rfl
theorem IU(g n:Int):∀i:Nat,RW.Cy g n (i+1)=n%g::RW.Cy g (n/g) i
 |0=>rfl
 |i+1=>by rw[RW.Cy,IU g n i,MM];rfl
theorem J3{g:Int}(hg:2<=g):∀{l:qW},(∀n∈l,0<=n/\n<g)->RW.Cy g (low g l) l.length=l
 |[],_=>rfl
 |x::r,h=>by obtain⟨h0,h1⟩:=h x X5;rw[YT,IU,low,Int.add_mul_emod_self_left,Ym h0 h1,Int.add_mul_ediv_left _ _ (show g≠0 by lia),Zv h0 h1,YJ,J3 hg λn hn=>h n (Xw _ hn)]
theorem MN{g:Int}(hg:2<=g)(n:Int):∀i:Nat,∀x∈RW.Cy g n i,0<=x/\x<g
 |0,x,h=>qG h (by simp[RW.Cy])
 |i+1,x,h=>by
  rw[RW.Cy]at h;rcases Xr.mp h with z|z
  ·exact MN hg n i x z
  ·rw[Xu.mp z];exact⟨Y4 _ (by lia),Y7 _ (by lia)⟩
theorem F9(g n:Int):∀i:Nat,low g (RW.Cy g n i)+g^i*RW.dr g n i=n
 |0=>by rw[RW.Cy,low,RW.dr,Ya];lia
 |i+1=>by have h:=F9 g n i;have e:=Int.emod_add_mul_ediv (RW.dr g n i) g;rw[RW.Cy,Jw,RW.C6,RW.dr,YH,Int.mul_assoc,Zm (RW.dr g n i%g),Int.add_assoc,<-Int.mul_add,e];exact h
theorem Oj{g n:Int}(hg:2<=g)(hn:0<=n){i:Nat}(h:n<g^i):low g (RW.Cy g n i)=n:=by have e:=F9 g n i;rw[RW.MK hg hn h,Int.mul_zero,ZA]at e;exact e
theorem AG.into{p:qR}{o:HO}(e:AG H H1)(hp:H p=none):AG H (AT H1 p o):=λb u q=>by rw[AJ (BE q hp)];exact e b u q
theorem JG(g:Int):∀(n:Int) (l:qW),K4 g n l=n*g^l.length+BM g l
 |n,[]=>by show n=n*g^0+0;rw[Ya];lia
 |n,x::r=>by show K4 g (n*g+x) r=n*g^(r.length+1)+K4 g (0*g+x) r;rw[JG g (n*g+x) r,JG g (0*g+x) r,ZZ,YJ,Int.add_mul,YH,Int.mul_assoc,Zm g,Int.add_assoc]
theorem Gz(g:Int)(a b:qW):BM g (a++b)=BM g a*g^b.length+BM g b:=by show (a++b).foldl (λm x=>m*g+x) 0=_;rw[List.foldl_append];exact JG g (K4 g 0 a) b
theorem FC{g:Int}(hg:2<=g)(hb:∀n∈a7,0<=n/\n<g)(k:Nat):0<=a7.getD k 0/\a7.getD k 0<g:=by
 rw[Xk];cases e:a7[k]? with
 |none=>exact⟨Yz _,by show (0:Int)<g;lia⟩
 |some v=>exact hb v (Xq e)
theorem Bc(f:Nat->α)(i:Nat):(List.range (i+1)).map f=(List.range i).map f++[f i]:=by rw[Yb,Xp];rfl
variable{z:Int}
theorem BF{ns:qW}(h0:0<=z)(h:z.toNat<ns.length):Kt (ns.map V.int) z=some (.int (ns.getD z.toNat 0)):=by have e:=D0 (ns:=ns) h;rw[show ((z.toNat:Nat):Int)=z by lia]at e;exact e
noncomputable def BD(g n:Int)(m:Nat):qW:=(RW.Cy g n m).reverse
theorem CB(g n:Int)(m:Nat):(BD g n m).length=m:=by unfold BD;rw[List.length_reverse,RW.C6]
theorem D4{g:Int}(hg:2<=g)(n:Int)(m:Nat):∀x∈BD g n m,0<=x/\x<g:=λx hx=>MN hg n m x (List.mem_reverse.mp hx)
theorem NQ{g n:Int}(hg:2<=g)(h0:0<=n){m:Nat}(h:n<g^m):BM g (BD g n m)=n:=by unfold BD;rw[JD,Oj hg h0 h]
theorem EJ{g:Int}(hg:2<=g){ws:qW}(hb:∀x∈ws,0<=x/\x<g):BD g (BM g ws) ws.length=ws:=by
 unfold BD;have e:=J3 hg (l:=ws.reverse) λn hn=>hb n (List.mem_reverse.mp hn)
 rw[List.length_reverse]at e;rw[MG,e,List.reverse_reverse]
theorem Az{f:Nat->Int}{n k:Nat}(h:k<n):((List.range n).map f).getD k 0=f k:=by rw[Xk,Xl,Zk h];rfl
theorem BS{a b:qW}(hl:a.length=b.length)(h:∀k,k<a.length->a.getD k 0=b.getD k 0):a=b:=by apply List.ext_getElem hl;intro i h1 h2;have:=h i h1;rw[Xk,Xk,Xj h1,Xj h2]at this;exact this
inductive EK(vs:List V)(H:Hp)(Q:VK)(z3_:XK):Prop
 |m (n g m:Int):vs=[.int n,.int g,.int m]->2<=g->g<=9->0<=m->m<=100->(∀p H',Qw H H' p (BD g n m.toNat)->Q (.ref p) H')->EK vs H Q z3_
noncomputable def A1(g:Int)(a7:qW)(w:Int):Bool:=(List.range a7.length).any λk:Nat=>!decide (a7.getD k 0=a7.getD ((k:Int)-(k:Int)/w%g*w).toNat 0)
noncomputable def BC(g lo:Int)(a7:qW)(m:Nat):qW:=((List.range m).filter λj=>A1 g a7 (g^(m-1-j))).map λj:Nat=>lo+(j:Int)
inductive G3(vs:List V)(H:Hp)(Q:VK)(z3_:XK):Prop
 |m (r:qR) (g lo:Int) (a7:qW) (w:Int):vs=[.ref r,.int w]->2<=g->g<=9->BV H r g lo a7->0<w->w<=1000->a7.length<=256->(∀H',AG H H'->Q (.bl (A1 g a7 w)) H')->G3 vs H Q z3_
inductive Dc(vs:List V)(H:Hp)(Q:VK)(z3_:XK):Prop
 |m (r:qR) (g lo:Int) (a7:qW) (m:Nat):vs=[.ref r]->2<=g->g<=9->BV H r g lo a7->(a7.length:Int)=g^m->1<=m->m<=8->g^m<=256->(∀p H',Qw H H' p (BC g lo a7 m)->Q (.ref p) H')->Dc vs H Q z3_
theorem Ol{k w g:Int}(hk:0<=k)(hw:0<w)(hg:2<=g):0<=k-k/w%g*w/\k-k/w%g*w<=k:=by
 have h1:=Y4 (k/w) (show g≠0 by lia);have h2:=Int.ediv_nonneg hk (YI hw)
 have h3:k/w%g<=k/w:=by
  by_cases z:k/w<g
  ·rw[Ym h2 z];lia
  ·have:=Y7 (k/w) (show 0<g by lia);lia
 have h4:=Int.mul_le_mul_of_nonneg_right h3 (YI hw);have h5:=Int.mul_nonneg h1 (YI hw);have h6:=Int.ediv_mul_le k (show w≠0 by lia);exact⟨by lia,by lia⟩
end L2
namespace L2
variable{j:Nat}{a7:qW}{z:Int}
theorem JH(g x:Int):BM g [x]=x:=by show 0*g+x=x;rw[ZZ,YJ]
theorem Fj(g:Int)(a:qW)(x:Int)(b:qW):BM g (a++x::b)=(BM g a*g+x)*g^b.length+BM g b:=by rw[show a++x::b=(a++[x])++b by rw[YD];rfl,Gz,Gr]
theorem NR{g:Int}(hg:2<=g){a b:qW}{x:Int}(hb:∀n∈b,0<=n/\n<g)(hx:0<=x/\x<g):BM g (a++x::b)/g^b.length%g=x:=by have b1:=DG hg hb;have gp:=RW.Ao hg b.length;rw[Fj,Int.add_comm,Zm,Int.add_mul_ediv_left _ _ (by lia),Zv b1.1 b1.2,YJ,Int.add_comm,Zm,Int.add_mul_emod_self_left,Ym hx.1 hx.2]
theorem J4{w:qW}(h:j<w.length):w=w.take j++w.getD j 0::w.drop (j+1):=by rw[Xk,Xj h];show w=w.take j++w[j]::w.drop (j+1);rw[<-Zf h,Yl]
theorem NS{w:qW}(h:j<w.length)(v:Int):w.set j v=w.take j++v::w.drop (j+1):=List.set_eq_take_append_cons_drop▸qF h
theorem JI{g:Int}(hg:2<=g){w:qW}(hb:∀n∈w,0<=n/\n<g)(h:j<w.length):BM g w/g^(w.length-1-j)%g=w.getD j 0:=by
 have hl:(w.drop (j+1)).length=w.length-1-j:=by rw[Yp];lia
 have e:=NR hg (a:=w.take j) (b:=w.drop (j+1)) (x:=w.getD j 0) (λn hn=>hb n (Z6 hn)) (FC hg hb j);rw[<-J4 h,hl]at e;exact e
theorem G4{g:Int}(hg:2<=g){w:qW}(hb:∀n∈w,0<=n/\n<g)(h:j<w.length):BM g w-BM g w/g^(w.length-1-j)%g*g^(w.length-1-j)=BM g (w.set j 0):=by
 rw[JI hg hb h,NS h];have hl:(w.drop (j+1)).length=w.length-1-j:=by rw[Yp];lia
 have e:=Fj g (w.take j) (w.getD j 0) (w.drop (j+1));rw[<-J4 h]at e;rw[e,Fj,hl,Int.add_mul,ZA];lia
theorem LC{g:Int}{w:Int}(h:A1 g a7 w=false){k:Nat}(hk:k<a7.length):a7.getD k 0=a7.getD ((k:Int)-(k:Int)/w%g*w).toNat 0:=by unfold A1 at h;rw[List.any_eq_false]at h;have:=h k (X1.mpr hk);simpa using this
theorem LD{g:Int}(hg:2<=g){m:Nat}(hl:(a7.length:Int)=g^m){w:qW}(hb:∀n∈w,0<=n/\n<g)(hw:w.length=m)(hj:j<m)(hc:A1 g a7 (g^(m-1-j))=false):a7.getD (BM g w).toNat 0=a7.getD (BM g (w.set j 0)).toNat 0:=by have b:=DG hg hb;rw[hw]at b;have e:=LC hc (k:=(BM g w).toNat) (by lia);have n0:=G4 hg hb (j:=j) (by lia);rw[hw]at n0;rw[show (((BM g w).toNat:Nat):Int)=BM g w by lia,n0]at e;exact e
noncomputable def zk(keep:Nat->Bool)(w:qW)(k:Nat):qW:=(List.range w.length).map λj=>if j<k/\keep j=false then 0 else w.getD j 0
theorem CC(keep:Nat->Bool)(w:qW)(k:Nat):(zk keep w k).length=w.length:=by unfold zk;rw[List.length_map,List.length_range]
theorem Eo(keep:Nat->Bool)(w:qW)(k:Nat)(h:j<w.length):(zk keep w k).getD j 0=if j<k/\keep j=false then 0 else w.getD j 0:=by unfold zk;exact Az h
theorem Qx(keep:Nat->Bool)(w:qW):zk keep w 0=w:=by refine BS (CC keep w 0) λj hj=>?_;rw[CC]at hj;rw[Eo keep w 0 hj,qE (by lia)]
theorem VC{g:Int}(hg:2<=g){keep:Nat->Bool}{w:qW}(hb:∀n∈w,0<=n/\n<g)(k:Nat):∀n∈zk keep w k,0<=n/\n<g:=λn hn=>by
 unfold zk at hn;obtain⟨j,_,e⟩:=Xy.mp hn;subst e;split
 ·exact⟨Yz _,by lia⟩
 ·exact FC hg hb _
theorem J7{w:qW}{i:Nat}{v:Int}(h:i<w.length):(w.set i v).getD j 0=if i=j then v else w.getD j 0:=by
 rw[Xk,List.getElem?_set]
 by_cases e:i=j
 ·rw[qF e,qF e];subst e;rw[qF h];rfl
 ·rw[qE e,qE e,Xk]
theorem Qy(keep:Nat->Bool)(w:qW){k:Nat}(hk:k<w.length):zk keep w (k+1)=if keep k=false then (zk keep w k).set k 0 else zk keep w k:=by
 by_cases e:keep k=false
 ·rw[qF e];refine BS (by rw[ZL,CC,CC]) λj hj=>?_;rw[CC]at hj;rw[Eo keep w _ hj,J7 (by rw[CC];exact hk),Eo keep w _ hj]
  by_cases z:k=j
  ·subst z;rw[qF ⟨by lia,e⟩,qF rfl]
  ·rw[qE z]
   by_cases y:j<k/\keep j=false
   ·rw[qF y,qF ⟨by lia,y.2⟩]
   ·rw[qE y,qE (λx=>y ⟨by lia,x.2⟩)]
 ·rw[qE e];refine BS (by rw[CC,CC]) λj hj=>?_;rw[CC]at hj;rw[Eo keep w _ hj,Eo keep w _ hj]
  by_cases y:j<k/\keep j=false
  ·rw[qF y,qF ⟨by lia,y.2⟩]
  ·rw[qE y,qE (λx=>y ⟨Yv (by lia) (λz=>e (z▸x.2)),x.2⟩)]
theorem GQ{g:Int}(hg:2<=g){m:Nat}(hl:(a7.length:Int)=g^m){keep:Nat->Bool}(hc:∀j,j<m->keep j=false->A1 g a7 (g^(m-1-j))=false){w:qW}(hb:∀n∈w,0<=n/\n<g)(hw:w.length=m):∀k,k<=m->a7.getD (BM g (zk keep w k)).toNat 0=a7.getD (BM g w).toNat 0
 |0,_=>by rw[Qx]
 |k+1,h=>by
  rw[Qy keep w (by lia)]
  by_cases e:keep k=false
  ·rw[qF e,<-LD hg hl (VC hg hb k) (by rw[CC,hw]) (by lia) (hc k (by lia) e)];exact GQ hg hl hc hb hw k (by lia)
  ·rw[qE e];exact GQ hg hl hc hb hw k (by lia)
theorem G5{g:Int}(hg:2<=g){m:Nat}(hl:(a7.length:Int)=g^m){v w:qW}(hv:∀n∈v,0<=n/\n<g)(hw:∀n∈w,0<=n/\n<g)(lv:v.length=m)(lw:w.length=m)
  (h:∀j,j<m->A1 g a7 (g^(m-1-j))=true->v.getD j 0=w.getD j 0):a7.getD (BM g v).toNat 0=a7.getD (BM g w).toNat 0:=by
 have key:∀j,j<m->(λj=>A1 g a7 (g^(m-1-j))) j=false->A1 g a7 (g^(m-1-j))=false:=λj _ e=>e
 rw[<-GQ hg hl key hv lv m (Xi _),<-GQ hg hl key hw lw m (Xi _)]
 congr 3
 refine BS (by rw[CC,CC,lv,lw]) λj hj=>?_;rw[CC,lv]at hj;rw[Eo _ _ _ (by lia),Eo _ _ _ (by lia)]
 by_cases e:j<m/\A1 g a7 (g^(m-1-j))=false
 ·rw[qF e,qF e]
 ·rw[qE e,qE e];refine h j hj ?_;cases z:A1 g a7 (g^(m-1-j)) with
  |true=>rfl
  |false=>exact qG ⟨hj,z⟩ e
noncomputable def sn(v:qW)(z:Int):Int:=if z<0\/(v.length:Int)<=z then 0 else v.getD z.toNat 0
theorem SD{g:Int}(hg:2<=g){v:qW}(hb:∀n∈v,0<=n/\n<g)(z:Int):0<=sn v z/\sn v z<g:=by
 unfold sn;split
 ·exact⟨Yz _,by lia⟩
 ·exact FC hg hb _
theorem Fk{v:qW}(h:j<v.length):sn v ((j:Nat):Int)=v.getD j 0:=by unfold sn;rw[qE (by lia),Xo]
noncomputable def GA(v:qW)(d:Int)(m:Nat):qW:=(List.range m).map λj:Nat=>sn v (d+(j:Int))
theorem CH(v:qW)(d:Int)(m:Nat):(GA v d m).length=m:=by unfold GA;rw[List.length_map,List.length_range]
theorem Ep{g:Int}(hg:2<=g){v:qW}(hb:∀n∈v,0<=n/\n<g)(d:Int)(m:Nat):∀n∈GA v d m,0<=n/\n<g:=λn hn=>by unfold GA at hn;obtain⟨j,_,e⟩:=Xy.mp hn;subst e;exact SD hg hb _
theorem FD(v:qW)(d:Int){m:Nat}(h:j<m):(GA v d m).getD j 0=sn v (d+(j:Int)):=by unfold GA;exact Az h
theorem J8(v:qW):GA v 0 v.length=v:=by refine BS (CH _ _ _) λj hj=>?_;rw[CH]at hj;rw[FD v 0 hj,YJ,Fk hj]
noncomputable def Dd(g lo:Int)(a7:qW)(m:Nat)(low:Int)(M:Nat):qW:=(List.range (g^M).toNat).map λn:Nat=>a7.getD (BM g (GA (BD g (n:Int) M) (lo-low) m)).toNat 0
theorem Ba{g:Int}(hg:2<=g)(lo:Int)(a7:qW)(m:Nat)(low:Int)(M:Nat):((Dd g lo a7 m low M).length:Int)=g^M:=by unfold Dd;rw[Xf,YF,YN (YI (RW.Ao hg M))]
theorem G6{g:Int}(hg:2<=g)(lo:Int)(hb:∀n∈a7,0<=n/\n<g)(m:Nat)(low:Int)(M:Nat):∀n∈Dd g lo a7 m low M,0<=n/\n<g:=λn hn=>by unfold Dd at hn;obtain⟨j,_,e⟩:=Xy.mp hn;subst e;exact FC hg hb _
theorem D5{g:Int}(hg:2<=g)(lo:Int)(a7:qW)(m:Nat)(low:Int){v:qW}(hb:∀n∈v,0<=n/\n<g):(Dd g lo a7 m low v.length).getD (BM g v).toNat 0=a7.getD (BM g (GA v (lo-low) m)).toNat 0:=by have b:=DG hg hb;unfold Dd;rw[Az (by lia),show (((BM g v).toNat:Nat):Int)=BM g v by lia,EJ hg hb]
theorem MO{g:Int}(hg:2<=g){m k:Nat}(h:(k:Int)<g^m):∃w:qW,w.length=m/\(∀n∈w,0<=n/\n<g)/\BM g w=(k:Int):=⟨BD g (k:Int) m,CB _ _ _,D4 hg _ _,NQ hg (by lia) h⟩
theorem LF{g:Int}(hg:2<=g){a b:qW}{m:Nat}(la:(a.length:Int)=g^m)(lb:(b.length:Int)=g^m)(h:∀w:qW,w.length=m->(∀n∈w,0<=n/\n<g)->a.getD (BM g w).toNat 0=b.getD (BM g w).toNat 0):a=b:=by refine BS (by lia) λk hk=>?_;obtain⟨w,h1,h2,h3⟩:=MO hg (m:=m) (k:=k) (by lia);have:=h w h1 h2;rw[h3,Xo]at this;exact this
theorem Om{g:Int}(hg:2<=g)(lo:Int){m:Nat}(hl:(a7.length:Int)=g^m):Dd g lo a7 m lo m=a7:=by refine LF hg (Ba hg _ _ _ _ _) hl λw hw hb=>?_;subst hw;rw[D5 hg lo a7 _ lo hb,Int.sub_self,J8]
theorem LG{g lo:Int}{m:Nat}:z∈BC g lo a7 m↔∃j:Nat,j<m/\A1 g a7 (g^(m-1-j))=true/\z=lo+(j:Int):=by
 unfold BC;constructor
 ·intro h;obtain⟨j,hj,e⟩:=Xy.mp h;obtain⟨h1,h2⟩:=YB.mp hj;exact⟨j,X1.mp h1,h2,e.symm⟩
 ·rintro⟨j,hj,hc,rfl⟩;exact Xy.mpr ⟨j,YB.mpr ⟨X1.mpr hj,hc⟩,rfl⟩
theorem DM{g:Int}{w:Int}:A1 g a7 w=true↔∃k:Nat,k<a7.length/\a7.getD k 0≠a7.getD ((k:Int)-(k:Int)/w%g*w).toNat 0:=by
 unfold A1;rw[List.any_eq_true];constructor
 ·rintro⟨k,hk,h⟩;exact⟨k,List.mem_range.mp hk,by simpa using h⟩
 ·rintro⟨k,hk,h⟩;exact⟨k,List.mem_range.mpr hk,by simpa using h⟩
theorem G7{g:Int}(hg:2<=g){m:Nat}(hl:(a7.length:Int)=g^m)(hj:j<m):A1 g a7 (g^(m-1-j))=true↔∃w:qW,w.length=m/\(∀n∈w,0<=n/\n<g)/\a7.getD (BM g w).toNat 0≠a7.getD (BM g (w.set j 0)).toNat 0:=by
 rw[DM];constructor
 ·rintro⟨k,hk,h⟩;refine byG λGq hGq=>?_;obtain⟨w,h1,h2,h3⟩:=MO hg (m:=m) (k:=k) (by lia);refine hGq ?_;clear hGq Gq;refine⟨w,h1,h2,?_⟩;have n0:=G4 hg h2 (j:=j) (by lia);rw[h1,h3]at n0;rw[<-n0,h3,Xo];exact h
 ·intro hRq;refine byG λGq hGq=>?_;obtain⟨w,h1,h2,h⟩:=hRq;refine hGq ?_;clear hGq Gq;have b:=DG hg h2;rw[h1]at b;refine⟨(BM g w).toNat,by lia,?_⟩;have n0:=G4 hg h2 (j:=j) (by lia);rw[h1]at n0;rw[show (((BM g w).toNat:Nat):Int)=BM g w by lia,n0];exact h
structure D6(g lo:Int)(a7:qW)(m:Nat)(low:Int)(M:Nat):Prop where
 one:1<=M
 all:∀j,j<m->A1 g a7 (g^(m-1-j))=true->low<=lo+(j:Int)/\lo+(j:Int)<low+(M:Int)
 ends:((∀j,j<m->A1 g a7 (g^(m-1-j))=false)/\low=0/\M=1)\/∃j0 j1:Nat,j0<=j1/\j1<m/\low=lo+(j0:Int)/\M=j1-j0+1/\A1 g a7 (g^(m-1-j0))=true/\A1 g a7 (g^(m-1-j1))=true
theorem Eg(p:Nat->Bool)(n:Nat):((List.range n).filter p).Pairwise (·<·):=List.Pairwise.filter p ZU
theorem LH:∀{l:List Nat},l.Pairwise (·<·)->∀x∈l,l.getD 0 0<=x
 |[],_,x,h=>qG h (by simp)
 |a::r,hp,x,h=>by
  rcases X3.mp h with z|z
  ·rw[z];exact Xi _
  ·exact Y9 ((ZV.mp hp).1 x z)
theorem EL:∀{l:List Nat},l.Pairwise (·<·)->∀x∈l,x<=l.getD (l.length-1) 0
 |[],_,x,h=>qG h (by simp)
 |[a],_,x,h=>by rw[Xu.mp h];exact Xi _
 |a::b::r,hp,x,h=>by
  have ih:=EL (l:=b::r) (ZV.mp hp).2;have e:(a::b::r).getD ((a::b::r).length-1) 0=(b::r).getD ((b::r).length-1) 0:=rfl;rw[e];rcases X3.mp h with z|z
  ·rw[z];exact YG (Y9 ((ZV.mp hp).1 b X5)) (ih b X5)
  ·exact ih x z
theorem D7:∀{l:List Nat} {k:Nat},k<l.length->l.getD k 0∈l:=λ{l k} h=>by rw[Xk,Xj h];exact YY h
theorem Bi{f:Nat->Int}{l:List Nat}{k:Nat}(h:k<l.length):(l.map f).getD k 0=f (l.getD k 0):=by rw[Xk,Xl,Xj h,Xk,Xj h];rfl
theorem G8{g lo:Int}{m:Nat}(h:BC g lo a7 m=[]):D6 g lo a7 m 0 1:=by
 have f:∀j,j<m->A1 g a7 (g^(m-1-j))=false:=λj hj=>by
  cases z:A1 g a7 (g^(m-1-j)) with
  |false=>rfl
  |true=>exact qG (LG.mpr ⟨j,hj,z,rfl⟩) (by rw[h];simp)
 exact⟨Xi _,λj hj hc=>qG hc (by rw[f j hj];decide),.inl ⟨f,rfl,rfl⟩⟩
theorem Fl{g lo:Int}{m:Nat}(h:BC g lo a7 m≠[]):∃M:Nat,(M:Int)=(BC g lo a7 m).getD ((BC g lo a7 m).length-1) 0-(BC g lo a7 m).getD 0 0+1/\M<=m/\D6 g lo a7 m ((BC g lo a7 m).getD 0 0) M:=by
 unfold BC at h⊢;generalize hl:((List.range m).filter λj=>A1 g a7 (g^(m-1-j)))=l at h⊢
 have hne:0<l.length:=by
  cases l with
  |nil=>exact qG rfl h
  |cons a r=>simp
 have hm:∀j,j∈l↔j<m/\A1 g a7 (g^(m-1-j))=true:=λj=>by rw[<-hl,YB,X1]
 have hp:l.Pairwise (·<·):=by rw[<-hl];exact Eg _ _
 rw[Xf,Bi (show l.length-1<l.length by lia),Bi hne];have m0:=(hm _).mp (D7 hne);have m1:=(hm _).mp (D7 (show l.length-1<l.length by lia));have le:=EL hp _ (D7 hne);refine⟨l.getD (l.length-1) 0-l.getD 0 0+1,by lia,by lia,⟨by lia,λj hj hc=>?_,.inr ⟨l.getD 0 0,l.getD (l.length-1) 0,le,m1.1,rfl,rfl,m0.2,m1.2⟩⟩⟩;have a1:=LH hp j ((hm j).mpr ⟨hj,hc⟩);have a2:=EL hp j ((hm j).mpr ⟨hj,hc⟩);lia
variable{low':Int}{M':Nat}
theorem D6.uniq{g lo:Int}{m:Nat}{low:Int}{M:Nat}(h:D6 g lo a7 m low M)(h':D6 g lo a7 m low' M'):low=low'/\M=M':=by
 rcases h.ends with⟨f,e1,e2⟩|⟨j0,j1,le,lt,e1,e2,c0,c1⟩
 ·rcases h'.ends with⟨f',e1',e2'⟩|⟨j0',j1',le',lt',e1',e2',c0',c1'⟩
  ·exact⟨by lia,by lia⟩
  ·rw[f j1' lt']at c1';cases c1'
 ·rcases h'.ends with⟨f',e1',e2'⟩|⟨j0',j1',le',lt',e1',e2',c0',c1'⟩
  ·rw[f' j1 lt]at c1;cases c1
  ·have a:=h.all j0' (by lia) c0';have b:=h.all j1' lt' c1';have c:=h'.all j0 (by lia) c0;have d:=h'.all j1 lt c1;exact⟨by lia,by lia⟩
end L2
namespace L2
variable{a7:qW}
theorem Bz{g:Int}(hg:2<=g){m:Nat}(hl:(a7.length:Int)=g^m)(hm:1<=m):((a7.length/g.toNat:Nat):Int)=g^(m-1)/\a7.length=a7.length/g.toNat*g.toNat:=by
 obtain⟨k,rfl⟩:∃k,m=k+1:=⟨m-1,by lia⟩
 have e:a7.length=(g^k).toNat*g.toNat:=by have p:=RW.Ao hg k;rw[YH]at hl;apply Int.ofNat.inj;show (a7.length:Int)=(((g^k).toNat*g.toNat:Nat):Int);rw[hl,ZM,YN (YI p),YN (by lia)]
 have q:a7.length/g.toNat=(g^k).toNat:=by rw[e];exact Zq _ (by lia)
 rw[q,Nat.add_sub_cancel];exact⟨YN (YI (RW.Ao hg k)),e⟩
end L2
namespace L2
open PySem
variable{H H':Hp}{X:Cx}{a7:qW}
structure Av(H:Hp)(r:qR)(g lo:Int)(a7:qW)(m:Nat):Prop where
 v:BV H r g lo a7
 g2:2<=g
 g9:g<=9
 m1:1<=m
 m8:m<=8
 len:(a7.length:Int)=g^m
 sz:g^m<=256
 tb:∀n∈a7,0<=n/\n<g
theorem Av.same{r:qR}{g lo:Int}{m:Nat}(e:AG H H')(h:Av H r g lo a7 m):Av H' r g lo a7 m:=⟨h.v.same e,h.g2,h.g9,h.m1,h.m8,h.len,h.sz,h.tb⟩
inductive FE(vs:List V)(H:Hp)(Q:VK)(z3_:XK):Prop
 |m (r:qR) (g lo:Int) (a7:qW) (m:Nat):vs=[.ref r]->Av H r g lo a7 m->Q (.int ((a7.length/g.toNat:Nat):Int)) H->FE vs H Q z3_
theorem LI{K:qV}(h:X.K=K):CJ X (.builtin "len") (λxs H Q=>∃p ys,xs=[V.ref p]/\(Af K H p ys\/Aa K H p ys)/\Q (.int ((ys.length:Nat):Int)) H):=h▸E6
theorem Fm(ns:qW):(PyData.tuple (ns.map PyData.int)).depth<=60:=by
 simp only[PyData.depth,Gy]
 decide
inductive HB(K:qV)(vs:List V)(H:Hp)(Q:VK)(z3_:XK):Prop
 |m (a:qR) (v:qW) (z:Int):vs=[.ref a,.int z]->Af K H a (v.map V.int)->Q (.int (sn v z)) H->HB K vs H Q z3_
theorem FF{g:Int}(hg:2<=g){M:Nat}(h:g^M<=256):M<=8:=by
 apply Z3;intro z;have h1:=By hg (show 9<=M by lia)
 have h2:(512:Int)<=g^9:=by
  have h2:2*2<=g*g:=ZT hg hg (by decide) (by lia);have h4:4*4<=(g*g)*(g*g):=ZT (by lia) (by lia) (by decide) (by lia);have h8:16*16<=((g*g)*(g*g))*((g*g)*(g*g)):=ZT (by lia) (by lia) (by decide) (by lia);have h9:256*2<=(((g*g)*(g*g))*((g*g)*(g*g)))*g:=ZT (by lia) hg (by decide) (by lia);have e:g^9=(((g*g)*(g*g))*((g*g)*(g*g)))*g:=by simp only[Int.pow_succ,Int.pow_zero,Int.one_mul,Int.mul_assoc]
  rw[e];lia
 lia
theorem Av.bw{r r':qR}{g lo:Int}{m:Nat}(h:Av H r g lo a7 m){low:Int}{M:Nat}(hM:1<=M)(hz:g^M<=256)(hv:BV H' r' g low (Dd g lo a7 m low M)):Av H' r' g low (Dd g lo a7 m low M) M:=
 ⟨hv,h.g2,h.g9,hM,FF h.g2 hz,Ba h.g2 _ _ _ _ _,hz,G6 h.g2 _ h.tb _ _ _⟩
inductive GR(vs:List V)(H:Hp)(Q:VK)(z3_:XK):Prop
 |m (r:qR) (g lo:Int) (a7:qW) (m:Nat) (low:Int) (M:Nat):vs=[.ref r,.int low,.int ((M:Nat):Int)]->Av H r g lo a7 m->1<=M->g^M<=256->(∀r' H',AG H H'->Av H' r' g low (Dd g lo a7 m low M) M->Q (.ref r') H')->GR vs H Q z3_
inductive HD(vs:List V)(H:Hp)(Q:VK)(z3_:XK):Prop
 |m (r:qR) (g lo:Int) (a7:qW) (m:Nat):vs=[.ref r]->Av H r g lo a7 m->(∀(low:Int) (M:Nat),D6 g lo a7 m low M->∀r' H',AG H H'->Av H' r' g low (Dd g lo a7 m low M) M->Q (.ref r') H')->HD vs H Q z3_
def Qz(g lo:Int)(a7:qW)(m:Nat)(low high:Int):Prop:=high<low\/∃z∈BC g lo a7 m,z<low\/high<z
inductive Fn(CW CT:qR)(vs:List V)(H:Hp)(Q:VK)(E:XK):Prop
 |m (r:qR) (g lo:Int) (a7:qW) (m:Nat) (low high:Int):vs=[.ref r,.int low,.int high]->Av H r g lo a7 m->(Qz g lo a7 m low high->∀H',AG H H'->E (.ref CW) none H')->(¬Qz g lo a7 m low high->256<g^(high-low+1).toNat->∀H',AG H H'->E (.ref CT) none H')->(¬Qz g lo a7 m low high->g^(high-low+1).toNat<=256->∀r' H',AG H H'->Av H' r' g low (Dd g lo a7 m low (high-low+1).toNat) (high-low+1).toNat->Q (.ref r') H')->Fn CW CT vs H Q E
theorem Fo{ns:qW}(h:0<ns.length):Kt (ns.map V.int) (-1)=some (.int (ns.getD (ns.length-1) 0)):=by
 have e:=D0 (ns:=ns) (k:=ns.length-1) (by lia)
 have z:OH (ns.map V.int).length (-1)=some (ns.length-1):=by
  unfold OH;rw[Xf];rw[qE (by decide),qF (by lia)]
  congr 1
  lia
 have y:OH (ns.map V.int).length (((ns.length-1:Nat)):Int)=some (ns.length-1):=by rw[Xf];exact Qv (by lia)
 unfold Kt at e⊢;rw[z];rw[y]at e;exact e
end L2
namespace L2
open PySem PySem.Spec PyProof.Rows
variable{X:Cx}{c:Expr}{es:List Expr}{pos:Pos}{st:Stmt}{tc:TT}{te:TE}{x:Str}
section
variable{t:TA}
theorem AN{i:Int}{j}(hr:PA X es t):PA X (.Constant (.int i) j pos::es) (Dt (tC (.int i)) t):=AA AC hr (by rfl)
end
@[irreducible] def QL (X:Cx) (st:Stmt) (t:TS):Prop:=PS X st t
@[irreducible] def FG (X:Cx) (ss:List Stmt) (t:TS):Prop:=F6 X ss t
section
variable{rest ss:List Stmt}{t u:TS}
theorem QL.of(h:PS X st t):QL X st t:=by unfold QL;exact h
theorem QL.out(h:QL X st t):PS X st t:=by unfold QL at h;exact h
theorem FG.of(h:F6 X ss t):FG X ss t:=by unfold FG;exact h
theorem FG.out(h:FG X ss t):F6 X ss t:=by unfold FG at h;exact h
theorem Bj(h1:QL X st t)(h2:FG X rest u):FG X (st::rest) (NA t u):=.of (AB h1.out h2.out)
theorem GS(h1:QL X st t):FG X [st] t:=.of (AF h1.out)
end
@[irreducible] def On (X:Cx) (e:Expr) (te:TE):Prop:=PE X e te
@[irreducible] def QM (X:Cx) (es:List Expr) (t:TA):Prop:=PA X es t
section
variable{e a b:Expr}{ta tb:TE}{t:TA}
theorem On.of(h:PE X e te):On X e te:=by unfold On;exact h
theorem On.out(h:On X e te):PE X e te:=by unfold On at h;exact h
theorem QM.of(h:PA X es t):QM X es t:=by unfold QM;exact h
theorem QM.out(h:QM X es t):PA X es t:=by unfold QM at h;exact h
theorem GU:QM X [] IC:=.of AD
theorem AU{i:Int}{j}{p:Pos}(hr:QM X es t):QM X (.Constant (.int i) j p::es) (Dt (tC (.int i)) t):=.of (AN hr.out)
theorem GV(h:QM X es t):On X (.List es pos) (Ss t):=.of (Aw h.out)
theorem JJ{r:R2}(hr:Rs X r)(ha:On X a ta)(hb:On X b tb)(hs:L6 b):On X (.Subscript a b pos) (Uj r ta tb):=.of (AK hr ha.out hb.out hs)
theorem Cf{i:Nat}{pos':Pos}(hN:X.N.Nodup)(hi:X.N[i]?=some x)(hx:Rj X.env.scope x)(he:On X e te)(hs:swapsWith e (some (.Name x pos')) pos.line X.env=pure false)(hf:X.fn x=true\/X.env.scope.names.lookup x=some .local):
  QL X (.Assign [.Name x pos'] e pos) (NB te (E1 i)):=.of (FZ hN hi hx he.out hs hf)
theorem LJ{a b:List Stmt}{t u:TS}(hc:PT X c tc)(ha:FG X a t)(hb:FG X b u):QL X (.If c a b pos) (QV tc t u):=.of (Ah hc ha.out hb.out)
theorem JK:FG X [] N5:=.of AV
end
end L2
namespace L2
open PySem
variable{D:Ez}{H:Hp}{M' j:Nat}{low' z:Int}{a7:qW}{σ:St}
noncomputable def EV(x:Int->Int)(lo:Int)(m:Nat):qW:=(List.range m).map λj:Nat=>x (lo+(j:Int))
theorem CM(x:Int->Int)(lo:Int)(m:Nat):(EV x lo m).length=m:=by unfold EV;rw[List.length_map,List.length_range]
theorem FH(x:Int->Int)(lo:Int){m:Nat}(h:j<m):(EV x lo m).getD j 0=x (lo+(j:Int)):=by unfold EV;exact Az h
def MP(g:Int)(x:Int->Int):Prop:=∀z,0<=x z/\x z<g
theorem GW{g:Int}{x:Int->Int}(hx:MP g x)(lo:Int)(m:Nat):∀n∈EV x lo m,0<=n/\n<g:=λn hn=>by unfold EV at hn;obtain⟨j,_,rfl⟩:=Xy.mp hn;exact hx _
noncomputable def IV(g lo:Int)(a7:qW)(m:Nat)(x:Int->Int):Int:=a7.getD (BM g (EV x lo m)).toNat 0
noncomputable def IW(w:qW)(lo:Int):Int->Int:=λz=>sn w (z-lo)
theorem IX{g:Int}(hg:2<=g){w:qW}(hb:∀n∈w,0<=n/\n<g)(lo:Int):MP g (IW w lo):=λz=>SD hg hb _
theorem Q0(w:qW)(low lo:Int)(m:Nat):EV (IW w low) lo m=GA w (lo-low) m:=by unfold EV GA IW;exact YW λj _=>by rw[show lo+(j:Int)-low=lo-low+(j:Int) by lia]
theorem GB(w:qW)(lo:Int):EV (IW w lo) lo w.length=w:=by rw[Q0,Int.sub_self,J8]
theorem FI{g:Int}(hg:2<=g){lo low:Int}{m M:Nat}(hl:(a7.length:Int)=g^m)(hc:∀j,j<m->A1 g a7 (g^(m-1-j))=true->low<=lo+(j:Int)/\lo+(j:Int)<low+(M:Int)){x:Int->Int}(hx:MP g x):IV g low (Dd g lo a7 m low M) M x=IV g lo a7 m x:=by
 unfold IV;have z:=D5 hg lo a7 m low (v:=EV x low M) (GW hx low M);rw[CM]at z;rw[z];refine G5 hg hl (Ep hg (GW hx low M) _ _) (GW hx lo m) (CH ..) (CM ..) λj hj hcj=>?_;obtain⟨a,b⟩:=hc j hj hcj;rw[FD _ _ hj,FH _ _ hj,show lo-low+(j:Int)=(((lo+(j:Int)-low).toNat:Nat):Int) by lia,Fk (by rw[CM];lia),FH _ _ (by lia)]
 congr 1
 lia
def SE(g:Int)(f:(Int->Int)->Int)(z:Int):Prop:=∃x,MP g x/\f x≠f λy=>if y=z then 0 else x y
theorem Wp{g:Int}(hg:2<=g){x:Int->Int}(hx:MP g x)(z:Int):MP g λy=>if y=z then 0 else x y:=λy=>by
 show 0<=(if y=z then 0 else x y)/\(if y=z then 0 else x y)<g;split
 ·lia
 ·exact hx y
theorem J9(x:Int->Int)(lo:Int){m:Nat}(hj:j<m):EV (λy=>if y=lo+(j:Int) then 0 else x y) lo m=(EV x lo m).set j 0:=by
 refine BS (by rw[ZL,CM,CM]) λk hk=>?_;rw[CM]at hk;rw[FH _ _ hk,J7 (by rw[CM];exact hj),FH _ _ hk]
 by_cases e:j=k
 ·subst e;rw[qF rfl,qF rfl]
 ·rw[qE e,qE (by lia)]
theorem GX{g:Int}(hg:2<=g){lo:Int}{m:Nat}(hl:(a7.length:Int)=g^m)(hj:j<m):A1 g a7 (g^(m-1-j))=true↔SE g (IV g lo a7 m) (lo+(j:Int)):=by
 rw[G7 hg hl hj];constructor
 ·rintro⟨w,wl,wb,ne⟩;subst wl;refine⟨IW w lo,IX hg wb lo,?_⟩;unfold IV;rw[J9 _ _ hj,GB];exact ne
 ·rintro⟨x,hx,ne⟩;unfold IV at ne;rw[J9 _ _ hj]at ne;exact⟨_,CM ..,GW hx lo m,ne⟩
theorem Oo{g:Int}{lo:Int}{m:Nat}(h:SE g (IV g lo a7 m) z):∃j:Nat,j<m/\z=lo+(j:Int):=by
 obtain⟨x,hx,ne⟩:=h
 by_cases e:lo<=z/\z<lo+(m:Int)
 ·exact⟨(z-lo).toNat,by lia,by lia⟩
 ·exfalso;apply ne;unfold IV
  congr 3
  unfold EV;refine YW λj hj=>?_;have:=X1.mp hj;show x (lo+(j:Int))=if lo+(j:Int)=z then 0 else x (lo+(j:Int));rw[qE (by lia)]
structure LK(g:Int)(f:(Int->Int)->Int)(low:Int)(M:Nat):Prop where
 one:1<=M
 all:∀z,SE g f z->low<=z/\z<low+(M:Int)
 ends:((∀z,¬SE g f z)/\low=0/\M=1)\/(SE g f low/\SE g f (low+(M:Int)-1))
theorem D6.toF{g:Int}(hg:2<=g){lo:Int}{m:Nat}(hl:(a7.length:Int)=g^m){low:Int}{M:Nat}(h:D6 g lo a7 m low M):LK g (IV g lo a7 m) low M:=by
 refine⟨h.one,λz hz=>?_,?_⟩
 ·obtain⟨j,hj,rfl⟩:=Oo hz;exact h.all j hj ((GX hg hl hj).mpr hz)
 ·rcases h.ends with⟨f,a,b⟩|⟨j0,j1,le,lt,a,b,c0,c1⟩
  ·refine .inl ⟨λz hz=>?_,a,b⟩;obtain⟨j,hj,rfl⟩:=Oo hz;rw[<-GX hg hl hj,f j hj]at hz;cases hz
  ·have d0:=(GX (lo:=lo) hg hl (show j0<m by lia)).mp c0;have d1:=(GX (lo:=lo) hg hl lt).mp c1;refine .inr ⟨a▸d0,?_⟩;rw[show low+(M:Int)-1=lo+(j1:Int) by lia];exact d1
theorem LK.uniq{g:Int}{f:(Int->Int)->Int}{low:Int}{M:Nat}(h:LK g f low M)(h':LK g f low' M'):low=low'/\M=M':=by
 have o:=h.one;have o':=h'.one;rcases h.ends with⟨n,a,b⟩|⟨d0,d1⟩
 ·rcases h'.ends with⟨_,a',b'⟩|⟨d0',_⟩
  ·lia
  ·exact qG d0' (n _)
 ·rcases h'.ends with⟨n',_,_⟩|⟨d0',d1'⟩
  ·exact qG d0 (n' _)
  ·have:=h.all _ d0';have:=h.all _ d1';have:=h'.all _ d0;have:=h'.all _ d1;lia
theorem EM{g:Int}(hg:2<=g){f f':(Int->Int)->Int}(h:∀x,MP g x->f x=f' x)(d:SE g f z):SE g f' z:=by obtain⟨x,hx,ne⟩:=d;refine⟨x,hx,?_⟩;rw[<-h x hx,<-h _ (Wp hg hx z)];exact ne
theorem LK.congr{g:Int}(hg:2<=g){f f':(Int->Int)->Int}(h:∀x,MP g x->f x=f' x){low:Int}{M:Nat}(n:LK g f low M):LK g f' low M:=by
 have h2:∀x,MP g x->f' x=f x:=λx hx=>(h x hx).symm
 refine⟨n.one,λz d=>n.all z (EM hg h2 d),?_⟩;rcases n.ends with⟨a,b,c⟩|⟨a,b⟩
 ·exact .inl ⟨λz d=>a z (EM hg h2 d),b,c⟩
 ·exact .inr ⟨EM hg h a,EM hg h b⟩
def CU(g lo:Int)(a7:qW)(m:Nat)(lo':Int)(tab':qW)(m':Nat):Prop:=∀x,MP g x->IV g lo a7 m x=IV g lo' tab' m' x
theorem TH{g:Int}(hg:2<=g){lo:Int}{a b:qW}{m:Nat}(la:(a.length:Int)=g^m)(lb:(b.length:Int)=g^m)(h:∀x,MP g x->IV g lo a m x=IV g lo b m x):a=b:=by refine LF hg la lb λw wl wb=>?_;subst wl;have z:=h (IW w lo) (IX hg wb lo);unfold IV at z;rw[GB]at z;exact z
variable{lo':Int}{tab':qW}{m':Nat}
theorem De{g:Int}(hg:2<=g){lo:Int}{m:Nat}(hl:(a7.length:Int)=g^m)(hl':(tab'.length:Int)=g^m'){low:Int}{M:Nat}(n:D6 g lo a7 m low M)(n':D6 g lo' tab' m' low' M'):
  CU g lo a7 m lo' tab' m'↔low=low'/\Dd g lo a7 m low M=Dd g lo' tab' m' low' M':=by
 constructor
 ·intro h;obtain⟨e1,e2⟩:=((n.toF hg hl).congr hg h).uniq (n'.toF hg hl');subst e1 e2;refine⟨rfl,TH hg (lo:=low) (Ba hg ..) (Ba hg ..) λx hx=>?_⟩;rw[FI hg hl n.all hx,FI hg hl' n'.all hx];exact h x hx
 ·rintro⟨rfl,e⟩ x hx;have hM:M=M':=by have a:=Ba hg lo a7 m low M;have b:=Ba hg lo' tab' m' low M';rw[e,b]at a;exact EI hg a.symm
  subst hM;rw[<-FI hg hl n.all hx,<-FI hg hl' n'.all hx,e]
theorem KA{g:Int}(hg:2<=g){lo low:Int}{m M:Nat}(hl:(a7.length:Int)=g^m)(h1:low<=lo)(h2:lo+(m:Int)<=low+(M:Int)){x:Int->Int}(hx:MP g x):IV g low (Dd g lo a7 m low M) M x=IV g lo a7 m x:=
 FI hg hl (λj hj _=>by lia) hx
theorem CU.symm{g lo:Int}{m:Nat}(h:CU g lo a7 m lo' tab' m'):CU g lo' tab' m' lo a7 m:=λx hx=>(h x hx).symm
theorem Ap{t u:TS}(h:∀N:St->Hp->Prop,(∀σ' H',u D σ' H'->N σ' H')->t {D with nx:=N} σ H):NA t u D σ H:=h (u D) λ_ _ z=>z
theorem Op(ns:qW):∀ms:qW,(PyData.eqvAll (ns.map PyData.int) (ms.map PyData.int)=true)↔ns=ms:=by
 induction ns with
 |nil =>
  intro ms;cases ms with
  |nil=>simp[PyData.eqvAll]
  |cons b t=>simp[PyData.eqvAll]
 |cons x r ih =>
  intro ms;cases ms with
  |nil=>simp[PyData.eqvAll]
  |cons b t=>simp[PyData.eqvAll,PyData.eqv,ih]
inductive LL(K:qV)(vs:List V)(H:Hp)(Q:VK)(z3_:XK):Prop
 |m (r a:qR) (g lo:Int) (a7:qW) (m:Nat) (low:Int) (ws:qW):vs=[.ref r,.int ((m:Nat):Int),.int low,.ref a]->Av H r g lo a7 m->Af K H a (ws.map V.int)->(∀n∈ws,0<=n/\n<g)->low<=lo->lo+(m:Int)<=low+(ws.length:Int)->Q (.int (a7.getD (BM g (GA ws (lo-low) m)).toNat 0)) H->LL K vs H Q z3_
end L2
namespace L2
open PySem PySem.Spec PyProof.Rows
variable{X:Cx}
theorem NT(bs:List Bool):(List.range bs.length).all (λi=>bs.getD i false)=bs.all id:=by
 rw[Zp,Zg,Zg];constructor
 ·intro h b hb;obtain⟨i,hi,e⟩:=List.getElem_of_mem hb;have z:=h i (X1.mpr hi);rw[Xk,Xj hi,e]at z;exact z
 ·intro h i hi;have hi':=X1.mp hi;rw[Xk,Xj hi'];exact h _ (YY hi')
theorem KB(hc:X.calm=true):CJ X (.builtin "all") (λxs H Q=>∃(p:qR) (bs:List Bool),xs=[.ref p]/\Af X.K H p (bs.map V.bl)/\Q (.bl (bs.all id)) H):=by
 intro a6 s σ H xs us Q I r h;refine byG λGq hGq=>?_;obtain⟨p,bs,rfl,hq,q⟩:=h;refine hGq ?_;clear hGq Gq;obtain⟨u,rfl,rx⟩:=E4 r;cases rx;refine byG λGq hGq=>?_;obtain⟨its,rits,pl,hz⟩:=I.list hq;refine hGq ?_;clear hGq Gq;have hlen:=rits.length;rw[Xf]at hlen;have alt:p<s.heap.objs.size:=by obtain⟨o,e,_⟩:=pl.isList;exact Xm e
 refine call_all_walk (wpAny_pyIter_list pl.isList ?_);have up:∀b o,s.heap.get? b=some o->(s.heap.push {cls:=.type "list_iterator",data:=.fields #[.ref p,.int 0 0]}).get? b=some o:=λb o e=>Xh _ e
 refine⟨s.heap.objs.size,[s.heap.objs.size,p],[s.heap.objs.size],its.toArray.size,_,_,λi=>bs.getD i false,rfl,Walks.list (A:=X.A.in1) (I.ok.hd hc) _ p (YA alt) its.toArray,⟨⟨_,Xs _ rfl,rfl,rfl⟩,pl.isList.at λo e=>up p o e⟩,λi v Q' E' s' hv hq'=>?_,λh' tk kk=>?_⟩
 ·have hv':its[i]?=some v:=by simpa using hv
  have hi:=(Xg.mp hv').1;obtain⟨u2,hu2,ru2⟩:=rits.get (x:=.bl (bs.getD i false)) (i:=i) (by rw[Xl,Xj (by lia),Xk,Xj (by lia)];rfl);rw[hv']at hu2;cases hu2;cases ru2;exact wpAny_truthy_bool hq'
 ·refine⟨.bl (bs.all id),H,I.kept (t':=tk) λb o e=>kk b o (λz=>?_) (up b o e),?_,q⟩
  ·rw[Xu.mp z]at e;exact qG (Xm e) (X8 _)
  ·rw[YS,<-hlen,NT];rfl
end L2
namespace L2
theorem MQ{i j:Int}:NE (.int i) (.int j)=true:=rfl
theorem MR{i j:Bool}:NE (.bl i) (.bl j)=true:=rfl
theorem MS:NE .non .non=true:=rfl
theorem MT{i:Int}:NE (.int i) .non=true:=rfl
end L2
namespace L2
open PySem PySem.Spec PyProof.Rows
variable{E Q:qQ->qS->Prop}{H H':Hp}{T:String}{X:Cx}{a:qR}{h':Heap}{a6:List (qR×Obj)}{pos:Pos}{t':Nat}{u:qQ}{σ:St}
section
variable{κ:Type}[DecidableEq κ]
noncomputable def BN(kvs:List (κ×V))(k:κ):Option V:=(kvs.find? λkv=>decide (kv.1=k)).map (·.2)
noncomputable def CV(kvs:List (κ×V))(k:κ)(v:V):List (κ×V):=
 if (kvs.any λkv=>decide (kv.1=k))=true then kvs.map (λkv=>if kv.1=k then (kv.1,v) else kv) else kvs++[(k,v)]
theorem DN{p:κ×V}{r:List (κ×V)}{k:κ}(e:p.1=k):BN (p::r) k=some p.2:=by simp[BN,List.find?_cons,e]
theorem CN{p:κ×V}{r:List (κ×V)}{k:κ}(e:¬p.1=k):BN (p::r) k=BN r k:=by simp[BN,List.find?_cons,e]
theorem FJ(k:κ):∀kvs:List (κ×V),(kvs.any λkv=>decide (kv.1=k))=(BN kvs k).isSome
 |[]=>rfl
 |p::r=>by
  rw[List.any_cons]
  by_cases e:p.1=k
  ·simp only[DN e,qH e,Bool.true_or,Option.isSome_some]
  ·rw[CN e,qI e,Bool.false_or];exact FJ k r
theorem GC(kvs:List (κ×V))(k:κ)(v:V):(CV kvs k v).length<=kvs.length+1:=by
 unfold CV;split
 ·rw[Xf];lia
 ·rw[Xt,YT,aC];lia
theorem KC{kvs:List (κ×V)}{k:κ}(v:V)(h:BN kvs k=none):CV kvs k v=kvs++[(k,v)]:=by unfold CV;rw[FJ,h];exact qE (by decide)
theorem Ge.isSome_eq{o:Option V}{u:Option qQ}(r:Ge o u):o.isSome=u.isSome:=by
 cases o with
 |none=>cases u with
  |none=>rfl
  |some _=>exact (show False from r).elim
 |some _=>cases u with
  |none=>exact (show False from r).elim
  |some _=>rfl
theorem KV.val{kvs:List (κ×V)}{vs:List (κ×qQ)}(r:KV kvs vs)(k:κ):Ge (BN kvs k) (valueAt vs k):=by
 unfold KV at r
 induction r with
 |nil=>exact True.intro
 | @cons p q ps qs h t ih =>
  obtain⟨h1,h2⟩:=h
  by_cases e:p.1=k
  ·have e':q.1=k:=h1.symm.trans e;have b:valueAt (q::qs) k=some q.2:=by simp[valueAt,List.find?_cons,e']
   rw[DN e,b];exact h2
  ·have e':¬q.1=k:=λz=>e (h1.trans z)
   have b:valueAt (q::qs) k=valueAt qs k:=by simp[valueAt,List.find?_cons,e']
   rw[CN e,b];exact ih
theorem KV.any{kvs:List (κ×V)}{vs:List (κ×qQ)}(r:KV kvs vs)(k:κ):(kvs.any λkv=>decide (kv.1=k))=vs.any λkv=>decide (kv.1=k):=by
 unfold KV at r
 induction r with
 |nil=>rfl
 |cons h t ih=>rw[List.any_cons,List.any_cons,ih,h.1]
theorem KV.repl{kvs:List (κ×V)}{vs:List (κ×qQ)}(r:KV kvs vs)(k:κ){y:V}(ry:A4 y u):
  KV (kvs.map λkv=>if kv.1=k then (kv.1,y) else kv) (vs.map λkv=>if kv.1=k then (kv.1,u) else kv):=by
 unfold KV at r⊢
 induction r with
 |nil=>exact .nil
 | @cons p q ps qs h t ih =>
  rw[Yg,Yg];refine .cons ?_ ih;obtain⟨h1,h2⟩:=h
  by_cases e:p.1=k
  ·rw[qF e,qF (h1.symm.trans e)];exact⟨h1,ry⟩
  ·rw[qE e,qE (λz=>e (h1.trans z))];exact⟨h1,h2⟩
theorem KV.put{kvs:List (κ×V)}{vs:List (κ×qQ)}(r:KV kvs vs)(k:κ){y:V}(ry:A4 y u):KV (CV kvs k y) (stored vs k u):=by
 unfold CV stored;rw[r.any k]
 by_cases e:(vs.any λkv=>decide (kv.1=k))=true
 ·rw[qF e,qF e];exact r.repl k ry
 ·rw[qE e,qE e];exact Paired.snoc r ⟨rfl,ry⟩
theorem KV.length{kvs:List (κ×V)}{vs:List (κ×qQ)}(r:KV kvs vs):kvs.length=vs.length:=Paired.length r
end
theorem SF{P:qT}{w:qU}{k:BQ}(r:A4 (kV k) u):(Au P w).is k u=true:=by
 cases k with
 |inl i=>obtain⟨t,e⟩:=(show ∃t,u=Value.int i t from r);subst e;exact Jk P w i t
 |inr x=>obtain⟨t,e⟩:=(show ∃t,u=Value.str x t from r);subst e;exact Jl P w x t
theorem IY{P:qT}{w:qU}:∀{ks:List BQ} {us:List qQ},Aq (ks.map kV) us->ItemsAre (Au P w) ks us
 |[],_,r=>by rw[List.map_nil]at r;cases r;exact .nil
 |k::ks,_,r=>by
  rw[Yg]at r;cases r with
  |cons h t=>exact .cons (SF h) (IY t)
section
variable{P:qT}{w:qU}{h:Heap}
theorem VD{u:HO}(ok:Dk P w H h)(e:Rd H a u):Ag P w H h a u:=e.ok ok
theorem SG{kvs:List (BQ×V)}(ok:Dk P w H h)(e:Rd H a (.dK kvs)):kvs.length<=sizeLine/\(a==sysModules)=false/\∃vs,KV kvs vs/\h.DictOf (Au P w) a vs:=
 show Ag P w H h a (.dK kvs) from VD ok e
theorem VE{kvs:List (BQ×V)}(ok:Dk P w H h)(e:H a=some (.dK kvs)):kvs.length<=sizeLine/\(a==sysModules)=false/\∃vs,KV kvs vs/\h.DictOf (Au P w) a vs:=SG ok (.inl e)
end
section
variable{s:qS}{y v:V}{r:qQ}{o:Option V}{A:Around}
theorem AR.big(I:AR X a6 σ H s):sysModules<s.heap.objs.size:=by have h:mainGlobals<s.heap.objs.size:=(I.mod.glob.keeps I.bk).lt;exact Nat.lt_trans (by decide) h
theorem MU{ob:HO}(I:AR X a6 σ H s)(mu:Uq (H a))(hs:Heap.SameBut a s.heap h')(he:∃q,h'.get? a=some q)(new:Ag X.prog X.w (AT H a ob) h' a ob):
  AR X a6 σ (AT H a ob) {s with heap:=h',toks:=t'}:=
 I.write (x:=a) (e:=a) mu (.inl rfl) (λb q hb z=>(hs.2 b hb).trans z) he new
theorem TJ{P:qT}{w:qU}{kvs:List (BQ×V)}{vs:List (BQ×qQ)}(z:kvs.length<=sizeLine)(hd:(a==sysModules)=false)(rel:KV kvs vs)(dd:h'.DictOf (Au P w) a vs):
  Ag P w H' h' a (.dK kvs):=⟨z,hd,vs,rel,dd⟩
end
def TK(i:Expr):Prop:=∀ov iv,subscripted i false ov iv=operate [ov,iv] (getItem ov iv)
theorem Q3{prog:qT}{w:qU}{A:Around}{s:qS}{env:Env}{value slice:Expr}{id:String}
  (hl:typeLookup (.type T) "__getitem__"=pure (some (.builtin id))) (hs:TK slice)
  (h:wpAny (model prog w) A (eval value env) (λo s₁=>wpAny (model prog w) A (eval slice env) (λi s₂=>s₂.TypeIs o T/\wpAny (model prog w) A (getItem o i) Q E s₂) E s₁) E s):
  wpAny (model prog w) A (eval (.Subscript value slice pos) env) Q E s:=by
 refine Subscript_ (qM h (λo s₁ h₁=>qM h₁ (λi s₂ h₂=>?_) λ_ _ x=>x) λ_ _ x=>x);obtain⟨hT,h₂⟩:=h₂;unfold subscriptTail;refine qC ?_;rw[getitemInPython_of_ne hT.not_modules];refine qC (wpAny_specialOf hT hl ?_)
 have fin:wpAny (model prog w) A (subscripted slice false o i) (λr s₃=>wpAny (model prog w) A (letTemporaryGo value o r >>= λ_=>pure r) Q E s₃) E s₂:=by rw[hs o i];exact wpAny_operating (qM h₂ (λr s₃ h₃=>qC (wpAny_letTemporaryGo (qD h₃))) λ_ _ x=>x)
 first
  |exact qD (qC fin)
  |exact qC (qD (qC fin))
  |exact qC fin
theorem Oq{P:qT}{w:qU}(h:Heap)(hb:sysModules<h.objs.size):Ag P w H (h.push {cls:=.type "dict",data:=.dict #[]}) h.objs.size (.dK []):=
 ⟨X4 _,beq_eq_false_iff_ne.mpr (Ne.symm (YA hb)),[],.nil,Heap.DictOf.new h⟩
def TL:TE:=λ_ H Q=>∀p,H p=none->Q (.ref p) (AT H p (.dK []))
theorem Os:PE X (.Dict [] [] pos) TL:=λa6 s σ H Q I h =>
 wpAny_Dict_empty ⟨.ref s.heap.objs.size,_,I.laid (a:=s.heap.objs.size) (o:=.dK []) (t':=s.toks) (λ_ _ q=>Xh _ q) (Xi _) (Oq s.heap I.big),rfl,h _ (I.hok.fresh (Xi _))⟩
noncomputable def Ot:List (TE×TE)->St->Hp->(List (V×V)->Hp->Prop)->Prop
 |[],_,H,Q=>Q [] H
 | (tk,tv)::r,σ,H,Q=>tk σ H λx H1=>tv σ H1 λy H2=>Ot r σ H2 λps H3=>Q ((x,y)::ps) H3
abbrev VV:List (V×V)->List (qQ×qQ)->Prop:=Paired λp q=>A4 p.1 q.1/\A4 p.2 q.2
def Wq(X:Cx)(pos:Pos)(keys:List (Option Expr))(values:List Expr)(trs:List (TE×TE)):Prop:=
 ∀(a6:List (qR×Obj)) (s:qS) (σ:St) (H:Hp) (Q:List (V×V)->Hp->Prop),AR X a6 σ H s->Ot trs σ H Q ->
  wpAny (model X.prog X.w) X.A (evalPairs (pairTrees keys values X.env pos)) (λvs s'=>∃ps H',AR X a6 σ H' s'/\VV ps vs/\Q ps H') X.xe s
theorem Q4:Wq X pos [] [] []:=λa6 s σ H Q I h=>pairTrees_nil_walk ⟨[],H,I,.nil,h⟩
theorem Ou{k v:Expr}{ks:List (Option Expr)}{vs:List Expr}{tk tv:TE}{trs:List (TE×TE)}(hk:PE X k tk)(hv:PE X v tv)(hr:Wq X pos ks vs trs):
  Wq X pos (some k::ks) (v::vs) ((tk,tv)::trs):=λa6 s σ H Q I h =>
 pairTrees_cons_walk (BJ (hk a6 s σ H _ I h) λu s1 ⟨x,H1,I1,rx,q1⟩=>BJ (hv a6 s1 σ H1 _ I1 q1) λw2 s2 ⟨y,H2,I2,ry,q2⟩ =>
  BJ (hr a6 s2 σ H2 _ I2 q2) λws s3 ⟨ps,H3,I3,rel,q3⟩=>⟨(x,y)::ps,H3,I3,.cons ⟨rx,ry⟩ rel,q3⟩)
end L2
namespace PySem
section
variable{prog:qT}{w:qU}{K:Type}[DecidableEq K]{knd:HeapKind prog w K}{A:Around}{E:qQ->qS->Prop}{s:qS}
theorem setDef_heap{dd b:qR}{ents:List (K×qR×qQ)}{key:K}{dv:qQ}{Q:qQ->qS->Prop}(room:knd.room A)(isk:knd.is s.heap key b)(dof:s.heap.DictOfH knd dd ents)(few:ents.length<=sizeLine)
  (old:∀p,atKey ents key=some p->Q p.2 {s with toks:=s.toks+knd.draws key})
  (new:atKey ents key=none->∀hp,hp.DictOfH knd dd (storedH ents key b dv)->Heap.SameBut dd s.heap hp->Q dv {s with heap:=hp,toks:=s.toks+knd.draws key}):
  wpAny (model prog w) A (dictSetDefault dd (.ref b) dv) Q E s:=by
 refine byG λGq hGq=>?_;obtain⟨ob,rows,ep,got,cls,dat,rowsE,each,once⟩:=dof;refine hGq ?_;clear hGq Gq;unfold dictSetDefault
 try with_reducible refine qO ?_
 refine qC (knd.pyHash room isk (qC (wpAny_dictFind_heap (s:={s with toks:=s.toks+knd.draws key}) room isk got dat rowsE each once (λnowhere=>?_) (λj p there=>?_))))
 ·have none':=atKey_none_of_get nowhere;have newE:=storedH_new (a:=b) (v:=dv) none';have rz:=size_of_entries rowsE;refine qC (wpAny_rule (qC (wpAny_updateDictKeys (hz:=by lia) (s:={s with toks:=s.toks+knd.draws key}) got dat (qD ?_))));refine new none' _ ⟨_,_,ep+1,Heap.get?_update_self _ got (Obj.isFreed_of_dict (Obj.data_mapDictKeys dat _)),cls.mapDictKeys _,Obj.data_mapDictKeys dat _,?_,?_,?_⟩ (Heap.SameBut.update ..)
  ·rw[newE];simp[rowsE,entryOfKey]
  ·rw[newE];intro x hx;rcases Xr.mp hx with z|z
   ·exact knd.keeps (each x z) got dat (Heap.SameBut.update ..)
   ·rw[Xu.mp z];exact knd.keeps isk got dat (Heap.SameBut.update ..)
  ·rw[newE,Xp,Yh];refine⟨once,by simp,λx hx y hy e=>?_⟩;have:y=key:=by simpa using hy
   exact not_mem_keys_of_get nowhere (by rw[<-this,<-e];exact hx)
 ·refine qC (wpAny_dictEntries (s:={s with toks:=s.toks+knd.draws key}) got dat ?_);rw[entry_at rowsE j,there];exact qC (wpAny_rule (qD (old p (atKey_of_get once there))))
end
section
variable{prog:qT}{w:qU}{K:Type}[DecidableEq K](knd:HeapKind prog w K)(dd b:qR)
theorem meetsH_setDef(hm:(dd==sysModules)=false)(dv:qQ):
  MeetsIn prog w (Builtin.«dict.setdefault» ⟨[.ref dd,.ref b,dv],[]⟩) (λA R s=>knd.room A.in1/\∃key ents,knd.is s.heap key b/\s.heap.DictOfH knd dd ents/\ents.length<=sizeLine /\
   (∀p,atKey ents key=some p->R (.ok (.ret p.2)) {s with toks:=s.toks+knd.draws key}) /\
   (atKey ents key=none->∀hp,hp.DictOfH knd dd (storedH ents key b dv)->Heap.SameBut dd s.heap hp->R (.ok (.ret dv)) {s with heap:=hp,toks:=s.toks+knd.draws key})):=
 .of_wp λA R s h=>by obtain⟨room,key,ents,isk,dof,few,old,new⟩:=h;unfold Builtin.«dict.setdefault»;refine qC ?_;unfold Builtin.Dict.keyAndDefault;refine qC (wpAny_notOrdered_dict dof.typeIs ?_);show wpAny _ _ (pure (dd,Value.ref b,some dv)) _ _ s;refine qD ?_;show wpAny _ _ (if (dd==sysModules)=true then _ else (dictSetDefault dd (.ref b) dv >>= _)) _ _ s;rw[qE (by rw[hm];decide)];exact qC (setDef_heap room isk dof few (λp z=>qD ⟨_,rfl,old p z⟩) λz hp d2 sb=>qD ⟨_,rfl,new z hp d2 sb⟩)
end
end PySem
namespace L2
open PySem PySem.Spec PyProof.Rows
variable{X:Cx}{cl:List (Str×qR)}{es:List Expr}{fd:FuncData}{pos:Pos}{ps:List Str}{qual x:Str}{scope:Scope}{sp:Sp}{st:Stmt}{te:TE}{tt:TT}
section
variable{p:List qQ->Prop}
theorem b0(h:p []):∀us:List qQ,us.length=0->p us:=λus e=>by cases us with
 |nil=>exact h
 |cons a r=>cases e
theorem b1(h:∀a,p [a]):∀us:List qQ,us.length=1->p us:=λus e=>by cases us with
 |nil=>cases e
 |cons a r=>exact b0 (p:=λl=>p (a::l)) (h a) r (Nat.succ.inj e)
theorem b2(h:∀a b,p [a,b]):∀us:List qQ,us.length=2->p us:=λus e=>by cases us with
 |nil=>cases e
 |cons a r=>exact b1 (p:=λl=>p (a::l)) (h a) r (Nat.succ.inj e)
theorem b3(h:∀a b c,p [a,b,c]):∀us:List qQ,us.length=3->p us:=λus e=>by cases us with
 |nil=>cases e
 |cons a r=>exact b2 (p:=λl=>p (a::l)) (h a) r (Nat.succ.inj e)
theorem b4(h:∀a b c d,p [a,b,c,d]):∀us:List qQ,us.length=4->p us:=λus e=>by cases us with
 |nil=>cases e
 |cons a r=>exact b3 (p:=λl=>p (a::l)) (h a) r (Nat.succ.inj e)
end
noncomputable def XZ(N P:List Str)(sc:Scope):Bool:=decide (sc.kind=.function)&&!sc.isCoroutine&&!sc.isGenerator&&decide N.Nodup&&decide (N.take P.length=P) &&
 P.all (λx=>decide (sc.names.lookup x=some .local\/sc.names.lookup x=some .cell))&&sc.names.all λy=>decide (y.2≠.free)
theorem B6{N P:List Str}{sc:Scope}(h:XZ N P sc=true:=by decide +kernel):AL N P sc:=by unfold XZ at h;simp only[Bool.and_eq_true,decide_eq_true_eq,Bool.not_eq_true',List.all_eq_true]at h;obtain⟨⟨⟨⟨⟨⟨a,b⟩,c⟩,d⟩,e⟩,f⟩,g⟩:=h;exact⟨a,b,c,d,e,f,g⟩
section
variable{P:qT}{w:qU}{K:qV}{mg:Str->Option qQ}{base:Heap}{f:qR}{N:List Str}{k:Nat}
theorem Bh.okY(F:Bh K x qual st f fd)(S:AL N ps (AI st)) (h:∀vs H Q E,sp vs H Q E->vs.length=ps.length /\
  ∀(ae:qQ) (A:Around) (outer:List Env) (s:qS),Bg k (A.deeper (envOfC qual (AI st) s.heap.objs.size f ae)) ->
   ∃t,F6 (Dr (IQ P w) P w K mg base N qual (AI st) f ae A outer s H E).nox (BW st) t/\t {nx:=λ_ H'=>Q .non H',rt:=Q} (CK N vs) H):Fc P w K mg base (IQ P w) (k+1) f fd ps sp:=
 F.ok0 S (λvs H Q E q=>(h vs H Q E q).1) λae A outer s H vs Q E hr q=>(h vs H Q E q).2 ae A outer s hr
theorem Aj(D:∃fd,Bh K x qual st f fd)(S:AL N ps (AI st)) (h:∀vs H Q E,sp vs H Q E->vs.length=ps.length /\
  ∀(ae:qQ) (A:Around) (outer:List Env) (s:qS),Bg k (A.deeper (envOfC qual (AI st) s.heap.objs.size f ae)) ->
   ∃t,F6 (Dr (IQ P w) P w K mg base N qual (AI st) f ae A outer s H E).nox (BW st) t/\t {nx:=λ_ H'=>Q .non H',rt:=Q} (CK N vs) H) (bd:Dw x qual st ps:=by first|exact λ_ _ _ _ _ _=>b1 λ_=>rfl|exact λ_ _ _ _ _ _=>b2 λ_ _=>rfl|exact λ_ _ _ _ _ _=>b3 λ_ _ _=>rfl|exact λ_ _ _ _ _ _=>b4 λ_ _ _ _=>rfl):Ak P w K mg base (k+1) f ps sp:=
 Qp D S bd (λvs H Q E q=>(h vs H Q E q).1) λae A outer s H vs Q E hr q=>(h vs H Q E q).2 ae A outer s hr
theorem KD(D:∃fd,Bh K x qual st f fd)(S:AL N ps (AI st)) (h:∀vs H Q E,sp vs H Q E->vs.length=ps.length /\
  ∀(ae:qQ) (A:Around) (outer:List Env) (s:qS),Bg k (A.deeper (envOfC qual (AI st) s.heap.objs.size f ae)) ->
   ∃t,F6 (Dr (IQ P w) P w K mg base N qual (AI st) f ae A outer s H E) (BW st) t/\t {nx:=λ_ H'=>Q .non H',rt:=Q} (CK N vs) H) (bd:Dw x qual st ps:=by first|exact λ_ _ _ _ _ _=>b1 λ_=>rfl|exact λ_ _ _ _ _ _=>b2 λ_ _=>rfl|exact λ_ _ _ _ _ _=>b3 λ_ _ _=>rfl|exact λ_ _ _ _ _ _=>b4 λ_ _ _ _=>rfl):Ak P w K mg base (k+1) f ps sp:=
 Qq D S bd (λvs H Q E q=>(h vs H Q E q).1) λae A outer s H vs Q E hr q=>(h vs H Q E q).2 ae A outer s hr
end
section
variable{e elt iter:Expr}{t:TA}{pos' p px:Pos}{N:List Str}{sc:Scope}{i k k':Nat}{f:qR}{fv:List (Nat×Str)}{ifs:List Expr}{wi:TI}
theorem AS(hr:Bg k' X.A)(G:Ak X.prog X.w X.K X.mg X.base k f ps sp)(hm:X.mg x=some (.ref f))(ha:PA X (e::es) t)(hk:k<=k':=by decide)(hg:Gl X x:=by rfl)
  (hdb:(x==("__debug__":Str))=false:=by decide) (he:starEach (e::es) X.env=(false,eval e X.env)::starEach es X.env:=by rfl) (hpl:(backTo pos (starEach es X.env)).any (·.1)=false:=by rfl):
  PE X (.Call (.Name x p) (e::es) [] pos) (JB sp [] (λ_=>E0) t):=CL G (hr.mono hk) hg hm U7 ha hdb he hpl
theorem AW(i:Nat)(S:AL X.N ps sc)(he:PE X e te)(hi:X.N[i]?=some x:=by rfl)(hx:Rj X.env.scope x:=by first|exact Or.inl rfl|exact Or.inr rfl)(hs:swapsWith e (some (.Name x pos')) pos.line X.env=pure false:=by rfl)
  (hf:X.fn x=true\/X.env.scope.names.lookup x=some .local:=by first|exact .inl rfl|exact .inr rfl|assumption):PS X (.Assign [.Name x pos'] e pos) (NB te (E1 i)):=FZ S.nd hi hx he hs hf
theorem A5(i:Nat)(S:AL X.N ps sc)(hi:X.N[i]?=some x:=by rfl)(hx:Rj X.env.scope x:=by first|exact Or.inl rfl|exact Or.inr rfl)
  (hf:X.fn x=true\/X.env.scope.names.lookup x=some .local:=by first|exact .inl rfl|exact .inr rfl|assumption):PG X (.Name x pos) (E1 i):=GN S.nd hi hx hf
theorem MV(fv:List (Nat×Str))(cl:List (Str×qR))(hi:PI X (.Name x px) iter wi)(hf:∀s H C fp,PF (Dl X s H (compEnvC scope cl C X.env) fp (x::fv.map (·.2))) ifs tt)(he:∀s H C fp,PE (Dl X s H (compEnvC scope cl C X.env) fp (x::fv.map (·.2))) elt te)
  (hclos:closureFor scope X.env=pure cl:=by with_unfolding_all rfl) (hcell:∀y∈scope.names,y.2≠.cell:=by decide +kernel) (hk:scope.kind=.function:=by rfl) (hnames:∀z∈scope.names,z.2=.local->scope.names.lookup z.1=some .local:=by decide +kernel)
  (hx:scope.names.lookup x=some .local:=by rfl) (hcl:GH X.env cl:=by repeat' first|exact trivial|with_unfolding_all rfl|constructor) (hhas:((relabel scope X.env).names.all λz=>!(z.2==.cell||z.2==.free)||(cl.lookup z.1).isSome)=true:=by with_unfolding_all rfl)
  (hfv:Gu X scope cl fv:=by repeat' first|exact trivial|with_unfolding_all rfl|constructor) (hnd:(x::fv.map (·.2)).Nodup:=by decide) (hc:X.calm=true:=by rfl) (hs:∀x,foldedSetIterable iter X.env x=pure x:=by intro _;rfl):
  PE X (.ListComp elt [⟨.Name x px,iter,ifs,0⟩] scope pos) (Oe wi fv tt te):=Qt hc hi hclos hcell hk hnames hx hcl hhas hfv hnd hf he hs
end
end L2
namespace PySem
open Sem (wp)
section
variable{prog:qT}{w:qU}{A:Around}{E:qQ->qS->Prop}{s:qS}
theorem collect_rng{Q:List qQ->qS->Prop}{r:qR}{a b c:Int}{t u v:Tok}{n:Nat}(hh:A.handled=none)(hr:IsRange s.heap r a b c t u v)(sm:Builtin.Range.small a b c=true)(hn:Builtin.Range.rangeSize a b c=n)(hz:n<=2^24)
  (q:∀(h':Heap) (tk:Nat) (ad:Array qQ),(∀b o,s.heap.get? b=some o->h'.get? b=some o)->ItemsOf (λi v=>∃t,v=.int (a+i*c) t) ad n->Q ad.toList {s with heap:=h',toks:=tk}):wpAny (model prog w) A (collect (.ref r)) Q E s:=by
 unfold collect;apply qC;apply wpAny_runValue;refine codeAny_builtin F.entry_proto_collect ?_;rw[A.under_plainId F.plain_proto_collect];show wpAny _ A.in1 (newList [] >>= λz=>again (.builtin "list.__iadd__" ⟨[z,.ref r],[]⟩)) _ _ s;apply qC;refine wpAny_newObj_type ?_;apply qD;refine⟨plainId_quiet F.plain_list_iadd _,?_⟩;refine codeAny_builtin F.entry_list_iadd ?_;rw[A.under_plainId F.plain_list_iadd];generalize hS:s.heap.objs.size=S;generalize hG:s.heap.push {cls:=.type "list",data:=.seq ([]:List qQ).toArray}=G;have gS:G.get? S=some {cls:=.type "list",data:=.seq #[] 0}:=by rw[<-hG,<-hS];exact Xs _ rfl
 have gk:∀b o,s.heap.get? b=some o->G.get? b=some o:=λb o e=>by rw[<-hG];exact Xh _ e
 show wpAny _ A.in1 (Builtin.List.listExtendWith (.ref S) (.ref r) (.ref S)) _ _ _;refine qM (wpAny_extend_range (A:=A) (s:={s with heap:=G}) (R:=λx s'=>x=.ok (.ret (.ref S))/\∃(h':Heap) (tk:Nat) (ad:Array qQ) (c':Nat),s'={s with heap:=h',toks:=tk}/\(∀b o,s.heap.get? b=some o->h'.get? b=some o)/\h'.get? S=some {cls:=.type "list",dict:=none,data:=.seq ad c',slots:=#[]}/\ItemsOf (λi v=>∃t,v=.int (a+i*c) t) ad n) hh (gk _ _ hr) sm hn hz S (.ref S) 0 gS λh' tk ad c' hk hS' hacc=>⟨rfl,h',tk,ad,c',rfl,λb o e=>hk b o (λz=>?_) (gk b o e),hS',hacc⟩) (λfin s' h=>?_) (λe s' h=>?_)
 ·have:=Xm e;rw[z,hS]at this;exact X8 _ this
 ·have last:∀(x:Result) (s':qS),(x=.ok (.ret (.ref S))/\∃(h':Heap) (tk:Nat) (ad:Array qQ) (c':Nat),s'={s with heap:=h',toks:=tk}/\(∀b o,s.heap.get? b=some o->h'.get? b=some o)/\h'.get? S=some {cls:=.type "list",dict:=none,data:=.seq ad c',slots:=#[]}/\ItemsOf (λi v=>∃t,v=.int (a+i*c) t) ad n)->wpAny (model prog w) A (match Value.ref S with
    |Value.ref a=>do
     match (<-load a).data with
      |Data.seq xs _=>pure xs.toList
      |_=>unsupported "internal:collect"
    |_=>unsupported "internal:collect") Q E s':=by
   intro x s' hRq;refine byG λGq hGq=>?_;obtain⟨rfl,h',tk,ad,c',rfl,hk,hS',hacc⟩:=hRq;refine hGq ?_;clear hGq Gq;show wpAny _ A (load S >>= _) _ _ _;apply qC;refine wpAny_load hS' ?_;exact qD (q h' tk ad hk hacc)
  cases fin with
  |done f =>
   have e:=h.1;cases e;exact last _ _ h
  |again c'=>exact⟨h.1,codeAny_mono h.2 λx s2 hx=>by have e:=hx.1;subst e;exact last _ _ hx⟩
 ·exact nomatch h.1
end
end PySem
namespace L2
open PySem PySem.Spec PyProof.Rows RW
end L2
namespace L2
open PySem PySem.Spec PyProof.Rows
variable{D:Ez}{H:Hp}{X:Cx}{a:qR}{elts:List Expr}{h':Heap}{a6:List (qR×Obj)}{t':Nat}{ta:TA}{tpos:Pos}{xs:List V}{σ:St}
section
variable{s:qS}
theorem AR.turnedAll{ch:List qR}(I:AR X a6 σ H s)(hf:∀b∈ch,CS X a6 H b)(k:∀b u,b∉ch->s.heap.get? b=some u->h'.get? b=some u):AR X a6 σ H {s with heap:=h',toks:=t'}:=by
 have nit:∀b u,H b=some u->b∉ch:=λb u e z=>by rw[(hf b z).1]at e;cases e
 refine I.step (g':=s.gens) (d':=s.drawn) (ch:=ch) (λb hb=>⟨(hf b hb).2.2.2.1,(hf b hb).2.1,(hf b hb).2.2.2.2.1,(hf b hb).2.2.2.2.2⟩) (λb u _ _ hc e _=>k b u hc e) (λb u _ _ hc e _=>⟨u.slots,k b u hc e⟩)
  (λb u _ e n=>n) (λb u hc e=>⟨u,k b u hc e⟩) (λb xs e=>e) (λb u v e=>e) (λb ps e=>⟨#[],by rw[e];simp⟩) (λm hm=>?_) (λb u e=>?_) I.bare
 ·obtain⟨o,es,ep,ho,r⟩:=hm;exact⟨o,es,ep,k _ o (λz=>(hf _ z).2.1 rfl) ho,r⟩
 ·refine (I.hok b u e).stay (λc v hc q=>k c v ?_ q) (λc q=>q) λc xs q=>q
  rcases hc with y|y
  ·rw[y];exact nit b u e
  ·exact nit c _ y
end
noncomputable def VF(K:qV)(a b:qR):It:=
 ⟨λi H=>∃xs ys x y,Af K H a xs/\Af K H b ys/\xs[i]?=some x/\ys[i]?=some y,
   λi H v H'=>∃p x y,v=.ref p/\H p=none/\H'=AT H p (.tup [x,y])/\(∀xs,Af K H a xs->xs[i]?=some x)/\∀ys,Af K H b ys->ys[i]?=some y,
   λi H=>∃xs ys,Af K H a xs/\Af K H b ys/\(xs.length<=i\/ys.length<=i)⟩
theorem Ov{P:qT}{w:qU}{K:qV}{ctx}(a b z TI TO i1 i2:qR)(D:ZipApart z TI TO i1 i2 a b):
  IB P w K (.Tuple elts ctx tpos) (VF K a b) [z,TI,TO,i1,i2] z (λi h=>IsZip h z TI TO .none/\IsPair h TI (.ref i1) (.ref i2)/\(∃p q,IsPair h TO p q)/\h.IsListIter i1 a i/\h.IsListIter i2 b i) where
 mem:=by simp
 obj:=λi h st c hc=>by
  refine byG λGq hGq=>?_;obtain⟨q1,q2,⟨_,_,q3⟩,⟨o1,e1,c1,d1⟩,⟨o2,e2,c2,d2⟩⟩:=st;refine hGq ?_;clear hGq Gq;simp only[List.mem_cons,List.not_mem_nil,or_false]at hc;rcases hc with rfl|rfl|rfl|rfl|rfl
  ·exact⟨_,q1,λv y=>by cases y⟩
  ·exact⟨_,q2,λv y=>by cases y⟩
  ·exact⟨_,q3,λv y=>by cases y⟩
  ·exact⟨o1,e1,λv y=>by rw[d1]at y;cases y⟩
  ·exact⟨o2,e2,λv y=>by rw[d2]at y;cases y⟩
 keep:=λi h h' st k=>by refine byG λGq hGq=>?_;obtain⟨q1,q2,⟨p,q,q3⟩,l1,l2⟩:=st;refine hGq ?_;clear hGq Gq;exact⟨k z (by simp) _ q1,k TI (by simp) _ q2,⟨p,q,k TO (by simp) _ q3⟩,l1.at λo y=>k i1 (by simp) o y,l2.at λo y=>k i2 (by simp) o y⟩
 item:=by
  intro X hP hw hK hc i a6 s σ H E I hf st hg;subst hP hw hK;refine byG λGq hGq=>?_;obtain⟨xs,ys,x,y,hq1,hq2,hx,hy⟩:=hg;refine hGq ?_;clear hGq Gq;refine byG λGq hGq=>?_;obtain⟨its1,rv1,p1,_⟩:=I.list hq1;refine hGq ?_;clear hGq Gq;refine byG λGq hGq=>?_;obtain⟨its2,rv2,p2,_⟩:=I.list hq2;refine hGq ?_;clear hGq Gq;obtain⟨u1,hu1,ru1⟩:=rv1.get hx;obtain⟨u2,hu2,ru2⟩:=rv2.get hy;refine byG λGq hGq=>?_;obtain⟨q1,q2,⟨p,q,q3⟩,l1,l2⟩:=st;refine hGq ?_;clear hGq Gq;refine wpAny_pyNext_zip_item D q1 q2 q3 l1 l2 p1.isList p2.isList (x:=u1) (y:=u2) (by simpa using hu1) (by simpa using hu2) λh1 z1 t1 m1 m2 tt hsz k1=>?_;refine⟨_,rfl,wpAny_letOwnedTupleGo_zip z1 λh2 z2 sb=>?_⟩
  have k2:∀c o,c∉[z,TI,TO,i1,i2]->s.heap.get? c=some o->h2.get? c=some o:=λc o hc e=>by
   have n1:c≠z:=λy=>hc (by simp[y])
   exact (sb.2 c n1).trans (k1 c o n1 (λy=>hc (by simp[y])) (λy=>hc (by simp[y])) (λy=>hc (by simp[y])) e)
  have hpz:s.heap.objs.size≠z:=ZO (Xm q1);have tt2:IsPair h2 s.heap.objs.size u1 u2:=(sb.2 _ hpz).trans tt;have hn:H s.heap.objs.size=none:=I.hok.fresh (Xi _);have q2':IsPair h2 TI (.ref i1) (.ref i2):=(sb.2 TI D.TIz).trans (k1 TI _ D.TIz D.TITO D.TIi1 D.TIi2 q2);refine⟨.ref s.heap.objs.size,AT H s.heap.objs.size (.tup [x,y]),I.turnedNew (h':=h2) (t':=s.toks) hf k2 (Xi _) ?_,rfl,⟨_,x,y,rfl,hn,rfl,λys' h=>by rw[I.list_inj h hq1];exact hx,λys' h=>by rw[I.list_inj h hq2];exact hy⟩,⟨z2,q2',⟨u1,u2,(sb.2 TO D.TOz).trans t1⟩,m1.at λo e=>(sb.2 i1 D.i1z).trans e,m2.at λo e=>(sb.2 i2 D.i2z).trans e⟩,λc hc=>?_⟩
  ·exact⟨by show 2<=sizeLine;decide,[u1,u2],.cons ru1 (.cons ru2 .nil),⟨_,tt2,rfl,_,rfl⟩⟩
  ·have c0:=(hf c hc).1;rw[AJ λe=>?_]
   ·exact c0
   ·obtain⟨o1,e1,_⟩:=id l1;obtain⟨o2,e2,_⟩:=id l2;have bad:∀{o:Obj},s.heap.get? c=some o->False:=λg=>qG (Xm g) (by rw[e];exact X8 _)
    simp only[List.mem_cons,List.not_mem_nil,or_false]at hc;rcases hc with y|y|y|y|y
    ·exact bad (y▸q1)
    ·exact bad (y▸q2)
    ·exact bad (y▸q3)
    ·exact bad (y▸e1)
    ·exact bad (y▸e2)
 done:=by
  intro X hP hw hK hc i a6 s σ H E I hf st hg;subst hP hw hK;refine byG λGq hGq=>?_;obtain⟨xs,ys,hq1,hq2,hend⟩:=hg;refine hGq ?_;clear hGq Gq;refine byG λGq hGq=>?_;obtain⟨its1,rv1,p1,_⟩:=I.list hq1;refine hGq ?_;clear hGq Gq;refine byG λGq hGq=>?_;obtain⟨its2,rv2,p2,_⟩:=I.list hq2;refine hGq ?_;clear hGq Gq;refine byG λGq hGq=>?_;obtain⟨q1,q2,⟨p,q,q3⟩,l1,l2⟩:=st;refine hGq ?_;clear hGq Gq;have hl1:=rv1.length;have hl2:=rv2.length;refine wpAny_pyNext_zip_end (I.ok.hd hc) D q1 q2 q3 l1 l2 p1.isList p2.isList (hend.imp (λz=>by simp;lia) λz=>by simp;lia) λh1 k1=>⟨rfl,I.turnedAll (t':=s.toks) hf λc o hc e=>?_⟩
  exact k1 c o (λy=>hc (by simp[y])) (λy=>hc (by simp[y])) (λy=>hc (by simp[y])) (λy=>hc (by simp[y])) e
 self:=λ_ _ _ _ _ st h=>wpAny_pyIter_zip st.1 h
variable{ys:List V}
section
variable{ctx}
def VG(K:qV)(ta:TA):TI:=λσ H R=>ta σ H λvs H1=>∃a b xs ys,vs=[.ref a,.ref b]/\Af K H1 a xs/\Af K H1 b ys/\R (VF K a b) H1
theorem TM{l r:Expr}{p pos:Pos}(hg:Gl X "zip")(hm:X.mg "zip"=none)(ha:PA X [l,r] ta)(hs:starEach [l,r] X.env=[(false,eval l X.env),(false,eval r X.env)]:=by rfl)(hs2:starEach [r] X.env=[(false,eval r X.env)]:=by rfl):PI X (.Tuple elts ctx tpos) (.Call (.Name "zip" p) [l,r] [] pos) (VG X.K ta):=by
 intro a6 s σ H R I h;refine Call_ (Ck I hg hm boot_zip (YU (BJ (ha pos a6 s σ H _ I h) λus s1 ⟨vs,H1,I1,r1,q1⟩=>?_) (by rw[hs,hs2]) (by rw[hs2];rfl)));refine byG λGq hGq=>?_;obtain⟨a,b,xs,ys,e,hq1,hq2,q⟩:=q1;refine hGq ?_;clear hGq Gq;subst e;cases r1 with
 |cons ra rr =>
  cases rr with
  |cons rb rr =>
   cases rr;cases ra;cases rb;refine byG λGq hGq=>?_;obtain⟨its1,rv1,p1,_⟩:=I1.list hq1;refine hGq ?_;clear hGq Gq;refine byG λGq hGq=>?_;obtain⟨its2,rv2,p2,_⟩:=I1.list hq2;refine hGq ?_;clear hGq Gq;have alt:a<s1.heap.objs.size:=by obtain⟨o,e,_⟩:=p1.isList;exact Xm e
   have blt:b<s1.heap.objs.size:=by obtain⟨o,e,_⟩:=p2.isList;exact Xm e
   refine call_zip_2 p1.isList p2.isList λh1 z1 t1 t2 l1 l2 hsz k1=>?_;refine wpAny_pyIter_zip z1 ?_;have fr:∀k:Nat,CS X a6 H1 (s1.heap.objs.size+k):=λk=>I1.fpOk (Zh _ _) (I1.hok.fresh (Zh _ _))
   refine⟨s1.heap.objs.size+4,[s1.heap.objs.size+4,s1.heap.objs.size+2,s1.heap.objs.size+3,s1.heap.objs.size,s1.heap.objs.size+1],_,_,H1,rfl,I1.kept (t':=s1.toks) k1,Ov a b _ _ _ _ _ (zipApart_new alt blt),⟨z1,t1,⟨_,_,t2⟩,l1,l2⟩,λc hc=>?_,q⟩;simp only[List.mem_cons,List.not_mem_nil,or_false]at hc;rcases hc with rfl|rfl|rfl|rfl|rfl
   ·exact fr 4
   ·exact fr 2
   ·exact fr 3
   ·exact fr 0
   ·exact fr 1
theorem Q5{K:qV}{b:qR}{g:TG}{tb:TS}(hlen:xs.length=ys.length)(Pv:Nat->St->Hp->Prop)(h0:Pv 0 σ H)(hl:∀i σ H,i<=xs.length->Pv i σ H->Af K H a xs/\Af K H b ys)
  (hs:∀i x y p σ H,xs[i]?=some x->ys[i]?=some y->Pv i σ H->H p=none->g (.ref p) σ (AT H p (.tup [x,y])) λσ2 H2=>tb {D with nx:=Pv (i+1),ct:=Pv (i+1),bk:=D.nx} σ2 H2) (hd:∀σ H,Pv xs.length σ H->D.nx σ H):
  ∃W:Nat->Nat->St->Hp->Prop,(∃m,W 0 m σ H)/\∀i m σ H,W i m σ H ->
   ((VF K a b).stop i H/\D.nx σ H)\/((VF K a b).go i H/\∃N:St->Hp->Prop,(∀σ' H',N σ' H'->∃m',m'<m/\W (i+1) m' σ' H')/\∀x H',(VF K a b).yld i H x H'->g x σ H' λσ2 H2=>tb {D with nx:=N,ct:=N,bk:=D.nx} σ2 H2):=by
 refine⟨λi m σ H=>m=xs.length-i/\i<=xs.length/\Pv i σ H,⟨xs.length,by simp,Nat.zero_le _,h0⟩,?_⟩;rintro i m σ H ⟨rfl,hi,p⟩;obtain⟨q1,q2⟩:=hl i σ H hi p
 by_cases hlt:i<xs.length
 ·refine .inr ⟨⟨xs,ys,xs[i],ys[i],q1,q2,by simp[hlt],by simp[hlen▸hlt]⟩,Pv (i+1),λσ' H' p'=>⟨xs.length-(i+1),by lia,rfl,hlt,p'⟩,λv H' y=>?_⟩;refine byG λGq hGq=>?_;obtain⟨p2,x,y',e1,e2,e3,y1,y2⟩:=y;refine hGq ?_;clear hGq Gq;subst e1 e3;exact hs i x y' p2 σ H (y1 xs q1) (y2 ys q2) p e2
 ·have e:i=xs.length:=by lia
  subst e;exact .inl ⟨⟨xs,ys,q1,q2,.inl (Xi _)⟩,hd σ H p⟩
end
end L2
namespace L2
open PySem PySem.Spec PyProof.Rows RW
variable{M' m':Nat}{lo' low':Int}{a7 tab':qW}
theorem KE{g lo:Int}{m:Nat}(hm:1<=m)(c0:A1 g a7 (g^(m-1))=true)(c1:A1 g a7 1=true):D6 g lo a7 m lo m:=
 ⟨hm,λj hj _=>by lia,.inr ⟨0,m-1,by lia,by lia,by lia,by lia,by rw[Nat.sub_zero];exact c0,by rw[ZH,Ya];exact c1⟩⟩
theorem Ow{g:Int}(hg:2<=g){lo:Int}{m:Nat}(hl:(a7.length:Int)=g^m)(hl':(tab'.length:Int)=g^m')(al:CU g lo' tab' m' lo a7 m)(n':D6 g lo' tab' m' lo' m'){low:Int}{M:Nat}(n:D6 g lo a7 m low M):low=lo'/\M=m'/\Dd g lo a7 m low M=tab':=by obtain⟨e1,e2⟩:=(De hg hl' hl n' n).mp al;rw[Om hg lo' hl']at e2;refine⟨e1.symm,?_,e2.symm⟩;have a:=Ba hg lo a7 m low M;rw[<-e2,hl']at a;exact (EI hg a).symm
def B1(g lo:Int)(a7:qW)(m:Nat)(lf:Int)(tf:qW)(mf:Nat):Prop:=∃(low:Int) (M:Nat),D6 g lo a7 m low M/\lf=low/\((M=1/\mf=2/\tf=Dd g low (Dd g lo a7 m low 1) 1 low 2)\/(2<=M/\mf=M/\tf=Dd g lo a7 m low M))
theorem Ox{g:Int}(hg:2<=g){lo:Int}{m:Nat}(hl:(a7.length:Int)=g^m){low:Int}{M:Nat}(n:D6 g lo a7 m low M)(n':D6 g lo a7 m low' M'):low=low'/\M=M':=by
 obtain⟨e1,e2⟩:=(De hg hl hl n n').mp λ_ _=>rfl
 refine⟨e1,?_⟩;have a:=Ba hg lo a7 m low M;rw[e2,Ba hg]at a;exact (EI hg a).symm
theorem LM(g lo:Int)(a7:qW)(m:Nat):∃low M,D6 g lo a7 m low M:=by
 by_cases hc:BC g lo a7 m=[]
 ·exact⟨0,1,G8 hc⟩
 ·obtain⟨M,_,_,hW⟩:=Fl hc;exact⟨_,M,hW⟩
theorem HI{g:Int}(hg:2<=g){lo:Int}{m:Nat}(hl:(a7.length:Int)=g^m)(hl':(tab'.length:Int)=g^m')(al:CU g lo' tab' m' lo a7 m)(h2:2<=m')(c0:A1 g tab' (g^(m'-1))=true)(c1:A1 g tab' 1=true):B1 g lo a7 m lo' tab' m':=by obtain⟨low,M,n⟩:=LM g lo a7 m;obtain⟨rfl,rfl,e⟩:=Ow hg hl hl' al (KE (by lia) c0 c1) n;exact⟨_,_,n,rfl,.inr ⟨h2,rfl,e.symm⟩⟩
theorem NU{g:Int}(hg:2<=g){lo:Int}{m:Nat}(hl:(a7.length:Int)=g^m)(hl':(tab'.length:Int)=g^1)(al:CU g lo' tab' 1 lo a7 m)(c1:A1 g tab' 1=true):B1 g lo a7 m lo' (Dd g lo' tab' 1 lo' 2) 2:=by obtain⟨low,M,n⟩:=LM g lo a7 m;obtain⟨rfl,rfl,e⟩:=Ow hg hl hl' al (KE (Xi _) (by rw[ZH,Ya];exact c1) c1) n;exact⟨_,_,n,rfl,.inl ⟨rfl,rfl,by rw[e]⟩⟩
variable{G:Nat}
theorem LN{g:Int}(hg:2<=g)(hG:(G:Int)=g)(x:Int)(T:qW):Dd g x T 1 x 2=(List.range (G*G)).map λk=>T.getD (k/G) 0:=by
 have g22:g^2=((G*G:Nat):Int):=by rw[show (2:Nat)=0+1+1 from rfl,YH,YH,Ya,ZI,<-hG,ZM]
 have hL:=Ba hg x T 1 x 2;refine BS (by rw[Xf,YF];lia) λk hk=>?_;have hk2:k<G*G:=by lia
 rw[Az hk2];unfold Dd;rw[Az (by lia)]
 congr 1
 have e:GA (BD g (k:Int) 2) (x-x) 1=[((k/G:Nat):Int)]:=by obtain⟨a,b,hw,ha,hb⟩:∃a b:Int,BD g (k:Int) 2=[a,b]/\a=(k:Int)/g%g/\b=(k:Int)%g:=⟨_,_,rfl,rfl,rfl⟩;rw[hw];show[sn [a,b] (x-x+((0:Nat):Int))]=_;rw[show x-x+((0:Nat):Int)=0 by lia];show[a]=_;rw[ha,<-hG,<-Yq,<-YO,Yx (Yc hk2)]
 rw[e,JH,Xo]
inductive JL(CT:qR)(vs:List V)(H:Hp)(Q:VK)(E:XK):Prop
 |m (r:qR) (g lo:Int) (a7:qW) (m:Nat) (lf:Int) (tf:qW) (mf:Nat):vs=[.ref r]->Av H r g lo a7 m->B1 g lo a7 m lf tf mf->(g^(mf-1)<=9->∀r' H',AG H H'->Av H' r' g lf tf mf->Q (.ref r') H')->(9<g^(mf-1)->∀H',AG H H'->E (.ref CT) none H')->JL CT vs H Q E
variable{lf:Int}{tf:qW}{mf:Nat}
theorem B1.le{g:Int}(hg:2<=g){lo:Int}{m:Nat}(fw:B1 g lo a7 m lf tf mf)(hl:(a7.length:Int)=g^m)(hl':(tab'.length:Int)=g^m')(al:CU g lo a7 m lo' tab' m'):mf<=max 2 m':=by
 obtain⟨low,M,n,rfl,z⟩:=fw;obtain⟨low',M',n'⟩:=LM g lo' tab' m';obtain⟨e1,e2⟩:=(De hg hl hl' n n').mp al;have a:=Ba hg lo a7 m lf M;rw[e2,Ba hg]at a;have eM:=EI hg a
 have:M'<=max 1 m':=by rcases n'.ends with⟨_,_,y⟩|⟨j0,j1,_,_,_,_,_,_⟩<;>lia
 rcases z with z|z<;>lia
end L2
namespace L2
end L2
namespace L2
open PySem PySem.Spec PyProof.Rows RW
theorem KH(g x:Int)(r:qW):BM g (x::r)=x*g^r.length+BM g r:=by
 have e:=Gz g [x] r;have nx:BM g [x]=x:=by show 0*g+x=x;rw[ZZ,YJ]
 rw[nx]at e;exact e
theorem Er{g:Int}(hg:2<=g):∀{a b:qW},a.length=b.length->(∀n∈a,0<=n/\n<g)->(∀n∈b,0<=n/\n<g)->BM g a<BM g b->HT.B7 a b=true
 |[],[],_,_,_,h=>qG h (Int.lt_irrefl _)
 |[],_::_,e,_,_,_=>by simp at e
 |_::_,[],e,_,_,_=>by simp at e
 |x::a,y::b,e,ha,hb,h=>by
  have e':a.length=b.length:=by simpa using e
  rw[HT.DX];have ba:=DG hg (ns:=a) λn hn=>ha n (Xw _ hn)
  have bb:=DG hg (ns:=b) λn hn=>hb n (Xw _ hn)
  rw[KH,KH,e']at h;rw[e']at ba;split
  ·rename_i exy
   subst exy;exact Er hg e' (λn hn=>ha n (Xw _ hn)) (λn hn=>hb n (Xw _ hn)) (by lia)
  ·rename_i nxy
   refine qH ?_
   by_cases z:x<y
   ·exact z
   ·exfalso;have z1:y+1<=x:=by lia
    have z2:=Int.mul_le_mul_of_nonneg_right z1 (YI (RW.Ao hg b.length));rw[Int.add_mul,ZI]at z2;lia
end L2
namespace L2
open PySem PySem.Spec PyProof.Rows
def Fp(K:qV)(J:It)(tt:TT)(te:TE)(σf:List (Option V))(D:qR)(Q:VK)(H:Hp):Prop:=∃W:Nat->Nat->List V->Hp->Prop,(∃n,W n 0 [] (AT H D (.lst [])))/\∀n i ad H2,W n i ad H2 ->
 (J.stop i H2/\Q (.ref D) H2)\/(J.go i H2/\∃N:List V->Hp->Prop,(∀l H',N l H'->∃n',n'<n/\W n' (i+1) l H')/\∀v H3,J.yld i H2 v H3->∃(a:qR) (v1 v2:V),v=.ref a/\Aa K H3 a [v1,v2]/\tt (some v1::some v2::σf) H3 λb H4 =>
  if b=true then te (some v1::some v2::σf) H4 λy H5=>H5 D=some (.lst ad)/\ad.length<sizeLine/\N (ad++[y]) (AT H5 D (.lst (ad++[y]))) else N ad H4)
def TN(K:qV)(wi:TI)(fv:List (Nat×Str))(tt:TT)(te:TE):TE:=λσ H Q=>wi σ H λJ H1=>∀D,H1 D=none->Fp K J tt te (Cd σ fv) D Q H1
end L2
namespace PySem
section
variable{prog:qT}{w:qU}{A:Around}{s:qS}{R:Result->qS->Prop}
theorem compLoop_own{elt tg iter:Expr}{ifs:List Expr}{scope:Scope}{pos:Pos}{it ad:qQ}{env:Env}(I:Nat->qS->Prop)
  (turn:∀n s,I n s->wpAny (model prog w) A (pyNext it) (λr s1=>match r with
   |none=>R (.ok .next) s1
   |some v=>wpAny (model prog w) A (letOwnedTupleGo tg it v) (λ_ s1b=>wpAny (model prog w) A (assign tg env v) (λ_ s2 =>
     wpAny (model prog w) A (forIn ifs true λc r=>if r=true then do let ok <-isTrue c env (eval c env);pure (ForInStep.yield ok) else pure (ForInStep.yield r)) (λok s3 =>
      if ok=true then wpAny (model prog w) A (eval elt env) (λx s4 =>
       wpAny (model prog w) A (call (.builtin "list.append") [ad,x]) (λ_ s5=>∃m,m<n/\I m s5) (notedBy (model prog w) A env λe s'=>R (.error e) s') s4) (notedBy (model prog w) A env λe s'=>R (.error e) s') s3
      else ∃m,m<n/\I m s3) (notedBy (model prog w) A env λe s'=>R (.error e) s') s2) (notedBy (model prog w) A env λe s'=>R (.error e) s') s1b) (notedBy (model prog w) A env λe s'=>R (.error e) s') s1) (notedBy (model prog w) A env λe s'=>R (.error e) s') s)
  (n:Nat) (h:I n s):codeAny (model prog w) A (.compLoop (.ListComp elt [⟨tg,iter,ifs,0⟩] scope pos) 0 it ad env) R s:=by
 refine codeAny_loop rfl I (λn s hI=>?_) n h;show wpAny _ A ((compTurn (.ListComp elt [⟨tg,iter,ifs,0⟩] scope pos) 0 it ad env).onRaise (λx=>do noteFrame x env;theTreesLotGoes x)) _ _ s;refine wpAny_noted ?_;rw[compTurn_list];refine qC (wpAny_standAt (qC (qM (turn n s hI) (λr s1 h1=>?_) λ_ _ h'=>h')));cases r with
 |none=>exact qD h1
 |some v =>
  refine qC (qM h1 (λ_ s1b h1b=>?_) λ_ _ h'=>h');refine qC (qM h1b (λ_ s2 h2=>qC (qM h2 (λok s3 h3=>?_) λ_ _ h'=>h')) λ_ _ h'=>h');cases ok with
  |false=>exact qD ⟨rfl,h3⟩
  |true =>
   exact qC (qC (qM h3 (λx s4 h4=>qC (qM h4 (λ_ s5 h5=>qD (qD ⟨rfl,h5⟩)) λ_ _ h'=>h')) λ_ _ h'=>h'))
end
end PySem
namespace L2
open PySem PySem.Spec PyProof.Rows
variable{C:qR}{E:qQ->qS->Prop}{T:String}{X:Cx}{es:List Expr}{h1:Heap}{name:Str}
section
variable{X:Cx}{x x2:Str}{px px2 pt pos:Pos}{kt:Nat}{elt iter:Expr}{ifs:List Expr}{scope:Scope}{cl:List (Str×qR)}{fv:List (Nat×Str)}{wi:TI}{tt:TT}{te:TE}
 {a6:List (qR×Obj)} {σ:St} {H2:Hp} {s2:qS} {fp:List qR} {it:qR} {tn:Nat->Heap->Prop} {J:It}
theorem Q6{D:qR}{t1:Nat}(I2:AR X a6 σ H2 s2)(f2:∀b∈fp,CS X a6 H2 b)(o2:∀b∈fp,∃o,s2.heap.get? b=some o/\∀v,o.data≠.cell v)(hD:s2.heap.objs.size<=D)(hC:s2.heap.objs.size<=C)(hDC:D≠C)
  (old:∀b o,s2.heap.get? b=some o->h1.get? b=some o) (hl:h1.PlainList D #[]) (hn:h1.Ns C (λ_=>none)) (hk:scope.kind=.function) (hcl:GH X.env cl)
  (hhas:((relabel scope X.env).names.all λz=>!(z.2==.cell||z.2==.free)||(cl.lookup z.1).isSome)=true) (hfv:Gu X scope cl fv):
  AR (Dl X s2 H2 (compEnvC scope cl C X.env) fp (x::x2::fv.map (·.2))) [] (none::none::Cd σ fv) (AT H2 D (.lst [])) {s2 with heap:=h1,toks:=t1} where
 ok:=Of I2 f2 o2 hC hk hcl hhas
 os:=rfl
 bare:=I2.bare
 base:=Un.laid old hD (I2.hok.fresh hD)
 loc:=by
  refine⟨_,hn,λi y v h1' h2' _=>?_⟩;cases i with
  |zero=>cases h2'
  |succ i =>
   cases i with
   |zero=>cases h2'
   |succ i =>
   have h1':(fv.map (·.2))[i]?=some y:=h1';have h2':(Cd σ fv)[i]?=some (some v):=h2'
   obtain⟨q,hq,e1⟩:∃q,fv[i]?=some q/\q.2=y:=by rw[Xl]at h1';exact Xz.mp h1'
   subst e1;refine byG λGq hGq=>?_;obtain⟨g1,g2,g3,g4⟩:=hfv.at' q (Xq hq);refine hGq ?_;clear hGq Gq;unfold Cd at h2';rw[Xl,hq]at h2';have e2:(σ[q.1]?).join=some v:=Option.some.inj h2'
   have e3:σ[q.1]?=some (some v):=by
    cases z:σ[q.1]? with
    |none=>rw[z]at e2;cases e2
    |some w=>rw[z]at e2;exact qP some e2
   obtain⟨m,_,lk⟩:=I2.loc;have g2:=Od g2;obtain⟨u,ru,lu⟩:=lk q.1 q.2 v g1 e3 (.inr g2);refine⟨u,ru,.inr ⟨g2.imp (λz=>g3.trans z) (λz=>g3.trans z),?_⟩⟩;obtain⟨c,hc⟩:=ZK.mp g4;refine⟨c,hc,?_⟩;rcases lu with⟨kk,_⟩|⟨_,c',e',⟨o,eo,d⟩⟩
   ·rcases g2 with z|z<;>(rw[show X.env.kindOf q.2=_ from z]at kk;cases kk)
   ·have e4:=hcl.at' hc;rw[e']at e4;cases e4;exact⟨o,old c o eo,d⟩
 cell:=λy c h=>by refine byG λGq hGq=>?_;obtain⟨v,o,eo,d⟩:=I2.cell y c (hcl.at' h);refine hGq ?_;clear hGq Gq;exact⟨v,o,old c o eo,d⟩
 free:=by show AT H2 D _ C=none;rw[AJ (Ne.symm hDC)];exact I2.hok.fresh hC
 freeC:=λy c h=>by refine byG λGq hGq=>?_;obtain⟨v,o,eo,d⟩:=I2.cell y c (hcl.at' h);refine hGq ?_;clear hGq Gq;rw[AJ (YA (Xn (Xm eo) hD))];exact I2.freeC y c (hcl.at' h)
 pin:=λp hp=>nomatch hp
 hok:=I2.hok.laid old hD (by obtain⟨n,e⟩:=hl;exact⟨Nat.zero_le _,[],n,.nil,by simpa using e⟩)
 len:=by simp[Cd,Dl]
theorem Oy{RR:qQ->qR->Result->qS->Prop}{Q:VK}(hc:X.calm=true)(I2:AR X a6 σ H2 s2)(T:IB X.prog X.w X.K (.Tuple [.Name x px,.Name x2 px2] kt pt) J fp it tn)(st2:tn 0 s2.heap)(f2:∀b∈fp,CS X a6 H2 b)
  (hcell:∀y∈scope.names,y.2≠.cell) (hk:scope.kind=.function) (hx:scope.names.lookup x=some .local) (hx2:scope.names.lookup x2=some .local) (hcl:GH X.env cl) (hhas:((relabel scope X.env).names.all λz=>!(z.2==.cell||z.2==.free)||(cl.lookup z.1).isSome)=true) (hfv:Gu X scope cl fv) (hnd:(x::x2::fv.map (·.2)).Nodup)
  (hf:∀s H C fp,PF (Dl X s H (compEnvC scope cl C X.env) fp (x::x2::fv.map (·.2))) ifs tt) (he:∀s H C fp,PE (Dl X s H (compEnvC scope cl C X.env) fp (x::x2::fv.map (·.2))) elt te)
  (hw:∀D,H2 D=none->Fp X.K J tt te (Cd σ fv) D Q H2)
  (hRR:∀D C σ' H' s',s2.heap.objs.size<=C->AR (Dl X s2 H2 (compEnvC scope cl C X.env) fp (x::x2::fv.map (·.2))) [] σ' H' s'->Q (.ref D) H'->RR (.ref D) C (.ok .next) s'):
  wpAny (model X.prog X.w) X.A (newList []) (λad s3=>wpAny (model X.prog X.w) X.A (newFunctionEnv scope X.env.globals cl [] X.env.qual none .none (some X.env)) (λcenv s4 =>
   codeAny (model X.prog X.w) X.A (.compStart (.ListComp elt [⟨.Tuple [.Name x px,.Name x2 px2] kt pt,iter,ifs,0⟩] scope pos) 0 (.ref it) ad {cenv with scope:=relabel scope X.env}) (RR ad cenv.locals) s4) E s3) E s2:=by
 refine wpAny_newObj_type (wpAny_newFunctionEnv hcell (by intro y hy;simp at hy) (λh1 hns hsb=>?_) hk);dsimp only at hns hsb⊢;generalize hH:s2.heap.push {cls:=.type "list",dict:=none,data:=.seq ([]:List qQ).toArray}=HH at hns hsb⊢;have eC:HH.objs.size=s2.heap.objs.size+1:=by rw[<-hH,Y1]
 have hDC:s2.heap.objs.size≠HH.objs.size:=by rw[eC];exact YA (Nat.lt_succ_self _)
 have hC:s2.heap.objs.size<=HH.objs.size:=by rw[eC];exact ZD _
 have old:∀b o,s2.heap.get? b=some o->h1.get? b=some o:=λb o e=>hsb.extBut b o (by rw[eC];exact YA (Zz (Xm e))) (Xh _ (hH▸Xh _ e))
 have hacc:h1.PlainList s2.heap.objs.size #[]:=⟨_,hsb.extBut _ _ hDC (Xh _ (hH▸Xs _ rfl))⟩;have o2:=T.obj _ _ st2;refine byG λGq hGq=>?_;obtain⟨W,⟨n0,w0⟩,turn⟩:=hw s2.heap.objs.size (I2.hok.fresh (Xi _));refine hGq ?_;clear hGq Gq;generalize eD:s2.heap.objs.size=D at *;generalize eCC:HH.objs.size=C at *;have Ib:=Q6 (x:=x) (x2:=x2) (t1:=s2.toks+([]:List (Str×qQ)).length) I2 f2 o2 (by rw[eD];exact Xi _) (by rw[eD];exact hC) hDC old hacc hns hk hcl hhas hfv;have st1:tn 0 h1:=T.keep _ _ _ st2 λb _ o e=>old b o e
 have nD:∀b∈fp,b≠D:=λb hb=>by obtain⟨o,e,_⟩:=o2 b hb;rw[<-eD];exact YA (Xm e)
 have fr1:∀b∈fp,AT H2 D (.lst []) b=none:=λb hb=>by rw[AJ (nD b hb)];exact (f2 b hb).1
 have hxl:(relabel scope X.env).names.lookup x=some .local:=lookup_relabel_local hx;have hxl2:(relabel scope X.env).names.lookup x2=some .local:=lookup_relabel_local hx2
 have stat:∀{H':Hp},(∀b∈fp,H' b=none)->∀b∈fp,CS (Dl X s2 H2 (compEnvC scope cl C X.env) fp (x::x2::fv.map (·.2))) [] H' b:=λhn b hb=>by obtain⟨o,e,_⟩:=o2 b hb;exact⟨hn b hb,λz=>qG (Xm e) (by rw[z,eD];exact Nat.not_lt.mpr hC),λz=>(X3.mp (I2.stkSub b z)).elim (f2 b hb).2.1 (f2 b hb).2.2.1,.inl hb,λy c h=>(f2 b hb).2.2.2.2.1 y c (hcl.at' h),λq hq=>nomatch hq⟩
 have loop:codeAny (model X.prog X.w) X.A (.compLoop (.ListComp elt [⟨.Tuple [.Name x px,.Name x2 px2] kt pt,iter,ifs,0⟩] scope pos) 0 (.ref it) (.ref D) (compEnvC scope cl C X.env)) (RR (.ref D) C) {s2 with heap:=h1,toks:=s2.toks+([]:List (Str×qQ)).length}:=by
  refine compLoop_own (λn s'=>∃i ad σb H',AR (Dl X s2 H2 (compEnvC scope cl C X.env) fp (x::x2::fv.map (·.2))) [] σb H' s'/\σb.tail.tail=Cd σ fv/\tn i s'.heap/\(∀b∈fp,H' b=none)/\W n i ad H') ?_ n0 ⟨0,[],_,_,Ib,rfl,st1,fr1,w0⟩;intro n s3 hRq;refine byG λGq hGq=>?_;obtain⟨i,ad,σ3,H3,I3,t3,st3,fr3,w3⟩:=hRq;refine hGq ?_;clear hGq Gq;rcases turn n i ad H3 w3 with⟨stop,qn⟩|⟨go,NN,hNN,step⟩
  ·refine BJ (T.done (Dl X s2 H2 (compEnvC scope cl C X.env) fp (x::x2::fv.map (·.2))) rfl rfl rfl hc i [] s3 σ3 H3 _ I3 (stat fr3) st3 stop) λr s4 q4=>?_;obtain⟨hr,I4⟩:=q4;subst hr;exact hRR D C σ3 H3 s4 hC I4 qn
  ·refine BJ (T.item (Dl X s2 H2 (compEnvC scope cl C X.env) fp (x::x2::fv.map (·.2))) rfl rfl rfl hc i [] s3 σ3 H3 _ I3 (stat fr3) st3 go) λr s4 q4=>?_;obtain⟨u,hr,h4⟩:=q4;subst hr;refine BJ h4 λ_ s5 q5=>?_;refine byG λGq hGq=>?_;obtain⟨v,H5,I5,r5,y5,st5,fr5⟩:=q5;refine hGq ?_;clear hGq Gq;have I5':=I5.pinned (stat fr5) (T.obj _ _ st5);have again:∀{σ7:St} {H7:Hp} {s7:qS},AR (Dl X s2 H2 (compEnvC scope cl C X.env) fp (x::x2::fv.map (·.2))) ([]++Fa fp s5.heap) σ7 H7 s7->tn (i+1) s7.heap/\∀b∈fp,H7 b=none:=λ{σ7 H7 s7} I7=>by refine⟨T.keep _ _ _ st5 λb hb o e=>(I7.pin (b,o) (Xv _ (Xv _ (B9 hb e)))).1,λb hb=>?_⟩;obtain⟨o,e,d⟩:=T.obj _ _ st5 b hb;exact (I7.pin (b,o) (Xv _ (Xv _ (B9 hb e)))).2.1
   refine byG λGq hGq=>?_;obtain⟨a5,v1,v2,rfl,hq5,step5⟩:=step v _ y5;refine hGq ?_;clear hGq Gq
   have sσ:(σ3.set 0 (some v1)).set 1 (some v2)=some v1::some v2::Cd σ fv:=by
    match σ3,t3,I3.len with
    |a::b::r,t3,_ =>
     have z:r=Cd σ fv:=t3;rw[z];rfl
   have hnd2:=Yd.mp hnd;have g1:=GN (X:=Dl X s2 H2 (compEnvC scope cl C X.env) fp (x::x2::fv.map (λq:Nat×Str=>q.2))) (pos:=px) (i:=0) (x:=x) hnd rfl (.inl hxl) (.inr hxl);have g2:=GN (X:=Dl X s2 H2 (compEnvC scope cl C X.env) fp (x::x2::fv.map (λq:Nat×Str=>q.2))) (pos:=px2) (i:=1) (x:=x2) hnd rfl (.inl hxl2) (.inr hxl2);have g:=N6 (X:=Dl X s2 H2 (compEnvC scope cl C X.env) fp (x::x2::fv.map (λq:Nat×Str=>q.2))) (pos:=pt) (k:=kt) hc (BG g1 (BG g2 C1));refine wpAny_noRaise (BJ (g _ s5 σ3 H5 (.ref a5) u (λσ' H'=>σ'=some v1::some v2::Cd σ fv/\H'=H5) I5' r5 ⟨a5,[v1,v2],rfl,hq5,rfl,v1,[v2],rfl,v2,[],rfl,rfl,sσ,rfl⟩) λ_ s6 q6=>?_);refine byG λGq hGq=>?_;obtain⟨σ6,H6,I6,rfl,rfl⟩:=q6;refine hGq ?_;clear hGq Gq;refine wpAny_noRaise (BJ (hf _ _ _ _ _ s6 _ _ _ I6 step5) λb s7 q7=>?_);obtain⟨H7,I7,q7⟩:=q7;cases b with
   |false =>
    rw[qE (by decide)]at q7⊢;obtain⟨n',hn',w7⟩:=hNN _ _ q7;exact⟨n',hn',i+1,ad,_,H7,I7.unpinned,rfl,(again I7).1,(again I7).2,w7⟩
   |true =>
    rw[qF rfl]at q7⊢;refine wpAny_noRaise (BJ (he _ _ _ _ _ s7 _ _ _ I7 q7) λyv s8 q8=>?_);refine byG λGq hGq=>?_;obtain⟨y,H8,I8,r8,e8,l8,q8⟩:=q8;refine hGq ?_;clear hGq Gq;obtain⟨n',hn',w8⟩:=hNN _ _ q8;refine wpAny_noRaise (BJ (Ff (X:=Dl X s2 H2 (compEnvC scope cl C X.env) fp (x::x2::fv.map (·.2))) _ s8 _ H8 (.ref D) [y] (.ref D) [yv] (λ_ H'=>H'=AT H8 D (.lst (ad++[y]))) I8 rfl (.cons r8 .nil) ⟨D,ad,y,rfl,rfl,e8,l8,rfl⟩) λ_ s9 q9=>?_);refine byG λGq hGq=>?_;obtain⟨_,H9,I9,_,rfl⟩:=q9;refine hGq ?_;clear hGq Gq;exact⟨n',hn',i+1,ad++[y],_,_,I9.unpinned,rfl,(again I9).1,(again I9).2,w8⟩
 exact codeAny_compStart_list loop (T.self X.A 0 _ _ _ st1 loop)
theorem Oz(hc:X.calm=true)(hi:PI X (.Tuple [.Name x px,.Name x2 px2] kt pt) iter wi)(hclos:closureFor scope X.env=pure cl)(hcell:∀y∈scope.names,y.2≠.cell)(hk:scope.kind=.function)(hnames:∀z∈scope.names,z.2=.local->scope.names.lookup z.1=some .local)
  (hx:scope.names.lookup x=some .local) (hx2:scope.names.lookup x2=some .local) (hcl:GH X.env cl) (hhas:((relabel scope X.env).names.all λz=>!(z.2==.cell||z.2==.free)||(cl.lookup z.1).isSome)=true) (hfv:Gu X scope cl fv) (hnd:(x::x2::fv.map (·.2)).Nodup)
  (hf:∀s H C fp,PF (Dl X s H (compEnvC scope cl C X.env) fp (x::x2::fv.map (·.2))) ifs tt) (he:∀s H C fp,PE (Dl X s H (compEnvC scope cl C X.env) fp (x::x2::fv.map (·.2))) elt te)
  (hs:∀x,foldedSetIterable iter X.env x=pure x:=by intro _;rfl):PE X (.ListComp elt [⟨.Tuple [.Name x px,.Name x2 px2] kt pt,iter,ifs,0⟩] scope pos) (TN X.K wi fv tt te):=by
 intro a6 s σ H Q I h;rw[eval_ListComp];refine wpAny_comprehension_free (use:=none) rfl hs hclos hk hnames (BJ (hi a6 s σ H _ I h) λv s1 h1=>BJ h1 λitv s2 h2=>?_);refine byG λGq hGq=>?_;obtain⟨it,fp,tn,J,H2,e,I2,T,st2,f2,hw⟩:=h2;refine hGq ?_;clear hGq Gq;subst e;refine Oy (RR:=λad C=>compPost (model X.prog X.w) X.A X.xe none (EP X a6 σ Q) ad C) hc I2 T st2 f2 hcell hk hx hx2 hcl hhas hfv hnd hf he hw λD C σ' H' s' hC Ib q=>?_;obtain⟨m,hn,_⟩:=Ib.loc;exact⟨m,hn,λh' sb=>⟨.ref D,H',AR.letGo I2 (Gw I2 f2 Ib) hC Ib.free sb,rfl,q⟩⟩
end
variable{to:TE}
theorem TQ{K:qV}{id:String}{r:V->List V->Hp->VK->Prop}{o e:Expr}{t:TA}{apos cpos:Pos}(hK:X.K=K)(pa:PlainAttrs T)(slot:Slot T name id)(hty:typeOf (.builtin id)=pure (.type "method_descriptor"))(hm:Qc X id r)(ho:PE X o to)(ha:PA X (e::es) t)
  (hbase:attributeBase o name X.env (eval o X.env)=eval o X.env:=by rfl)
  (hfew:((backTo cpos (starEach (e::es) X.env)).all (λx=>!x.1)&&(backToKw cpos (keywordEach [] X.env)).all (λx=>x.1.isSome)&&decide ((e::es).length+([]:List Keyword).length+(if ([]:List Keyword).isEmpty then 0 else 1)<30))=true:=by rfl)
  (hline:(apos.endLine==cpos.line)=true:=by rfl) (hs:starEach (e::es) X.env=(false,eval e X.env)::starEach es X.env:=by rfl) (hplain:(backTo cpos (starEach es X.env)).any (·.1)=false:=by rfl):
  PE X (.Call (.Attribute o name apos) (e::es) [] cpos) (WX K T r to t):=by
 subst hK;exact L8 pa slot hty hm ho ha hbase hfew hline hs hplain
end L2
namespace PySem
section
variable{prog:qT}{w:qU}{A:Around}{E:qQ->qS->Prop}{s:qS}{it d:qR}{i ep:Nat}{od:Obj}{es:Array DictEntry}
theorem keys_item{Q:Option qQ->qS->Prop}(hit:s.heap.IsKeyIter it d i es.size ep)(hod:s.heap.get? d=some od)(hdd:od.data=.dict es ep)(hlt:i<es.size)
  (hQ:∀h',h'.IsKeyIter it d (i+1) es.size ep->Heap.SameBut it s.heap h'->Q (some es[i].key) {s with heap:=h'}):wpAny (model prog w) A (pyNext (.ref it)) Q E s:=by
 obtain⟨o,ho,hc,hd⟩:=id hit;have T:=hit.typeIs;unfold pyNext;refine qC (wpAny_attempt (wpAny_callSpecial?_slot (name:=Str.ofString "__next__") T F.slot_dict_keyiterator_next (wpAny_call_entry F.slot_dict_keyiterator_next T F.entry_dict_keyiterator_next ?_ (F.args_dict_keyiterator_next_1 _))));refine qC (qD (qC (qC ?_)));refine qC (wpAny_typeNameOfWhole_keyiter T (qD (qC (wpAny_fieldsOf ho hd ?_))));simp only[show Builtin.Dict_items.ownsTuple "dict_keyiterator"=false by decide,Bool.false_eq_true,if_false];show wpAny _ _ (if (Value.ref d==.none)=true then _ else _) _ _ s;rw[qE (show ¬((Value.ref d==.none)=true) from Xx)];refine qC (qD (qC (wpAny_dictEntries hod hdd ?_)));rw[qE (by simp)];refine qC (qD (qC (wpAny_dictEpoch hod hdd ?_)));rw[qE (by simp)];refine qD ?_;simp only[show ¬((i:Int)<0) by lia,if_false,Int.toNat_natCast,Array.getElem?_eq_getElem hlt];refine qC (qC (wpAny_typeNameOfWhole_keyiter T (qD (qC (wpAny_isOneOf_keyiter T ?_)))));show wpAny _ _ (setField (.ref it) 1 (rawInt ((i:Int)+1)) >>= _) _ _ s;have hit':(s.heap.update it (Obj.mapFields (·.setIfInBounds 1 (rawInt ((i:Int)+1))))).IsKeyIter it d (i+1) es.size ep:=⟨_,Heap.get?_update_self _ ho (Obj.isFreed_of_fields (Obj.data_mapFields hd _)),(Obj.cls_mapFields ..).trans hc,by rw[Obj.data_mapFields hd];simp[rawInt]⟩;refine qC (wpAny_setField ho hd (by simp) (qC (qO (qC (wpAny_isOneOf_keyiter (s:={s with heap:=s.heap.update it (Obj.mapFields (·.setIfInBounds 1 (rawInt ((i:Int)+1))))}) hit'.typeIs ?_)))));show wpAny _ _ (pure es[i].key) _ _ _;exact qD (qD ⟨_,rfl,qD (hQ _ hit' (Heap.SameBut.update ..))⟩)
theorem keys_end{Q:Option qQ->qS->Prop}(hh:A.handled=none)(hit:s.heap.IsKeyIter it d i es.size ep)(hod:s.heap.get? d=some od)(hdd:od.data=.dict es ep)(hge:es.size<=i)
  (hQ:∀h',Heap.ExtBut it s.heap h'->Q none {s with heap:=h'}):wpAny (model prog w) A (pyNext (.ref it)) Q E s:=by
 obtain⟨o,ho,hc,hd⟩:=id hit;have T:=hit.typeIs;unfold pyNext;refine qC (wpAny_attempt (wpAny_callSpecial?_slot (name:=Str.ofString "__next__") T F.slot_dict_keyiterator_next (wpAny_call_entry F.slot_dict_keyiterator_next T F.entry_dict_keyiterator_next ?_ (F.args_dict_keyiterator_next_1 _))));refine qC (qD (qC (qC ?_)));refine qC (wpAny_typeNameOfWhole_keyiter T (qD (qC (wpAny_fieldsOf ho hd ?_))));simp only[show Builtin.Dict_items.ownsTuple "dict_keyiterator"=false by decide,Bool.false_eq_true,if_false];show wpAny _ _ (if (Value.ref d==.none)=true then _ else _) _ _ s;rw[qE (show ¬((Value.ref d==.none)=true) from Xx)];refine qC (qD (qC (wpAny_dictEntries hod hdd ?_)));rw[qE (by simp)];refine qC (qD (qC (wpAny_dictEpoch hod hdd ?_)));rw[qE (by simp)];refine qD ?_;simp only[show ¬((i:Int)<0) by lia,if_false,Int.toNat_natCast,Array.getElem?_eq_none hge];refine qC (qC (wpAny_typeNameOfWhole_keyiter T (qD ?_)));show wpAny _ _ (setField (.ref it) 0 .none >>= _) _ _ s;refine qC (wpAny_setField ho hd (by simp) ?_);show wpAny _ _ (newExc (.type "StopIteration") [] >>= _) _ _ _;refine qC ?_;simp only[newExc,newTuple];refine qC (wpAny_newObj_type (qC (m:=firstArgMember _ _) (wpAny_of_eq (a:=Value.none) (by first|rfl|(simp only[firstArgMember];rfl)) (wpAny_newObj_type ?_ (by size_fits)))) (by size_fits));simp only[raiseNew];refine qC (wpAny_handled ?_);rw[show A.in1.handled=none from hh];refine qC (qD (wpAny_throw ?_));exact qC (wpAny_isInstance (T:="StopIteration") (b:=true) ⟨_,Xs _ rfl,rfl⟩ isSubtype_stop (qD (hQ _ (((Heap.SameBut.update ..).extBut.push _).push _))))
theorem keys_iter{Q:qQ->qS->Prop}(hm:(d==sysModules)=false)(hT:s.TypeIs (.ref d) "dict")(hod:s.heap.get? d=some od)(hdd:od.data=.dict es ep)
  (hQ:Q (.ref s.heap.objs.size) {s with heap:=s.heap.push {cls:=.type "dict_keyiterator",data:=.fields #[.ref d,.int 0 0,.int es.size 0,.int ep 0]}}):wpAny (model prog w) A (pyIter (.ref d)) Q E s:=by
 refine wpAny_pyIter_slot hT F.slot_dict_iter (wpAny_call_entry F.slot_dict_iter hT F.entry_dict_iter ?_ (F.args_dict_iter_1 _));unfold Builtin.«dict.__iter__»;refine qC ?_;unfold Builtin.Dict.dictSlotNone;refine qC (wpAny_notOrdered_dict hT ?_);show wpAny _ _ (pure (Value.ref d)) _ _ s;refine qD ?_;show wpAny _ _ (Builtin.Dict.showsAll d >>= _) _ _ s;unfold Builtin.Dict.showsAll;rw[qE (by rw[hm];exact Xx)];refine qC (qD (qC (wpAny_dictEntries hod hdd (qC (wpAny_dictEpoch hod hdd ?_)))));exact qC (wpAny_newObj_type (qD ⟨_,rfl,"dict_keyiterator",_,⟨_,Heap.get?_push_size _ rfl,rfl⟩,F.slot_dict_keyiterator_next.lookup,by simpa [rawInt] using hQ⟩))
end
end PySem
namespace L2
open PySem PySem.Spec PyProof.Rows
variable{E Q:qQ->qS->Prop}{H H':Hp}{X:Cx}{a:qR}{h' h1:Heap}{o:Obj}{a6:List (qR×Obj)}{t':Nat}{tg:Expr}{u:qQ}{xs:List V}{α β:Type}{σ:St}
theorem A3{F:α->β->Prop}:∀{l₁:List α} {l₂:List β} {i:Nat} {x:α},Paired F l₁ l₂->l₁[i]?=some x->∃y,l₂[i]?=some y/\F x y
 |_,_,_,_,.nil,e=>by simp at e
 |_,_,0,_,.cons r _,e=>by simp at e;subst e;exact⟨_,rfl,r⟩
 |_,_,i+1,x,.cons _ t,e=>by obtain⟨u,h1,h2⟩:=A3 (i:=i) (x:=x) t (by simpa using e);exact⟨u,by simpa using h1,h2⟩
theorem AR.freeze{s:qS}{d:qR}{u:HO}(I:AR X a6 σ H s)(e:H d=some u)(nt:∀ys,u≠.tup ys)(nf:∀o v,u≠.frz o v)(nb:∀ps,u≠.tbl ps)(no:∀x,u≠.own x)(ho:s.heap.get? d=some o):AR X a6 σ (AT H d (.frz o u)) s:=
 have up:∀{b:qR} {v:HO},H b=some v->v≠u->AT H d (.frz o u) b=some v:=λ{b v} z n=>by rw[AJ λy=>n (by rw[y,e]at z;exact (Option.some.inj z).symm)];exact z
 have un:∀{b:qR},H b=none->AT H d (.frz o u) b=none:=λ{b} z=>by rw[AJ λy=>by rw[y,e]at z;cases z];exact z
 {I with
  base:=⟨I.base.keep,I.base.slot,λb ob q n hx=>un (I.base.free b ob q n hx),I.base.there,λb xs q=>up (I.base.tups b xs q) λz=>nt _ z.symm,λb ob v q=>up (I.base.frzs b ob v q) λz=>nf _ _ z.symm,λb ps q=>by obtain⟨m,z⟩:=I.base.tbls b ps q;exact⟨m,up z λy=>nb _ y.symm⟩⟩
  free:=un I.free
  freeC:=λx c q=>un (I.freeC x c q)
  pin:=λp hp=>⟨(I.pin p hp).1,un (I.pin p hp).2.1,(I.pin p hp).2.2⟩
  hok:=λb v q=>by
   have st:∀{b:qR} {v:HO},H b=some v->Ag X.prog X.w (AT H d (.frz o u)) s.heap b v:=λ{b v} q=>(I.hok b v q).stay (λ_ _ _ z=>z) (λc z=>up z λy=>no _ y.symm) λc xs z=>up z λy=>nt _ y.symm
   by_cases hb:b=d
   ·subst hb;rw[AE]at q;cases q;exact⟨ho,st e⟩
   ·rw[AJ hb]at q;exact st q}
theorem TR{d:qR}{u:HO}(e:H d=some u):AT H d u=H:=funext λb=>by
 by_cases z:b=d
 ·subst z;rw[AE,e]
 ·rw[AJ z]
abbrev MW:=List BQ×qR×V
noncomputable def GY(p:MW):List BQ×V:=(p.1,p.2.2)
def EW(p:MW)(q:List BQ×qR×qQ):Prop:=p.1=q.1/\p.2.1=q.2.1/\A4 p.2.2 q.2.2
def QN(P:qT)(w:qU)(d:qR)(bs:List MW)(h:Heap):Prop:=bs.length<=sizeLine/\(d==sysModules)=false/\∃xs:List (List BQ×qR×qQ),Paired EW bs xs /\
 ∃o es ep,h.get? d=some o/\o.ExactDict/\o.data=.dict es ep/\es.toList=xs.map (entryOfKey (tupleKind (Au P w)))/\(xs.map (·.1)).Nodup
noncomputable def O0(P:qT)(w:qU)(d:qR)(bs:List MW):HO:=.ext (QN P w d bs)
def O1(K:qV)(H:Hp)(bs:List MW):Prop:=∀p∈bs,Aa K H p.2.1 (p.1.map kV)
def DW(P:qT)(w:qU)(K:qV)(H:Hp)(d:qR)(kvs:List (List BQ×V)):Prop:=∃bs,H d=some (O0 P w d bs)/\bs.map GY=kvs/\O1 K H bs
def DR(P:qT)(w:qU)(K:qV)(H:Hp)(d:qR)(u:HO)(kvs:List (List BQ×V)):Prop:=∃bs,H d=some u/\(u=O0 P w d bs\/∃o,u=.frz o (O0 P w d bs))/\bs.map GY=kvs/\O1 K H bs
section
variable{P:qT}{w:qU}{K:qV}{h:Heap}{d:qR}{u:HO}{kvs:List (List BQ×V)}
theorem Aa.same'(e:AG H H')(q:Aa K H a xs):Aa K H' a xs:=q.imp (λz=>z.imp (e _ _) λ⟨o,z⟩=>⟨o,e _ _ z⟩) id
theorem DR.same(e:AG H H')(r:DR P w K H d u kvs):DR P w K H' d u kvs:=by obtain⟨bs,h1,h2,h3,h4⟩:=r;exact⟨bs,e _ _ h1,h2,h3,λp hp=>(h4 p hp).same' e⟩
theorem DW.same(e:AG H H')(r:DW P w K H d kvs):DW P w K H' d kvs:=by obtain⟨bs,h1,h3,h4⟩:=r;exact⟨bs,e _ _ h1,h3,λp hp=>(h4 p hp).same' e⟩
theorem DW.r(r:DW P w K H d kvs):∃u,DR P w K H d u kvs:=by obtain⟨bs,h1,h3,h4⟩:=r;exact⟨_,bs,h1,.inl rfl,h3,h4⟩
theorem EW.val{bs:List MW}{xs:List (List BQ×qR×qQ)}(r:Paired EW bs xs)(k:List BQ):Ge (BN (bs.map GY) k) ((atKey xs k).map (·.2)):=by
 induction r with
 |nil=>exact True.intro
 | @cons p q ps qs hh t ih =>
  obtain⟨h1,_,h2⟩:=hh
  by_cases e:p.1=k
  ·have e':q.1=k:=h1.symm.trans e;have b:atKey (q::qs) k=some q.2:=by simp[atKey,List.find?_cons,e']
   rw[Yg,DN (show (GY p).1=k from e),b];exact h2
  ·have e':¬q.1=k:=λz=>e (h1.trans z)
   have b:atKey (q::qs) k=atKey qs k:=by simp[atKey,List.find?_cons,e']
   rw[Yg,CN (show ¬(GY p).1=k from e),b];exact ih
end
section
variable{s:qS}{d b:qR}{u:HO}{kvs:List (List BQ×V)}{k:List BQ}
theorem C8(I:AR X a6 σ H s)(q:Aa X.K H b (k.map kV)):(tupleKind (Au X.prog X.w)).is s.heap k b:=by obtain⟨its,rv,p,hz⟩:=I.tuple q;obtain⟨o,h1,h2,n,h3⟩:=p;exact⟨o,its.toArray,n,h1,h2,h3,by simpa using IY rv⟩
theorem DR.at(I:AR X a6 σ H s)(r:DR X.prog X.w X.K H d u kvs):∃bs xs,bs.map GY=kvs/\O1 X.K H bs/\Paired EW bs xs/\bs.length<=sizeLine/\(d==sysModules)=false/\s.heap.DictOfH (tupleKind (Au X.prog X.w)) d xs:=by
 refine byG λGq hGq=>?_;obtain⟨bs,h1,h2,h3,h4⟩:=r;refine hGq ?_;clear hGq Gq
 have ok:QN X.prog X.w d bs s.heap:=by
  rcases h2 with e|⟨o,e⟩
  ·subst e;exact (show Ag X.prog X.w H s.heap d (.ext _) from I.hok d _ h1).1
  ·subst e;exact (show Ag X.prog X.w H s.heap d (.ext _) from (show Ag X.prog X.w H s.heap d (.frz o _) from I.hok d _ h1).2).1
 refine byG λGq hGq=>?_;obtain⟨z,hd,xs,rel,o,es,ep,e1,e2,e3,e4,e5⟩:=ok;refine hGq ?_;clear hGq Gq;refine⟨bs,xs,h3,h4,rel,z,hd,o,es,ep,e1,e2,e3,e4,λx hx=>?_,e5⟩;obtain⟨i,hi⟩:=YC.mp hx;have hl:=Paired.length rel;have hi':=(Xg.mp hi).1;refine byG λGq hGq=>?_;obtain⟨y,hy,r1,r2,_⟩:=A3 rel (i:=i) (x:=bs[i]) (by simp[show i<bs.length by lia]);refine hGq ?_;clear hGq Gq;rw[hi]at hy;cases hy;rw[<-r1,<-r2];exact C8 I (h4 _ (YY _))
variable{A:Around}{v:V}
theorem NV(hu:A.units+1<cLine)(I:AR X a6 σ H s)(r:DR X.prog X.w X.K H d u kvs)(q:Aa X.K H b (k.map kV))(l:BN kvs k=some v)(h:∀w' s',AR X a6 σ H s'->A4 v w'->Q w' s'):
  wpAny (model X.prog X.w) A (getItem (.ref d) (.ref b)) Q E s:=by
 obtain⟨bs,xs,h3,h4,rel,z,hd,dd⟩:=r.at I;obtain⟨w',hw,rw'⟩:=Ge.some_of (v:=v) (o:=(atKey xs k).map (·.2)) (by rw[<-l,<-h3];exact EW.val rel k);obtain⟨p,hp,hp2⟩:=Xz.mp hw;refine wpAny_getItem_heap (tupleKind_room_in1 hu) (C8 I q) dd hp ?_;rw[hp2];exact h w' _ (I.tok _) rw'
theorem Wr(hu:A.units+1<cLine)(I:AR X a6 σ H s)(r:DR X.prog X.w X.K H d u kvs)(q:Aa X.K H b (k.map kV))(h:∀s',AR X a6 σ H s'->Q (.bool (BN kvs k).isSome) s'):
  wpAny (model X.prog X.w) A (compareOp .In (.ref b) (.ref d)) Q E s:=by
 refine byG λGq hGq=>?_;obtain⟨bs,xs,h3,h4,rel,z,hd,dd⟩:=r.at I;refine hGq ?_;clear hGq Gq;refine wpAny_in_heap (tupleKind_room_in1 hu) (C8 I q) hd dd ?_;have q:=(EW.val rel k).isSome_eq;rw[Option.isSome_map,h3]at q;rw[<-q];exact h _ (I.tok _)
theorem Q7(hu:A.units+1<cLine)(I:AR X a6 σ H s)(r:DR X.prog X.w X.K H d u kvs)(q:Aa X.K H b (k.map kV))(h:∀s',AR X a6 σ H s'->Q (.bool (!(BN kvs k).isSome)) s'):
  wpAny (model X.prog X.w) A (compareOp .NotIn (.ref b) (.ref d)) Q E s:=by
 obtain⟨bs,xs,h3,h4,rel,z,hd,dd⟩:=r.at I;refine wpAny_notIn_heap (tupleKind_room_in1 hu) (C8 I q) hd dd ?_;have q:=(EW.val rel k).isSome_eq;rw[Option.isSome_map,h3]at q;rw[<-q];exact h _ (I.tok _)
end
noncomputable def KI(bs:List MW)(k:List BQ)(b:qR)(v:V):List MW:=if (bs.any λp=>decide (p.1=k))=true then bs.map (λp=>if p.1=k then (p.1,p.2.1,v) else p) else bs++[(k,b,v)]
theorem MX(bs:List MW)(k:List BQ)(b:qR)(v:V):(KI bs k b v).map GY=CV (bs.map GY) k v:=by
 unfold KI CV;have e:((bs.map GY).any λkv=>decide (kv.1=k))=bs.any λp=>decide (p.1=k):=by rw[List.any_map];rfl
 rw[e]
 by_cases z:(bs.any λp=>decide (p.1=k))=true
 ·rw[qF z,qF z,Za,Za];refine YW λp _=>?_;show GY (if p.1=k then (p.1,p.2.1,v) else p)=if (GY p).1=k then ((GY p).1,v) else GY p
  by_cases y:p.1=k
  ·rw[qF y,qF (show (GY p).1=k from y)];rfl
  ·rw[qE y,qE (show ¬(GY p).1=k from y)]
 ·rw[qE z,qE z,Xp];rfl
theorem EW.put{bs:List MW}{xs:List (List BQ×qR×qQ)}(r:Paired EW bs xs)(k:List BQ)(b:qR){y:V}(ry:A4 y u):Paired EW (KI bs k b y) (storedH xs k b u):=by
 have e:(bs.any λp=>decide (p.1=k))=(atKey xs k).isSome:=by have q:=(EW.val r k).isSome_eq;rw[Option.isSome_map]at q;rw[<-q,<-FJ,List.any_map];rfl
 unfold KI storedH;rw[e]
 by_cases q:(atKey xs k).isSome=true
 ·rw[qF q,qF q];clear e q
  induction r with
  |nil=>exact .nil
  | @cons p q ps qs hh t ih =>
   rw[Yg,Yg];refine .cons ?_ ih;obtain⟨h1,h2,h3⟩:=hh;unfold putAt
   by_cases e:p.1=k
   ·rw[qF e,qF (h1.symm.trans e)];exact⟨h1,h2,ry⟩
   ·rw[qE e,qE (λz=>e (h1.trans z))];exact⟨h1,h2,h3⟩
 ·rw[qE q,qE q];exact Paired.snoc r ⟨rfl,rfl,ry⟩
theorem O2{bs:List MW}{k:List BQ}{b:qR}{v:V}{p:MW}(h:p∈KI bs k b v):(∃q∈bs,p.1=q.1/\p.2.1=q.2.1)\/(p.1=k/\p.2.1=b):=by
 unfold KI at h
 split at h
 ·obtain⟨q,hq,e⟩:=Xy.mp h;refine .inl ⟨q,hq,?_⟩
  by_cases z:q.1=k
  ·rw[qF z]at e;subst e;exact⟨rfl,rfl⟩
  ·rw[qE z]at e;subst e;exact⟨rfl,rfl⟩
 ·rcases Xr.mp h with z|z
  ·exact .inl ⟨p,z,rfl,rfl⟩
  ·rw[Xu.mp z];exact .inr ⟨rfl,rfl⟩
theorem QN.stay{P:qT}{w:qU}{d:qR}{bs:List MW}{h2:Heap}(x:QN P w d bs h1)(k:∀o,h1.get? d=some o->h2.get? d=some o):QN P w d bs h2:=by refine byG λGq hGq=>?_;obtain⟨z,hd,xs,rel,o,es,ep,e1,e2⟩:=x;refine hGq ?_;clear hGq Gq;exact⟨z,hd,xs,rel,o,es,ep,k _ e1,e2⟩
theorem Aa.upd'{K:qV}{d:qR}{φ:Heap->Prop}{u:HO}(hd:H d=some (.ext φ))(q:Aa K H a xs):Aa K (AT H d u) a xs:=by
 rcases q with (z|⟨o,z⟩)|z
 ·exact .inl (.inl (by rw[AJ (Bu z hd λy=>nomatch y)];exact z))
 ·exact .inl (.inr ⟨o,by rw[AJ (Bu z hd λy=>nomatch y)];exact z⟩)
 ·exact .inr z
section
variable{s:qS}{d b:qR}{kvs:List (List BQ×V)}{k:List BQ}{A:Around}{v:V}{r:qQ}
theorem DW.put(I:AR X a6 σ H s){bs:List MW}{xs:List (List BQ×qR×qQ)}(h1:H d=some (O0 X.prog X.w d bs))(h4:O1 X.K H bs)(rel:Paired EW bs xs)(hd:(d==sysModules)=false)(q:Aa X.K H b (k.map kV))(hz:(bs.map GY).length<sizeLine)(rv:A4 v r)
  (dd':h'.DictOfH (tupleKind (Au X.prog X.w)) d (storedH xs k b r)) (sb:Heap.SameBut d s.heap h'):∃u',DW X.prog X.w X.K (AT H d u') d (CV (bs.map GY) k v)/\AR X a6 σ (AT H d u') {s with heap:=h',toks:=t'}:=by
 have hl:(KI bs k b v).length<=sizeLine:=by have a:=GC (bs.map GY) k v;rw[<-MX bs k b v,Xf]at a;lia
 refine byG λGq hGq=>?_;obtain⟨o,es,ep,g1,g2,g3,g4,_,g5⟩:=dd';refine hGq ?_;clear hGq Gq;refine⟨O0 X.prog X.w d (KI bs k b v),⟨_,AE,MX ..,λp hp=>?_⟩,MU I (by rw[h1];exact True.intro) sb ⟨o,g1⟩ ⟨⟨hl,hd,_,EW.put rel k b rv,o,es,ep,g1,g2,g3,g4,g5⟩,⟨o,g1⟩,λh1 h2 x k=>QN.stay x k⟩⟩;rcases O2 hp with⟨p',hp',e1,e2⟩|⟨e1,e2⟩
 ·rw[e1,e2];exact (h4 p' hp').upd' h1
 ·rw[e1,e2];exact q.upd' h1
theorem DW.at(I:AR X a6 σ H s)(w:DW X.prog X.w X.K H d kvs):∃bs xs,H d=some (O0 X.prog X.w d bs)/\bs.map GY=kvs/\O1 X.K H bs/\Paired EW bs xs/\xs.length<=sizeLine/\(d==sysModules)=false/\s.heap.DictOfH (tupleKind (Au X.prog X.w)) d xs:=by refine byG λGq hGq=>?_;obtain⟨bs,h1,h3,h4⟩:=w;refine hGq ?_;clear hGq Gq;refine byG λGq hGq=>?_;obtain⟨z,hd,xs,rel,o,es,ep,e1,e2,e3,e4,e5⟩:=(show Ag X.prog X.w H s.heap d (.ext _) from I.hok d _ h1).1;refine hGq ?_;clear hGq Gq;refine⟨bs,xs,h1,h3,h4,rel,by rw[<-Paired.length rel];exact z,hd,o,es,ep,e1,e2,e3,e4,λx hx=>?_,e5⟩;obtain⟨i,hi⟩:=YC.mp hx;have hl:=Paired.length rel;have hi':=(Xg.mp hi).1;refine byG λGq hGq=>?_;obtain⟨y,hy,r1,r2,_⟩:=A3 rel (i:=i) (x:=bs[i]) (by simp[show i<bs.length by lia]);refine hGq ?_;clear hGq Gq;rw[hi]at hy;cases hy;rw[<-r1,<-r2];exact C8 I (h4 _ (YY _))
theorem NW{Q:Unit->qS->Prop}(hu:A.units+1<cLine)(I:AR X a6 σ H s)(w:DW X.prog X.w X.K H d kvs)(q:Aa X.K H b (k.map kV))(hz:kvs.length<sizeLine)(rv:A4 v r)(h:∀u' s',DW X.prog X.w X.K (AT H d u') d (CV kvs k v)->AR X a6 σ (AT H d u') s'->Q () s'):
  wpAny (model X.prog X.w) A (setItem (.ref d) (.ref b) r) Q E s:=by
 refine byG λGq hGq=>?_;obtain⟨bs,xs,h1,h3,h4,rel,hl,hd,dd⟩:=w.at I;refine hGq ?_;clear hGq Gq;subst h3;refine wpAny_setItem_heap (hsz:=hl) (tupleKind_room_in1 hu) (C8 I q) dd λh' dd' sb=>?_;obtain⟨u',w',I'⟩:=DW.put (t':=s.toks+(tupleKind (Au X.prog X.w)).draws k) I h1 h4 rel hd q hz rv dd' sb;exact h u' _ w' I'
end
end L2
namespace PySem
section
variable{prog:qT}{w:qU}{A:Around}{E:qQ->qS->Prop}{s:qS}{d:qR}{o:Obj}{es:Array DictEntry}{ep:Nat}
theorem meets_lenR(hd:(d==sysModules)=false):MeetsIn prog w (Builtin.«dict.__len__» ⟨[.ref d],[]⟩) (λ_ R s=>∃o es ep,s.heap.get? d=some o/\o.data=.dict es ep/\R (.ok (.ret (.int es.size s.toks))) {s with toks:=s.toks+1}):=
 .of_wp λA R s ⟨o,es,ep,ho,hdat,h⟩=>by show wpAny _ _ (dictSize d >>= _) _ _ s;unfold dictSize;refine qC (qC (wpAny_dictEntries ho hdat (qD ?_)));show wpAny _ _ (Builtin.Dict.pendingCount d >>= _) _ _ s;refine qC (wpAny_pendingCount_other hd (wpAny_ret_mkInt ?_));rw[Zn];exact h
theorem len_dictR{Q:qQ->qS->Prop}(hd:(d==sysModules)=false)(hT:s.TypeIs (.ref d) "dict")(ho:s.heap.get? d=some o)(hdat:o.data=.dict es ep)(hfit:(es.size:Int)<2^63)
  (h:Q (.int es.size (s.toks+1)) {s with toks:=s.toks+1+1}):wpAny (model prog w) A (call (.builtin "len") [.ref d]) Q E s:=by
 refine Calls.call_function_entry kind_len plain_len entry_len (args_len1 _) ?_;unfold Builtin.«len»
 refine qC (m:=oneArg "len" _) (qD (qC (m:=callSpecial? (.ref d) (Str.ofString "__len__")) (wpAny_callSpecial?_slot (name:=Str.ofString "__len__") hT F.slot_dict_len
  (call_meetsIn F.slot_dict_len hT F.entry_dict_len (F.args_dict_len_1 _) (meets_lenR hd) ⟨o,es,ep,ho,hdat,?_⟩))))
 show wpAny _ _ _ _ _ {s with toks:=s.toks+1};refine qC (qO (qD (qC (wpAny_letGo ?_))));show wpAny _ _ (if ((es.size:Nat):Int)<0 then _ else _) _ _ _;rw[qE (by lia)];show wpAny _ _ (if ((es.size:Nat):Int)≥2^63 then _ else _) _ _ _;rw[qE (by lia)];exact qC (wpAny_mkInt (qD ⟨_,rfl,h⟩))
end
end PySem
namespace L2
open PySem PySem.Spec PyProof.Rows
variable{D:Ez}{H:Hp}{X:Cx}{a it:qR}{es:List Expr}{name:Str}{pos:Pos}{te tl to:TE}{tg:Expr}{tt:TT}{σ:St}{σf:List (Option V)}
section
variable(P:qT)(w:qU)(K:qV)
def SH(td ty:TE):TE:=λσ H Q=>td σ H λx H1=>ty σ H1 λy H2=>∃(d b:qR) (u:HO) (kvs:List (List BQ×V)) (k:List BQ) (v:V),x=.ref d/\y=.ref b/\DR P w K H2 d u kvs/\Aa K H2 b (k.map kV)/\BN kvs k=some v/\Q v H2
def VH(ty td:TE):TE:=λσ H Q=>ty σ H λy H1=>td σ H1 λx H2=>∃(d b:qR) (u:HO) (kvs:List (List BQ×V)) (k:List BQ),x=.ref d/\y=.ref b/\DR P w K H2 d u kvs/\Aa K H2 b (k.map kV)/\Q (.bl (BN kvs k).isSome) H2
def MY(ty td:TE):TE:=λσ H Q=>ty σ H λy H1=>td σ H1 λx H2=>∃(d b:qR) (u:HO) (kvs:List (List BQ×V)) (k:List BQ),x=.ref d/\y=.ref b/\DR P w K H2 d u kvs/\Aa K H2 b (k.map kV)/\Q (.bl (!(BN kvs k).isSome)) H2
def SI(td ty tv:TE):TS:=λD σ H=>tv σ H λv H1=>td σ H1 λx H2=>ty σ H2 λy H3=>∃(d b:qR) (kvs:List (List BQ×V)) (k:List BQ),x=.ref d/\y=.ref b/\DW P w K H3 d kvs/\Aa K H3 b (k.map kV)/\kvs.length<sizeLine/\∀u',DW P w K (AT H3 d u') d (CV kvs k v)->D.nx σ (AT H3 d u')
def SJ:TE:=λ_ H Q=>∀p u',H p=none->DW P w K (AT H p u') p []->Q (.ref p) (AT H p u')
noncomputable def Um(d:qR)(u:HO)(kvs:List (List BQ×V)):It:=
 ⟨λi H=>DR P w K H d u kvs/\i<kvs.length,λi H x H'=>H'=H/\∃(b:qR) (k:List BQ) (v:V),x=.ref b/\kvs[i]?=some (k,v)/\Aa K H b (k.map kV),λi H=>DR P w K H d u kvs/\kvs.length<=i⟩
def O3(tl:TE):TI:=λσ H R=>tl σ H λx H1=>∃(d:qR) (u:HO) (kvs:List (List BQ×V)),x=.ref d/\DR P w K H1 d u kvs/\∀u',DR P w K (AT H1 d u') d u' kvs->R (Um P w K d u' kvs) (AT H1 d u')
end
section
variable{o i value:Expr}{pos':Pos}{td ty tv:TE}
theorem Q8(hu:X.A.units+1<cLine)(ho:PE X o td)(hi:PE X i ty)(hs:TK i):PE X (.Subscript o i pos) (SH X.prog X.w X.K td ty):=by intro a6 s σ H Q I h;refine Q3 PySem.F.slot_dict_getitem.lookup hs (BJ (ho a6 s σ H _ I h) λu s1 ⟨x,H1,I1,rx,q1⟩=>BJ (hi a6 s1 σ H1 _ I1 q1) λiv s2 z9=>?_);obtain⟨y,H2,I2,ry,d,b,uu,kvs,k,v,ex,ey,r,q,l,q2⟩:=z9;subst ex ey;cases rx;cases ry;refine byG λGq hGq=>?_;obtain⟨bs,xs,_,_,_,_,_,dd⟩:=r.at I2;refine hGq ?_;clear hGq Gq;exact⟨dd.typeIs,NV hu I2 r q l λw' s3 I3 rw'=>⟨v,H2,I3,rw',q2⟩⟩
theorem TU(hu:X.A.units+1<cLine)(hi:PE X i ty)(ho:PE X o td):PC X .In i o (VH X.prog X.w X.K ty td):=by
 intro a6 s σ H Q I h;refine BJ (hi a6 s σ H _ I h) λiv s1 ⟨y,H1,I1,ry,q1⟩=>BJ (ho a6 s1 σ H1 _ I1 q1) λu s2 z9=>?_
 obtain⟨x,H2,I2,rx,d,b,uu,kvs,k,ex,ey,r,q,q2⟩:=z9;subst ex ey;cases rx;cases ry;exact Wr hu I2 r q λs3 I3=>⟨.bl (BN kvs k).isSome,H2,I3,rfl,q2⟩
theorem NX(hu:X.A.units+1<cLine)(hi:PE X i ty)(ho:PE X o td):PC X .NotIn i o (MY X.prog X.w X.K ty td):=by
 intro a6 s σ H Q I h;refine BJ (hi a6 s σ H _ I h) λiv s1 ⟨y,H1,I1,ry,q1⟩=>BJ (ho a6 s1 σ H1 _ I1 q1) λu s2 z9=>?_
 obtain⟨x,H2,I2,rx,d,b,uu,kvs,k,ex,ey,r,q,q2⟩:=z9;subst ex ey;cases rx;cases ry;exact Q7 hu I2 r q λs3 I3=>⟨.bl (!(BN kvs k).isSome),H2,I3,rfl,q2⟩
theorem Q9(hu:X.A.units+1<cLine)(ho:PE X o td)(hi:PE X i ty)(hv:PE X value tv)(hs:swapsWith value (some (.Subscript o i pos')) pos.line X.env=pure false):
  PS X (.Assign [.Subscript o i pos'] value pos) (SI X.prog X.w X.K td ty tv):=by
 intro a6 s σ H D I h;refine wpAny_Assign_Subscript (BJ (hv a6 s σ H _ I h) λr s1 ⟨v,H1,I1,rv,q1⟩=>BJ (ho a6 s1 σ H1 _ I1 q1) λu s2 ⟨x,H2,I2,rx,q2⟩=>BJ (hi a6 s2 σ H2 _ I2 q2) λiv s3 z9=>?_) hs;obtain⟨y,H3,I3,ry,d,b,kvs,k,ex,ey,g,q,l,q3⟩:=z9;subst ex ey;cases rx;cases ry;exact NW hu I3 g q l rv λu' s4 w4 I4=>⟨σ,_,I4,q3 u' w4⟩
theorem RA:PE X (.Dict [] [] pos) (SJ X.prog X.w X.K):=λa6 s σ H Q I h =>
 wpAny_Dict_empty ⟨.ref s.heap.objs.size,_,I.laid (a:=s.heap.objs.size) (o:=O0 X.prog X.w s.heap.objs.size []) (t':=s.toks) (λ_ _ q=>Xh _ q) (Xi _)
  ⟨⟨X4 _,beq_eq_false_iff_ne.mpr (Ne.symm (YA I.big)),[],.nil,_,#[],0,Xs _ rfl,⟨rfl,rfl,rfl⟩,rfl,rfl,Y2⟩,⟨_,Xs _ rfl⟩,λh1 h2 x k=>QN.stay x k⟩,rfl,
  h _ _ (I.hok.fresh (Xi _)) ⟨[],AE,rfl,λp hp=>nomatch hp⟩⟩
theorem NY:CJ X (.builtin "len") (λxs H Q=>∃(d:qR) (u:HO) (kvs:List (List BQ×V)),xs=[V.ref d]/\DR X.prog X.w X.K H d u kvs/\Q (.int kvs.length) H):=by
 intro a6 s σ H xs us Q I r h;refine byG λGq hGq=>?_;obtain⟨d,u,kvs,rfl,ha,q⟩:=h;refine hGq ?_;clear hGq Gq;obtain⟨uu,rfl,ru⟩:=E4 r;cases ru;refine byG λGq hGq=>?_;obtain⟨bs,ys,h3,_,rel,z,hd,dd⟩:=ha.at I;refine hGq ?_;clear hGq Gq;have hT:s.TypeIs (.ref d) "dict":=dd.typeIs;refine byG λGq hGq=>?_;obtain⟨ob,es,ep,g1,g2,g3,g4,_⟩:=dd;refine hGq ?_;clear hGq Gq
 have hz:es.size=kvs.length:=by have a:=qP List.length g4;have b:=Paired.length rel;rw[<-h3];simp at a;simp;lia
 have l1:bs.length=kvs.length:=by rw[<-h3,Xf]
 refine len_dictR hd hT g1 g3 (by rw[sizeLine_eq]at z;lia) ⟨.int kvs.length,H,I.tok _,⟨_,by rw[hz]⟩,q⟩
theorem LO(hu:X.A.units+1<cLine):Qc X "dict.setdefault" (λx xs H Q=>∃(d b:qR) (kvs:List (List BQ×V)) (k:List BQ) (y:V),x=.ref d/\xs=[.ref b,y]/\DW X.prog X.w X.K H d kvs/\Aa X.K H b (k.map kV)/\kvs.length<sizeLine /\
  (∀z,BN kvs k=some z->Q z H)/\(BN kvs k=none->∀u',DW X.prog X.w X.K (AT H d u') d (CV kvs k y)->Q y (AT H d u'))):=by
 intro a6 s σ H x xs v us Q I rx rs h;refine byG λGq hGq=>?_;obtain⟨d,b,kvs,k,y,rfl,rfl,e,eb,hz,h1,h2⟩:=h;refine hGq ?_;clear hGq Gq;refine byG λGq hGq=>?_;obtain⟨u1,u2,rfl,r1,r2⟩:=Jn rs;refine hGq ?_;clear hGq Gq;cases rx;cases r1;refine byG λGq hGq=>?_;obtain⟨bs,es,g1,g3,g4,rel,hl,hd,dd⟩:=e.at I;refine hGq ?_;clear hGq Gq;subst g3;have rk:=EW.val rel k;refine call_meetsIn Yu dd.typeIs PySem.F.entry_dict_setdefault (PySem.F.args_dict_setdefault_3 _ _ _) (meetsH_setDef (tupleKind (Au X.prog X.w)) d b hd u2) ⟨tupleKind_room_in1 hu,k,es,C8 I eb,dd,hl,λp hp=>?_,λhn hp dd' sb=>?_⟩
 ·rw[hp]at rk;cases hv:BN (bs.map GY) k with
  |none=>rw[hv]at rk;exact (show False from rk).elim
  |some t =>
   rw[hv]at rk;exact⟨t,H,I.tok _,rk,h1 t hv⟩
 ·have hv:BN (bs.map GY) k=none:=by
   cases hv:BN (bs.map GY) k with
   |none=>rfl
   |some t=>rw[hv,hn]at rk;exact (show False from rk).elim
  obtain⟨u',w',I'⟩:=DW.put (t':=s.toks+(tupleKind (Au X.prog X.w)).draws k) I g1 g4 rel hd eb hz r2 dd' sb;exact⟨y,_,I',r2,h2 hv u' w'⟩
theorem LQ{P:qT}{w:qU}{K:qV}{d:qR}{ob:Obj}{φ:Heap->Prop}{kvs:List (List BQ×V)}{es:Array DictEntry}{ep:Nat}(ho:ob.data=.dict es ep)(hl:es.size=kvs.length):IB P w K tg (Um P w K d (.frz ob (.ext φ)) kvs) [it] it (λi h=>h.IsKeyIter it d i es.size ep) where
 mem:=by simp
 obj:=λi h st b hb=>by
  have e:b=it:=by simpa using hb
  subst e;refine byG λGq hGq=>?_;obtain⟨o,e,c,d⟩:=st;refine hGq ?_;clear hGq Gq;exact⟨o,e,λv z=>by rw[d]at z;cases z⟩
 keep:=λi h h' st k=>st.at λo e=>k it (by simp) o e
 item:=by
  rintro X hP hw hK hc i a6 s σ H E I hf st ⟨hg,hi⟩;subst hP hw hK;refine byG λGq hGq=>?_;obtain⟨f0,f1,f2,f3,f4,f5⟩:=hf it (by simp);refine hGq ?_;clear hGq Gq;refine byG λGq hGq=>?_;obtain⟨bs,h1,h2,h3,h4⟩:=hg;refine hGq ?_;clear hGq Gq;obtain⟨g0,g1,_⟩:=(show Ag X.prog X.w H s.heap d (.frz ob (.ext φ)) from I.hok d _ h1)
  have dx:QN X.prog X.w d bs s.heap:=by
   rcases h2 with e|⟨o',e⟩
   ·cases e
   ·cases e;exact g1
  refine byG λGq hGq=>?_;obtain⟨_,_,xs,rel,o2,es2,ep2,e2,_,d2,rows,_⟩:=dx;refine hGq ?_;clear hGq Gq;rw[g0]at e2;cases e2;rw[ho]at d2;cases d2;have hie:i<es.size:=by lia
  have hib:i<bs.length:=by rw[<-h3,Xf]at hi;exact hi
  refine byG λGq hGq=>?_;obtain⟨q,hq,r1,r2,r3⟩:=A3 rel (i:=i) (x:=bs[i]) (by simp[hib]);refine hGq ?_;clear hGq Gq
  have he:es[i].key=.ref bs[i].2.1:=by
   have z:es.toList[i]?=some es[i]:=by simp[hie]
   rw[rows,Xl,hq]at z;rw[r2];exact (qP DictEntry.key (Option.some.inj z)).symm
  refine keys_item st g0 ho hie λh' st' sb=>?_;have I1:AR X a6 σ H {s with heap:=h'}:=I.turned (t':=s.toks) (λb o hb e=>(sb.2 b hb).trans e) f0 f1 f3 f4 f5;refine byG λGq hGq=>?_;obtain⟨oo,e,c,dd⟩:=id st';refine hGq ?_;clear hGq Gq;exact⟨_,rfl,Ls (s:={s with heap:=h'}) e c dd (by decide) ⟨.ref bs[i].2.1,H,I1,by rw[he];rfl,⟨rfl,bs[i].2.1,bs[i].1,bs[i].2.2,rfl,by rw[<-h3,List.getElem?_map];simp[hib,GY],h4 _ (List.getElem_mem _)⟩,st',λb hb=>(hf b hb).1⟩⟩
 done:=by rintro X hP hw hK hc i a6 s σ H E I hf st ⟨hg,hi⟩;subst hP hw hK;refine byG λGq hGq=>?_;obtain⟨f0,f1,f2,f3,f4,f5⟩:=hf it (by simp);refine hGq ?_;clear hGq Gq;obtain⟨bs,h1,_⟩:=hg;obtain⟨g0,g1⟩:=(show Ag X.prog X.w H s.heap d (.frz ob (.ext φ)) from I.hok d _ h1);exact keys_end (I.ok.hd hc) st g0 ho (by lia) λh' eb=>⟨rfl,I.turned (t':=s.toks) (λb o hb e=>eb b o hb e) f0 f1 f3 f4 f5⟩
 self:=λ_ _ _ _ _ st h=>wpAny_pyIter_keyiter st h
theorem O4{l:Expr}(hl:PE X l tl):PI X tg l (O3 X.prog X.w X.K tl):=by
 intro a6 s σ H R I h;refine BJ (hl a6 s σ H _ I h) λv s1 z9=>?_;obtain⟨x,H1,I1,r1,q1⟩:=z9;refine byG λGq hGq=>?_;obtain⟨d,u,kvs,e,hq,q⟩:=q1;refine hGq ?_;clear hGq Gq;subst e;cases r1;refine byG λGq hGq=>?_;obtain⟨bs,h1,h2,h3,h4⟩:=hq;refine hGq ?_;clear hGq Gq
 have dx:QN X.prog X.w d bs s1.heap:=by
  rcases h2 with e|⟨o,e⟩
  ·subst e;exact (show Ag X.prog X.w H1 s1.heap d (.ext _) from I1.hok d _ h1).1
  ·subst e;exact (show Ag X.prog X.w H1 s1.heap d (.ext _) from (show Ag X.prog X.w H1 s1.heap d (.frz o _) from I1.hok d _ h1).2).1
 refine byG λGq hGq=>?_;obtain⟨z,hm,xs,rel,o,es,ep,ho,hx,hd,rows,nd⟩:=dx;refine hGq ?_;clear hGq Gq
 have I2:AR X a6 σ (AT H1 d (.frz o (O0 X.prog X.w d bs))) s1:=by
  rcases h2 with e|⟨o',e⟩
  ·subst e;exact I1.freeze h1 (λ_ z=>nomatch z) (λ_ _ z=>nomatch z) (λ_ z=>nomatch z) (λ_ z=>nomatch z) ho
  ·subst e;obtain⟨g0,_⟩:=(show Ag X.prog X.w H1 s1.heap d (.frz o' _) from I1.hok d _ h1);rw[ho]at g0;cases g0;rw[TR h1];exact I1
 have hsz:es.size=kvs.length:=by have a:=qP List.length rows;have b:=Paired.length rel;rw[<-h3];simp at a;simp;lia
 have dr:DR X.prog X.w X.K (AT H1 d (.frz o (O0 X.prog X.w d bs))) d (.frz o (O0 X.prog X.w d bs)) kvs:=⟨bs,AE,.inr ⟨o,rfl⟩,h3,λp hp=>by
  have k:=h4 p hp;rcases h2 with e|⟨o',e⟩
  ·subst e;exact k.upd' h1
  ·subst e;rcases k with (z|⟨o2,z⟩)|z
   ·exact .inl (.inl (by rw[AJ (Bu z h1 λy=>nomatch y)];exact z))
   ·exact .inl (.inr ⟨o2,by rw[AJ (Bu z h1 λy=>by cases y)];exact z⟩)
   ·exact .inr z⟩
 refine keys_iter hm ⟨o,ho,hx.1⟩ ho hd ⟨s1.heap.objs.size,[s1.heap.objs.size],_,_,_,rfl,I2.kept (t':=s1.toks) λb o e=>Xh _ e,LQ hd hsz,⟨_,Xs _ rfl,rfl,rfl⟩,λb hb=>?_,q _ dr⟩;have e:b=s1.heap.objs.size:=by simpa using hb
 subst e;exact I2.fpOk (Xi _) (I2.hok.fresh (Xi _))
theorem IZ{P:qT}{w:qU}{K:qV}{d:qR}{u:HO}{kvs:List (List BQ×V)}{g:TG}{tb:TS}(Pv:Nat->St->Hp->Prop)(h0:Pv 0 σ H)(hl:∀i σ H,i<=kvs.length->Pv i σ H->DR P w K H d u kvs)
  (hs:∀i b k v σ H,kvs[i]?=some (k,v)->Aa K H b (k.map kV)->Pv i σ H->g (.ref b) σ H λσ2 H2=>tb {D with nx:=Pv (i+1),ct:=Pv (i+1),bk:=D.nx} σ2 H2) (hd:∀σ H,Pv kvs.length σ H->D.nx σ H):
  ∃W:Nat->Nat->St->Hp->Prop,(∃m,W 0 m σ H)/\∀i m σ H,W i m σ H ->
   ((Um P w K d u kvs).stop i H/\D.nx σ H)\/((Um P w K d u kvs).go i H/\∃N:St->Hp->Prop,(∀σ' H',N σ' H'->∃m',m'<m/\W (i+1) m' σ' H')/\∀x H',(Um P w K d u kvs).yld i H x H'->g x σ H' λσ2 H2=>tb {D with nx:=N,ct:=N,bk:=D.nx} σ2 H2):=by
 refine⟨λi m σ H=>m=kvs.length-i/\i<=kvs.length/\Pv i σ H,⟨kvs.length,by simp,Nat.zero_le _,h0⟩,?_⟩;rintro i m σ H ⟨rfl,hi,p⟩;have q:=hl i σ H hi p
 by_cases hlt:i<kvs.length
 ·refine .inr ⟨⟨q,hlt⟩,Pv (i+1),λσ' H' p'=>⟨kvs.length-(i+1),by lia,rfl,hlt,p'⟩,λx H' y=>?_⟩;refine byG λGq hGq=>?_;obtain⟨e,b,k,v,ex,hk,hb⟩:=y;refine hGq ?_;clear hGq Gq;subst e ex;exact hs i b k v σ _ hk hb p
 ·have e:i=kvs.length:=by lia
  subst e;exact .inl ⟨⟨q,Xi _⟩,hd σ H p⟩
theorem Es{P:qT}{w:qU}{K:qV}{d:qR}{u:HO}{kvs:List (List BQ×V)}{D:qR}{Q:VK}(Pv:Nat->List V->Hp->Prop)(h0:Pv 0 [] (AT H D (.lst [])))(hl:∀i ad H,i<=kvs.length->Pv i ad H->DR P w K H d u kvs)
  (hs:∀i b k v ad H2,kvs[i]?=some (k,v)->Aa K H2 b (k.map kV)->Pv i ad H2->tt (some (.ref b)::σf) H2 λt H4=>if t=true then te (some (.ref b)::σf) H4 λy H5=>H5 D=some (.lst ad)/\ad.length<sizeLine/\Pv (i+1) (ad++[y]) (AT H5 D (.lst (ad++[y]))) else Pv (i+1) ad H4)
  (hd:∀ad H2,Pv kvs.length ad H2->Q (.ref D) H2):Dy (Um P w K d u kvs) tt te σf D Q H:=by
 refine⟨λk i ad H=>k=kvs.length-i/\i<=kvs.length/\Pv i ad H,⟨kvs.length,by simp,Nat.zero_le _,h0⟩,?_⟩;rintro k i ad H2 ⟨rfl,hi,p⟩;have q:=hl i ad H2 hi p
 by_cases hlt:i<kvs.length
 ·refine .inr ⟨⟨q,hlt⟩,Pv (i+1),λl H' p'=>⟨kvs.length-(i+1),by lia,rfl,hlt,p'⟩,λx H' y=>?_⟩;refine byG λGq hGq=>?_;obtain⟨e,b,k,v,ex,hk,hb⟩:=y;refine hGq ?_;clear hGq Gq;subst e ex;exact hs i b k v ad _ hk hb p
 ·have e:i=kvs.length:=by lia
  subst e;exact .inl ⟨⟨q,Xi _⟩,hd ad H2 p⟩
section
variable{P:qT}{w:qU}{K:qV}
theorem CO(hP:X.prog=P)(hw:X.w=w)(hK:X.K=K)(hu:X.A.units+1<cLine)(ho:PE X o td)(hi:PE X i ty)(hs:TK i):PE X (.Subscript o i pos) (SH P w K td ty):=by subst hP hw hK;exact Q8 hu ho hi hs
theorem RB(hP:X.prog=P)(hw:X.w=w)(hK:X.K=K)(hu:X.A.units+1<cLine)(hi:PE X i ty)(ho:PE X o td):PC X .In i o (VH P w K ty td):=by subst hP hw hK;exact TU hu hi ho
theorem LR(hP:X.prog=P)(hw:X.w=w)(hK:X.K=K)(hu:X.A.units+1<cLine)(hi:PE X i ty)(ho:PE X o td):PC X .NotIn i o (MY P w K ty td):=by subst hP hw hK;exact NX hu hi ho
theorem D8(hP:X.prog=P)(hw:X.w=w)(hK:X.K=K)(hu:X.A.units+1<cLine)(ho:PE X o td)(hi:PE X i ty)(hv:PE X value tv)(hs:swapsWith value (some (.Subscript o i pos')) pos.line X.env=pure false):PS X (.Assign [.Subscript o i pos'] value pos) (SI P w K td ty tv):=by subst hP hw hK;exact Q9 hu ho hi hv hs
theorem FK(hP:X.prog=P)(hw:X.w=w)(hK:X.K=K):PE X (.Dict [] [] pos) (SJ P w K):=by subst hP hw hK;exact RA
theorem LS(hP:X.prog=P)(hw:X.w=w)(hK:X.K=K):CJ X (.builtin "len") (λxs H Q=>∃(d:qR) (u:HO) (kvs:List (List BQ×V)),xs=[V.ref d]/\DR P w K H d u kvs/\Q (.int kvs.length) H):=by subst hP hw hK;exact NY
theorem GD(hP:X.prog=P)(hw:X.w=w)(hK:X.K=K)(hu:X.A.units+1<cLine):Qc X "dict.setdefault" (λx xs H Q=>∃(d b:qR) (kvs:List (List BQ×V)) (k:List BQ) (y:V),x=.ref d/\xs=[.ref b,y]/\DW P w K H d kvs/\Aa K H b (k.map kV)/\kvs.length<sizeLine /\
  (∀z,BN kvs k=some z->Q z H)/\(BN kvs k=none->∀u',DW P w K (AT H d u') d (CV kvs k y)->Q y (AT H d u'))):=by subst hP hw hK;exact LO hu
theorem DO(hP:X.prog=P)(hw:X.w=w)(hK:X.K=K){l:Expr}(hl:PE X l tl):PI X tg l (O3 P w K tl):=by subst hP hw hK;exact O4 hl
noncomputable def MZ(K:qV)(a:qR)(ns:qW):Bool:=match K.lookup a with
 |some o=>o.cls==.type "tuple"&&(match o.data with|.seq its _=>decide (its.size<=1000)&&decide (its.toList.map QU=ns.map λn=>some (V.int n))|_=>false)
 |none=>false
end
end
theorem KJ:∀{ns:qW} {us:List qQ},us.map QU=ns.map (λn=>some (V.int n))->Aq (ns.map V.int) us
 |[],[],_=>.nil
 |[],_::_,h=>by cases h
 |_::_,[],h=>by cases h
 |n::ns,u::us,h=>by
  rw[Yg,Yg]at h
  injection h with h1 h2
  refine .cons ?_ (KJ h2);cases u<;>simp[QU]at h1;subst h1;exact⟨_,rfl⟩
theorem GZ{K:qV}{ns:qW}(h:MZ K a ns=true)(H:Hp):Aa K H a (ns.map V.int):=by
 unfold MZ at h
 split at h
 ·rename_i o e
  rw[Yy]at h;obtain⟨h1,h2⟩:=h
  split at h2
  ·rename_i its n ed
   rw[Yy]at h2;have s:=qN h2.1;exact .inr ⟨o,its,n,e,eq_of_beq h1,ed,by rw[sizeLine_eq];lia,KJ (qN h2.2)⟩
  ·cases h2
 ·cases h
def Ws(P:qT)(w:qU)(K:qV)(r:V->List V->Hp->VK->Prop)(to:TE)(t:TA):TE:=λσ H Q=>to σ H λx H1=>(∃(d:qR) (u:HO) (kvs:List (List BQ×V)),x=.ref d/\DR P w K H1 d u kvs)/\t σ H1 λxs H2=>r x xs H2 Q
theorem O5{P:qT}{w:qU}{K:qV}{o e:Expr}{t:TA}{apos cpos:Pos}{id:String}{r:V->List V->Hp->VK->Prop}(hP:X.prog=P)(hw:X.w=w)(hK:X.K=K)(slot:Slot "dict" name id)(hty:typeOf (.builtin id)=pure (.type "method_descriptor"))(hm:Qc X id r)(ho:PE X o to)(ha:PA X (e::es) t)(hbase:attributeBase o name X.env (eval o X.env)=eval o X.env:=by rfl)(hfew:((backTo cpos (starEach (e::es) X.env)).all (λx=>!x.1)&&(backToKw cpos (keywordEach [] X.env)).all (λx=>x.1.isSome)&&decide ((e::es).length+([]:List Keyword).length+(if ([]:List Keyword).isEmpty then 0 else 1)<30))=true:=by rfl)(hline:(apos.endLine==cpos.line)=true:=by rfl)
  (hs:starEach (e::es) X.env=(false,eval e X.env)::starEach es X.env:=by rfl) (hplain:(backTo cpos (starEach es X.env)).any (·.1)=false:=by rfl):PE X (.Call (.Attribute o name apos) (e::es) [] cpos) (Ws P w K r to t):=by
 subst hP hw hK;intro a6 s σ H Q I h;refine wpAny_Call_method_late hbase hfew hline rfl (BJ (ho a6 s σ H _ I h) λv s1 z9=>?_);obtain⟨x,H1,I1,r1,⟨d,u,kvs,ex,dr⟩,q1⟩:=z9;subst ex;cases r1;refine byG λGq hGq=>?_;obtain⟨bs,xs,_,_,_,_,_,dd⟩:=dr.at I1;refine hGq ?_;clear hGq Gq;have h1:s1.TypeIs (.ref d) "dict":=dd.typeIs
 refine⟨"dict",id,Zr,slot,hty,h1,λb q=>by cases q;refine byG λGq hGq=>?_;obtain⟨ob,_,_,g1,g2,_⟩:=dd;refine hGq ?_;clear hGq Gq;exact⟨ob,g1,g2.2.1⟩,?_⟩
 have hA:=ha cpos a6 s1 σ H1 _ I1 q1;rw[hs]at hA⊢;refine Calls.callWith_builtin (by show (false||(backTo cpos (starEach es X.env)).any (·.1))=false;rw[hplain]<;>rfl) (Calls.evalArgs_plain (BJ hA λus s2 ⟨vs,H2,I2,r2,q2⟩=>hm a6 s2 σ H2 (.ref d) vs (.ref d) us Q I2 rfl r2 q2))
theorem LU:Qc X "dict.setdefault" (λx xs H Q=>∃(d:qR) (kvs:List (BQ×V)) (k:BQ) (y:V),x=.ref d/\xs=[kV k,y]/\H d=some (.dK kvs)/\kvs.length<sizeLine /\
  (∀z,BN kvs k=some z->Q z H)/\(BN kvs k=none->Q y (AT H d (.dK (CV kvs k y))))):=by
 intro a6 s σ H x xs v us Q I rx rs h;obtain⟨d,kvs,k,y,rfl,rfl,e,hz,h1,h2⟩:=h;obtain⟨u1,u2,rfl,r1,r2⟩:=Jn rs;cases rx;obtain⟨z,hd,vs,rel,dd⟩:=VE I.hok e;have hl:vs.length<=sizeLine:=by rw[<-rel.length];exact z
 have rk:=rel.val k;refine call_meetsIn Yu dd.typeIs PySem.F.entry_dict_setdefault (PySem.F.args_dict_setdefault_3 _ _ _) (kt_meets_setdefault (Au X.prog X.w) d (SF r1) hd u2) ⟨vs,dd,hl,λp hp=>?_,λhn h' dd' sb=>?_⟩
 ·rw[hp]at rk;cases hv:BN kvs k with
  |none=>rw[hv]at rk;exact (show False from rk).elim
  |some t =>
   rw[hv]at rk;exact⟨t,H,I.tok _,rk,h1 t hv⟩
 ·have hv:BN kvs k=none:=by
   cases hv:BN kvs k with
   |none=>rfl
   |some t=>rw[hv,hn]at rk;exact (show False from rk).elim
  have hlen:(CV kvs k y).length<=sizeLine:=by have:=GC kvs k y;lia
  have he:∃q,h'.get? d=some q:=let ⟨q,_,_,hq,_⟩:=dd';⟨q,hq⟩;exact⟨y,_,MU (ob:=.dK (CV kvs k y)) I (by rw[e];exact True.intro) sb he (TJ hlen hd (rel.put k r2) dd'),r2,h2 hv⟩
end L2
namespace PySem
open Sem (wp)
end PySem
namespace L2
open PySem PySem.Spec PyProof.Rows
variable{X:Cx}
theorem Ma{K:qV}(h:X.K=K)(hu:X.A.units+64<cLine):Ec X (compareOp .Eq) (VB K):=h▸S8 hu
end L2
namespace PySem
open PyProof.Rows
section
variable{prog:qT}{w:qU}{K:Type}[DecidableEq K]{knd:HeapKind prog w K}{A:Around}{E:qQ->qS->Prop}{s:qS}
theorem samePairs_heap{nm:String}{a b:qR}{xa xb:List (K×qR×qQ)}{Q:Bool->qS->Prop}(hu:knd.room A)(ha:(a==sysModules)=false)(hb:(b==sysModules)=false)
  (da:s.heap.DictOfH knd a xa) (db:s.heap.DictOfH knd b xb) (hl:xa.length=xb.length) (hv:∀x∈xa,∃y,atKey xb x.1=some y/\SeqAt.EqAt A s x.2.2 y.2 true) (h:Q true s):
  wpAny (model prog w) A (Builtin.Dict.samePairs nm a b) Q E s:=by
 obtain⟨oa,es,ep,hoa,_,hda,hea,hka,_⟩:=da;obtain⟨ob,es',ep',hob,_,hdb,heb,hkb,hnb⟩:=db;have hla:es.size=xa.length:=by rw[<-X0,hea,Xf]
 have hlb:es'.size=xb.length:=by rw[<-X0,heb,Xf]
 unfold Builtin.Dict.samePairs Builtin.Dict.showsAll;rw[qE (show ¬(a==sysModules)=true by rw[ha];exact Xx),qE (show ¬(b==sysModules)=true by rw[hb];exact Xx)];refine qC (qD (qC (qD ?_)));refine qC (wpAny_dictEntries hoa hda ?_);dsimp only;refine qC (wpAny_dictEntries hob hdb ?_);rw[qE (by rw[hla,hlb,hl];simp)];refine qC (wpAny_dictEpoch hoa hda ?_);refine qC ?_;rw[Std.Legacy.Range.forIn_eq_forIn_range'];simp only[Std.Legacy.Range.size,Nat.sub_zero,Nat.add_sub_cancel,Nat.div_one];refine wpAny_forIn_list _ (λrest q s'=>s'=s/\q=(none,())/\∃i,rest=List.range' i (es.size-i)/\i<=es.size) _ ?_ ?_ _ _ ⟨rfl,rfl,0,by simp,Nat.zero_le _⟩
 ·rintro x rest q s' ⟨rfl,rfl,i,hr,hi⟩
  have hlt:i<es.size:=by
   rcases Nat.lt_or_ge i es.size with h|h
   ·exact h
   ·rw[Nat.sub_eq_zero_of_le h]at hr;simp at hr
  obtain⟨rfl,hrest⟩:x=i/\rest=List.range' (i+1) (es.size-(i+1)):=by
   have e:es.size-i=(es.size-(i+1))+1:=by lia
   rw[e,List.range'_succ]at hr
   injection hr with h1 h2
   exact⟨h1,h2⟩
  refine qC (wpAny_dictEntries hoa hda ?_);have hx:x<xa.length:=by lia
  rw[entry_at hea x,Xj hx];have hm:=YY hx;obtain⟨y,hy,he⟩:=hv _ hm;show wpAny _ _ (holding [.ref xa[x].2.1,xa[x].2.2] _ >>= _) _ _ _;refine qC (qO (qC (wpAny_dictFind_heap (k:=xa[x].1) (xs:=xb) hu (hka _ hm) hob hdb heb hkb hnb (λhno=>?_) λj p hj=>?_)))
  ·rw[atKey_none_of_get hno]at hy;cases hy
  ·rw[atKey_of_get hnb hj]at hy;cases hy;refine qC (wpAny_dictEntries hob hdb ?_);rw[entry_at heb j,hj];refine qO (he prog w _ _ ?_);show wpAny _ _ (if (!true)=true then _ else _) _ _ _;rw[qE (by decide)];refine qC (wpAny_dictEpoch hoa hda ?_);rw[qE (by simp)];exact qD ⟨rfl,rfl,x+1,hrest,hlt⟩
 ·rintro q s' ⟨rfl,rfl,i,hr,hi⟩;exact qD h
theorem eq_heap{a b:qR}{xa xb:List (K×qR×qQ)}{Q:qQ->qS->Prop}(hu:knd.room A.in1)(hu2:A.units<cLine)(ha:(a==sysModules)=false)(hb:(b==sysModules)=false)
  (da:s.heap.DictOfH knd a xa) (db:s.heap.DictOfH knd b xb) (hl:xa.length=xb.length) (hv:∀x∈xa,∃y,atKey xb x.1=some y/\SeqAt.EqAt A.in1 s x.2.2 y.2 true) (h:Q (.bool true) s):
  wpAny (model prog w) A (compareOp .Eq (.ref a) (.ref b)) Q E s:=by
 refine wpAny_richCompare_same_room (op:=.Eq) da.typeIs db.typeIs PySem.F.slot_dict_eq (wpAny_call_entry PySem.F.slot_dict_eq da.typeIs PySem.F.entry_dict_eq ?_ (PySem.F.args_dict_eq_2 _ _)) hu2;show wpAny _ _ (Builtin.Dict.dictSlotArgs "__eq__" ⟨[.ref a,.ref b],[]⟩ >>= _) _ _ s;refine qC ?_;unfold Builtin.Dict.dictSlotArgs;refine qC (wpAny_notOrdered_dict da.typeIs ?_);show wpAny _ _ (pure (Value.ref a,Value.ref b)) _ _ s;refine qD ?_;refine qC (wpAny_isInstance (T:="dict") db.typeIs PySem.F.sub_dict_dict ?_);simp only[Bool.not_true,Bool.false_eq_true,if_false];refine qC (qD (qC (qD ?_)));refine qC (samePairs_heap hu ha hb da db hl hv ?_);refine qD ⟨_,rfl,?_,?_⟩
 ·exact λx=>nomatch x
 ·simpa using h
end
end PySem
namespace L2
open PySem PySem.Spec PyProof.Rows
variable{D:Ez}{H:Hp}{T:String}{X:Cx}{c tg:Expr}{es:List Expr}{it:qR}{name:Str}{o:Obj}{pos:Pos}{ta:TA}{tl to:TE}{σ:St}
section
variable{P:qT}{w:qU}{K:qV}
def Wt(P:qT)(w:qU)(K:qV):R2:=λx y H Q=>∃(a b:qR) (u v:HO) (ka kb:List (List BQ×V)),x=.ref a/\y=.ref b/\DR P w K H a u ka/\DR P w K H b v kb/\ka.length=kb.length/\(∀p∈ka,∃n:Int,p.2=.int n/\BN kb p.1=some (.int n))/\Q (.bl true) H
theorem TV(hP:X.prog=P)(hw:X.w=w)(hK:X.K=K)(hu:X.A.units+1<cLine):Ec X (compareOp .Eq) (Wt P w K):=by
 subst hP hw hK;intro a6 s σ H x y v u Q I rx ry h;obtain⟨a,b,ua,ub,ka,kb,rfl,rfl,ra,rb,hl,hv,q⟩:=h;cases rx;cases ry;obtain⟨ba,xa,a3,_,la,_,ha,da⟩:=ra.at I;obtain⟨bb,xb,b3,_,lb,_,hb,db⟩:=rb.at I;have e1:=Paired.length la;have e2:=Paired.length lb;refine eq_heap (knd:=tupleKind (Au X.prog X.w)) (tupleKind_room_in1 hu) (Nat.lt_of_succ_lt hu) ha hb da db ?_ (λz hz=>?_) ⟨.bl true,H,I,rfl,q⟩
 ·rw[<-a3,<-b3,Xf,Xf]at hl;lia
 ·obtain⟨i,hi⟩:=YC.mp hz;have il:=(Xg.mp hi).1;obtain⟨y,hy,r1,_,r3⟩:=A3 la (i:=i) (x:=ba[i]'(by lia)) (Xj _);rw[hi]at hy;cases hy;obtain⟨n,p1,p2⟩:=hv (GY (ba[i]'(by lia))) (by rw[<-a3];exact List.mem_map_of_mem (YY _));have rk:=EW.val lb z.1;rw[b3,<-r1,show BN kb (ba[i]'(by lia)).1=some (.int n) from p2]at rk;obtain⟨w',hw,rw'⟩:=Ge.some_of rk;obtain⟨p,hp,hp2⟩:=Xz.mp hw;refine⟨p,by rw[<-r1];exact hp,?_⟩;rw[show (ba[i]'(by lia)).2.2=.int n from p1]at r3;obtain⟨t1,e1⟩:=r3;obtain⟨t2,e2⟩:=rw';rw[hp2,e1,e2];have z:=SeqAt.EqAt.int_int (A:=X.A.in1) (s:=s) n t1 n t2;rw[beq_self_eq_true]at z;exact z
theorem RC(hK:X.K=K)(hu:X.A.units+64<cLine):Ec X (compareOp .NotEq) (Sz K):=hK▸S5 hu
theorem RD{id:String}{o:Expr}{apos cpos:Pos}{r:V->List V->Hp->VK->Prop}(hK:X.K=K)(pa:PlainAttrs T)(slot:Slot T name id)(hty:typeOf (.builtin id)=pure (.type "method_descriptor"))(hm:Qc X id r)(ho:PE X o to)
  (hbase:attributeBase o name X.env (eval o X.env)=eval o X.env:=by rfl) (hline:(apos.endLine==cpos.line)=true:=by rfl):PE X (.Call (.Attribute o name apos) [] [] cpos) (U2 K T r to):=hK▸Sv pa slot hty hm ho hbase hline
theorem Wu{l r:Expr}{p pos tpos:Pos}{elts:List Expr}{ctx:Nat}(K:qV)(hg:Gl X "zip")(hm:X.mg "zip"=none)(ha:PA X [l,r] ta)(hK:X.K=K:=by rfl)(hs:starEach [l,r] X.env=[(false,eval l X.env),(false,eval r X.env)]:=by rfl)(hs2:starEach [r] X.env=[(false,eval r X.env)]:=by rfl):PI X (.Tuple elts ctx tpos) (.Call (.Name "zip" p) [l,r] [] pos) (VG K ta):=hK▸TM hg hm ha hs hs2
theorem VI{k:Nat}{t:QI}{pos:Pos}(K:qV)(n:Nat)(hc:X.calm=true)(h:Uh X es t)(hK:X.K=K:=by rfl)
  (hn:(assignEach es X.env).length=n:=by rfl) (hst:(assignEach es X.env).findIdx? (·.1)=none:=by rfl):PG X (.Tuple es k pos) (Ux K n t):=hK▸N6 hc h hn hst
theorem KL{a:Expr}{ta tc:TE}{p pos:Pos}(K:qV)(hg:Gl X "isinstance")(hm:X.mg "isinstance"=none)(ha:PE X a ta)(hc:PE X c tc)(hK:X.K=K:=by rfl)(h1:starEach [a,c] X.env=(false,eval a X.env)::starEach [c] X.env:=by rfl)(h2:starEach [c] X.env=(false,eval c X.env)::starEach [] X.env:=by rfl)
  (h3:(backTo pos (starEach [c] X.env)).any (·.1)=false:=by rfl):PE X (.Call (.Name "isinstance" p) [a,c] [] pos) (Uk (Ql K) (Dt ta (Dt tc IC))):=hK▸S6 hg hm ha hc h1 h2 h3
theorem Wv{l:Expr}{p1 p2 pos1 pos2:Pos}(K:qV)(hc:X.calm=true)(hg:Gl X "reversed")(hm:X.mg "reversed"=none)(hg2:Gl X "list")(hm2:X.mg "list"=none)(ha:PA X [l] ta)(hK:X.K=K:=by rfl)(hs:starEach [l] X.env=[(false,eval l X.env)]:=by rfl)
  (hs2:starEach [.Call (.Name "reversed" p1) [l] [] pos1] X.env=[(false,eval (.Call (.Name "reversed" p1) [l] [] pos1) X.env)]:=by rfl):PE X (.Call (.Name "list" p2) [.Call (.Name "reversed" p1) [l] [] pos1] [] pos2) (OW K ta):=hK▸Qm hc hg hm hg2 hm2 ha hs hs2
theorem VJ{c:TT}{t u:TS}(Z:Bool->Hp->Prop)(hc:∀Q:Bool->Hp->Prop,(∀b H1,Z b H1->Q b H1)->c σ H Q)(h1:∀H1,Z true H1->t D σ H1)(h0:∀H1,Z false H1->u D σ H1):QV c t u D σ H:=
 hc _ λb H1 z=>by
  cases b with
  |true=>rw[qF rfl];exact h1 H1 z
  |false=>rw[qE Xx];exact h0 H1 z
def TW(P:qT)(w:qU)(K:qV)(tk tv:TE):TE:=λσ H Q=>∀p u,H p=none->DW P w K (AT H p u) p []->tk σ (AT H p u) λx H1=>tv σ H1 λy H2=>∃(b:qR) (k:List BQ),x=.ref b/\DW P w K H2 p []/\Aa K H2 b (k.map kV)/\∀u',DW P w K (AT H2 p u') p [(k,y)]->Q (.ref p) (AT H2 p u')
theorem O6{k v:Expr}{tk tv:TE}(hP:X.prog=P)(hw:X.w=w)(hK:X.K=K)(hu:X.A.units<cLine)(hk:PE X k tk)(hv:PE X v tv):PE X (.Dict [some k] [v] pos) (TW P w K tk tv):=by
 subst hP hw hK;intro a6 s σ H Q I q;have hn:=I.hok.fresh (Xi s.heap.objs.size)
 have I1:=I.laid (a:=s.heap.objs.size) (o:=O0 X.prog X.w s.heap.objs.size []) (h':=s.heap.push {cls:=.type "dict",data:=.dict #[]}) (t':=s.toks) (λ_ _ z=>Xh _ z) (Xi _)
  ⟨⟨X4 _,beq_eq_false_iff_ne.mpr (Ne.symm (YA I.big)),[],.nil,_,#[],0,Xs _ rfl,⟨rfl,rfl,rfl⟩,rfl,rfl,Y2⟩,⟨_,Xs _ rfl⟩,λh1 h2 x k=>QN.stay x k⟩
 have h:=Ou (pos:=pos) hk hv (Q4 (X:=X) (pos:=pos));refine wpAny_Dict_any rfl rfl (by simp) (show 1<=15 by decide) (BJ (h a6 _ σ _ (λps H2=>match ps with|[(x,y)]=>∃(b:qR) (k:List BQ),x=.ref b/\DW X.prog X.w X.K H2 s.heap.objs.size []/\Aa X.K H2 b (k.map kV)/\∀u',DW X.prog X.w X.K (AT H2 s.heap.objs.size u') s.heap.objs.size [(k,y)]->Q (.ref s.heap.objs.size) (AT H2 s.heap.objs.size u')|_=>False) I1 (q _ _ hn ⟨[],AE,rfl,λp hp=>nomatch hp⟩)) λws s2 ⟨ps,H2,I2,rel,z0⟩=>?_);cases ps with
 |nil=>exact (show False from z0).elim
 |cons p ps =>
 cases ps with
 |cons _ _=>exact (show False from z0).elim
 |nil =>
  obtain⟨x,y⟩:=p;obtain⟨b,k,ex,e,eb,q2⟩:=z0;subst ex;cases rel with
  | @cons p1 p2 r1 r2 hh t =>
  cases t;obtain⟨u1,u2⟩:=p2;obtain⟨ru,rw'⟩:=hh;cases ru;obtain⟨bs,xs,h1,h3,h4,rel,hl,hd,dd⟩:=e.at I2;cases bs with
  |cons _ _=>cases h3
  |nil =>
  unfold storeAll;rw[List.forIn_cons];refine qC (qC (wpAny_dictSet_heap (hsz:=hl) (knd:=tupleKind (Au X.prog X.w)) hu (C8 I2 eb) dd λhp dd' sb=>qD ?_));show wpAny _ _ (forIn [] PUnit.unit _) _ _ _;rw[List.forIn_nil];refine qD ?_;obtain⟨u',w',I'⟩:=DW.put (t':=s2.toks+(tupleKind (Au X.prog X.w)).draws k) I2 h1 h4 rel hd eb (show 0<sizeLine by decide) rw' dd' sb;exact⟨.ref s.heap.objs.size,_,I',rfl,q2 u' w'⟩
noncomputable def TY(p d:qR):HO:=.ext λh=>h.IsValuesView p d
theorem NZ:Qc X "dict.values" (λx xs H Q=>∃(d:qR) (kvs:List (BQ×V)),x=.ref d/\xs=[]/\Rd H d (.dK kvs)/\∀p,H p=none->Q (.ref p) (AT H p (TY p d))):=by intro a6 s σ H x xs v us Q I rx rs h;obtain⟨d,kvs,rfl,rfl,hq,q⟩:=h;cases rx;have hus:=rs.zero;subst hus;obtain⟨z,hd,vs,rel,dd⟩:=SG I.hok hq;refine call_meetsIn PySem.F.slot_dict_values dd.typeIs PySem.F.entry_dict_values (PySem.F.args_dict_values_1 _) (meets_dict_values (Au X.prog X.w) d hd) ⟨⟨vs,dd⟩,?_⟩;refine⟨.ref s.heap.objs.size,_,I.laid (a:=s.heap.objs.size) (o:=TY s.heap.objs.size d) (t':=s.toks) (λ_ _ z=>Xh _ z) (Xi _) ⟨⟨_,Xs _ rfl,rfl,rfl⟩,⟨_,Xs _ rfl⟩,λh1 h2 x k=>?_⟩,rfl,q _ (I.hok.fresh (Xi _))⟩;obtain⟨o,e,c⟩:=x;exact⟨o,k o e,c⟩
noncomputable def O7(d:qR)(o:Obj)(kvs:List (BQ×V)):It:=
 ⟨λi H=>H d=some (.frz o (.dK kvs))/\i<kvs.length,λi H x H'=>H'=H/\∃(k:BQ) (v:V),x=v/\kvs[i]?=some (k,v),λi H=>H d=some (.frz o (.dK kvs))/\kvs.length<=i⟩
theorem LV{d:qR}{kvs:List (BQ×V)}{es:Array DictEntry}{ep:Nat}(ho:o.data=.dict es ep):IB P w K tg (O7 d o kvs) [it] it (λi h=>h.IsValIter it d i kvs.length ep) where
 mem:=by simp
 obj:=λi h st b hb=>by
  have e:b=it:=by simpa using hb
  subst e;obtain⟨o,e,c,d⟩:=st;exact⟨o,e,λv z=>by rw[d]at z;cases z⟩
 keep:=λi h h' st k=>by obtain⟨o,e,c⟩:=st;exact⟨o,k it (by simp) o e,c⟩
 item:=by rintro X hP hw hK hc i a6 s σ H E I hf st ⟨hg,hi⟩;subst hP hw hK;obtain⟨f0,f1,f2,f3,f4,f5⟩:=hf it (by simp);obtain⟨g0,g1⟩:=(show Ag X.prog X.w H s.heap d (.frz o (.dK kvs)) from I.hok d _ hg);obtain⟨_,_,vs,r,o2,es2,ep2,e2,x2,d2,ks,prs,nd⟩:=(show Ag X.prog X.w H s.heap d (.dK kvs) from g1);rw[g0]at e2;cases e2;have ed:=d2;rw[ho]at ed;cases ed;obtain⟨p,hp⟩:∃p,kvs[i]?=some p:=⟨kvs[i],by simp[hi]⟩;obtain⟨q,hq,r1,r3⟩:=A3 r hp;have len:=Paired.length r;rw[len]at st;refine wpAny_pyNext_values_item (knd:=Au X.prog X.w) st ⟨_,_,g0,x2,d2,ks,prs,nd⟩ hq λh' st' sb=>?_;have I1:AR X a6 σ H {s with heap:=h'}:=I.turned (t':=s.toks) (λb o hb e=>(sb.2 b hb).trans e) f0 f1 f3 f4 f5;obtain⟨oo,e,c,dd⟩:=id st';exact⟨_,rfl,Ls (s:={s with heap:=h'}) e c dd (by decide) ⟨p.2,H,I1,r3,⟨rfl,p.1,p.2,rfl,hp⟩,by rw[len];exact st',λb hb=>(hf b hb).1⟩⟩
 done:=by rintro X hP hw hK hc i a6 s σ H E I hf st ⟨hg,hi⟩;subst hP hw hK;obtain⟨f0,f1,f2,f3,f4,f5⟩:=hf it (by simp);obtain⟨g0,g1⟩:=(show Ag X.prog X.w H s.heap d (.frz o (.dK kvs)) from I.hok d _ hg);obtain⟨_,_,vs,r,o2,es2,ep2,e2,x2,d2,ks,prs,nd⟩:=(show Ag X.prog X.w H s.heap d (.dK kvs) from g1);rw[g0]at e2;cases e2;have ed:=d2;rw[ho]at ed;cases ed;have len:=Paired.length r;rw[len]at st;exact wpAny_pyNext_values_end (knd:=Au X.prog X.w) (I.ok.hd hc) st ⟨_,_,g0,x2,d2,ks,prs,nd⟩ (ZY (by lia)) λh' eb=>⟨rfl,I.turned (t':=s.toks) (λb o hb e=>eb b o hb e) f0 f1 f3 f4 f5⟩
 self:=λ_ _ _ _ _ st h=>wpAny_pyIter_valiter st h
def TZ(tl:TE):TI:=λσ H R=>tl σ H λx H1=>∃(p d:qR) (kvs:List (BQ×V)),x=.ref p/\H1 p=some (TY p d)/\H1 d=some (.dK kvs)/\∀o,R (O7 d o kvs) (AT H1 d (.frz o (.dK kvs)))
theorem O8{l:Expr}(hl:PE X l tl):PI X tg l (TZ tl):=by
 intro a6 s σ H R I h;refine BJ (hl a6 s σ H _ I h) λv s1 z9=>?_;obtain⟨x,H1,I1,r1,q1⟩:=z9;obtain⟨p,d,kvs,e,hp,hq,q⟩:=q1;subst e;cases r1;obtain⟨z,hm,vs,r,o,es,ep,ho,hx,hd,ks,prs,nd⟩:=(show Ag X.prog X.w H1 s1.heap d (.dK kvs) from I1.hok d _ hq);have vw:s1.heap.IsValuesView p d:=(show Ag X.prog X.w H1 s1.heap p (.ext _) from I1.hok p _ hp).1;have I2:AR X a6 σ (AT H1 d (.frz o (.dK kvs))) s1:=I1.freeze hq (λ_ z=>nomatch z) (λ_ _ z=>nomatch z) (λ_ z=>nomatch z) (λ_ z=>nomatch z) ho;refine wpAny_pyIter_values (knd:=Au X.prog X.w) vw ⟨o,es,ho,hx,hd,ks,prs,nd⟩ ⟨s1.heap.objs.size,[s1.heap.objs.size],_,_,_,rfl,I2.kept (t':=s1.toks) λb o e=>Xh _ e,LV hd,⟨_,Xs _ rfl,rfl,by rw[Paired.length r];rfl⟩,λb hb=>?_,q o⟩;have e:b=s1.heap.objs.size:=by simpa using hb
 subst e;exact I2.fpOk (Xi _) (I2.hok.fresh (Xi _))
theorem Na{d:qR}{kvs:List (BQ×V)}{g:TG}{tb:TS}(Pv:Nat->St->Hp->Prop)(h0:Pv 0 σ H)(hl:∀i σ H,i<=kvs.length->Pv i σ H->H d=some (.frz o (.dK kvs)))
  (hs:∀i k v σ H,kvs[i]?=some (k,v)->Pv i σ H->g v σ H λσ2 H2=>tb {D with nx:=Pv (i+1),ct:=Pv (i+1),bk:=D.nx} σ2 H2) (hd:∀σ H,Pv kvs.length σ H->D.nx σ H):
  ∃W:Nat->Nat->St->Hp->Prop,(∃m,W 0 m σ H)/\∀i m σ H,W i m σ H ->
   ((O7 d o kvs).stop i H/\D.nx σ H)\/((O7 d o kvs).go i H/\∃N:St->Hp->Prop,(∀σ' H',N σ' H'->∃m',m'<m/\W (i+1) m' σ' H')/\∀x H',(O7 d o kvs).yld i H x H'->g x σ H' λσ2 H2=>tb {D with nx:=N,ct:=N,bk:=D.nx} σ2 H2):=by
 refine⟨λi m σ H=>m=kvs.length-i/\i<=kvs.length/\Pv i σ H,⟨kvs.length,by simp,Nat.zero_le _,h0⟩,?_⟩;rintro i m σ H ⟨rfl,hi,p⟩;have q:=hl i σ H hi p
 by_cases hlt:i<kvs.length
 ·refine .inr ⟨⟨q,hlt⟩,Pv (i+1),λσ' H' p'=>⟨kvs.length-(i+1),by lia,rfl,hlt,p'⟩,λx H' y=>?_⟩;obtain⟨e,k,v,ex,hk⟩:=y;subst e ex;exact hs i k _ σ _ hk p
 ·have e:i=kvs.length:=by lia
  subst e;exact .inl ⟨⟨q,Xi _⟩,hd σ H p⟩
end
end L2
namespace L2
open PySem PySem.Spec PyProof.Rows RW
variable{G j:Nat}{H H':Hp}{X:Cx}{a l:qR}{a7:qW}{te tl:TE}{tg:Expr}{tt:TT}{xs ys:List V}{α β:Type}{σf:List (Option V)}
noncomputable def C9(p:qX):qX:=if p.1=p.2 then (0,0) else p
theorem Cp(u:Nat):C9 (u,u)=(0,0):=qF rfl
def LW(G h:Nat)(a7:qW)(p q:qX):Prop:=∃a b,a<h*G/\b<h*G/\a≠b/\a7.getD a 0=a7.getD b 0/\p=C9 (a/G,b/G)/\q=C9 (a%h,b%h)
def RE(G h:Nat)(a7:qW)(rk:qX->Nat):Prop:=∀p q,LW G h a7 p q->rk p<rk q
section
variable{h:Nat}
theorem O9{u:Nat}(hj:j<G):(u*G+j)/G=u:=by rw[Nat.add_comm,Nat.add_mul_div_right _ _ (by lia),Nat.div_eq_of_lt hj,Nat.zero_add]
end
def Ku(p:qX):List V:=[.int (p.1:Int),.int (p.2:Int)]
abbrev Bt(K:qV)(H:Hp):List qR->List (qX)->Prop:=Paired λp x=>Aa K H p (Ku x)
variable{L:List (qX)}
theorem Bt.same{K:qV}{ps:List qR}(e:AG H H')(h:Bt K H ps L):Bt K H' ps L:=Paired.mapP h λ_ _ z=>z.same' e
theorem Paired.app{F:α->β->Prop}{a:List α}{b:List β}{c:List α}{d:List β}(p:Paired F a b)(h:Paired F c d):Paired F (a++c) (b++d):=by
 induction p with
 |nil=>exact h
 |cons r _ ih=>exact .cons r ih
theorem Aa.updL{K:qV}{d:qR}{u:HO}(hd:H d=some (.lst ys))(q:Aa K H a xs):Aa K (AT H d u) a xs:=by
 rcases q with (z|⟨o,z⟩)|z
 ·exact .inl (.inl (by rw[AJ (Bu z hd λy=>nomatch y)];exact z))
 ·exact .inl (.inr ⟨o,by rw[AJ (Bu z hd λy=>nomatch y)];exact z⟩)
 ·exact .inr z
theorem Bt.upd{K:qV}{ps:List qR}{d:qR}{u:HO}(hd:H d=some (.lst ys))(h:Bt K H ps L):Bt K (AT H d u) ps L:=Paired.mapP h λ_ _ z=>z.updL hd
inductive FM(K:qV)(vs:List V)(H:Hp)(Q:VK)(z3_:XK):Prop
 |m (a b:Nat):vs=[.int (a:Int),.int (b:Int)]->(∀p H',AG H H'->Aa K H' p (Ku (C9 (a,b)))->Q (.ref p) H')->FM K vs H Q z3_
inductive JM(K:qV)(vs:List V)(H:Hp)(Q:VK)(z3_:XK):Prop
 |m (r q:qR) (g lo:Int) (a7:qW) (m a b:Nat):vs=[.ref r,.ref q]->Av H r g lo a7 m->Aa K H q (Ku (a,b))->(∀p H',AG H H'->Aa K H' p (Ku (C9 (a/g.toNat,b/g.toNat)))->Q (.ref p) H')->JM K vs H Q z3_
inductive PB(K:qV)(vs:List V)(H:Hp)(Q:VK)(z3_:XK):Prop
 |m (r q:qR) (g lo:Int) (a7:qW) (m a b:Nat):vs=[.ref r,.ref q]->Av H r g lo a7 m->Aa K H q (Ku (a,b))->(∀p H',AG H H'->Aa K H' p (Ku (C9 (a%(a7.length/g.toNat),b%(a7.length/g.toNat))))->Q (.ref p) H')->PB K vs H Q z3_
noncomputable def HJ(h n:Nat):List (qX):=((List.range h).filter λo=>decide (o≠n)).map λo=>(n,o)
theorem RF(h n:Nat):(HJ h n).length<=h:=by unfold HJ;rw[Xf];exact YG (Ye ..) (by rw[YF];exact Xi _)
theorem FN(h:Nat):∀i:Nat,((List.range i).flatMap (HJ h)).length<=i*h
 |0=>X4 _
 |i+1=>by rw[Yb,Y0,Xt,Z0,ZB,ZF,X6];have:=FN h i;have:=RF h i;lia
noncomputable def Ax(h:Nat):List (qX):=(0,0)::(List.range h).flatMap (HJ h)
noncomputable def PD(a7:qW)(a:Nat):List (qX):=((List.range a7.length).filter λb=>decide (a7.getD b 0=a7.getD a 0)&&decide (b≠a)).map λb=>(a,b)
noncomputable def EY(a7:qW):List (qX):=(List.range a7.length).flatMap (PD a7)
inductive JN(K:qV)(vs:List V)(H:Hp)(Q:VK)(z3_:XK):Prop
 |m (r:qR) (g lo:Int) (a7:qW) (m:Nat):vs=[.ref r]->Av H r g lo a7 m->g^(m-1)<=9->(∀D H' ps,AG H H'->H D=none->H' D=some (.lst (ps.map V.ref))->Bt K H' ps (Ax (a7.length/g.toNat))->Q (.ref D) H')->JN K vs H Q z3_
inductive LX(K:qV)(vs:List V)(H:Hp)(Q:VK)(z3_:XK):Prop
 |m (r:qR) (g lo:Int) (a7:qW) (m:Nat):vs=[.ref r]->Av H r g lo a7 m->g^(m-1)<=9->(∀D H' ps,AG H H'->H D=none->H' D=some (.lst (ps.map V.ref))->Bt K H' ps (EY a7)->Q (.ref D) H')->LX K vs H Q z3_
theorem KM{K:qV}{D:qR}{Q:VK}(Pv:Nat->List V->Hp->Prop)(h0:Pv 0 [] (AT H D (.lst [])))(hl:∀i ad H,i<=xs.length->Pv i ad H->Aa K H a xs)
  (hs:∀i x p ad H2,xs[i]?=some x->Pv i ad H2->H2 p=none->tt (some (.int ((i:Nat):Int))::some x::σf) (AT H2 p (.tup [.int ((i:Nat):Int),x])) λb H4=>if b=true then te (some (.int ((i:Nat):Int))::some x::σf) H4 λy H5=>H5 D=some (.lst ad)/\ad.length<sizeLine/\Pv (i+1) (ad++[y]) (AT H5 D (.lst (ad++[y]))) else Pv (i+1) ad H4)
  (hd:∀ad H2,Pv xs.length ad H2->Q (.ref D) H2):Fp K (NO K a) tt te σf D Q H:=by
 refine⟨λk i ad H=>k=xs.length-i/\i<=xs.length/\Pv i ad H,⟨xs.length,by simp,Nat.zero_le _,h0⟩,?_⟩;rintro k i ad H2 ⟨rfl,hi,p⟩;have q:=hl i ad H2 hi p
 by_cases hlt:i<xs.length
 ·refine .inr ⟨⟨xs,xs[i],q,by simp[hlt]⟩,Pv (i+1),λl H' p'=>⟨xs.length-(i+1),by lia,rfl,hlt,p'⟩,λv H' y=>?_⟩;refine byG λGq hGq=>?_;obtain⟨p2,x,e1,e2,e3,y⟩:=y;refine hGq ?_;clear hGq Gq;subst e1 e3;exact⟨p2,_,_,rfl,Aa.of AE,hs i x p2 ad H2 (y xs q) p e2⟩
 ·have e:i=xs.length:=by lia
  subst e;exact .inl ⟨⟨xs,q,Xi _⟩,hd ad H2 p⟩
theorem RG(a7:qW)(a:Nat):(PD a7 a).length<=a7.length:=by unfold PD;rw[Xf];exact YG (Ye ..) (by rw[YF];exact Xi _)
theorem FO(a7:qW):∀i:Nat,((List.range i).flatMap (PD a7)).length<=i*a7.length
 |0=>X4 _
 |i+1=>by rw[Yb,Y0,Xt,Z0,ZB,ZF,X6];have:=FO a7 i;have:=RG a7 i;lia
theorem HK{p:α->Bool}{j:α}(h:p j=true):[j].filter p=[j]:=by rw[List.filter_cons_of_pos h];rfl
theorem GF{p:α->Bool}{j:α}(h:p j=false):[j].filter p=[]:=by rw[List.filter_cons_of_neg (by rw[h];decide)];rfl
noncomputable def A8(p:qX):List BQ:=[Sum.inl (p.1:Int),Sum.inl (p.2:Int)]
variable{p q:qX}
theorem FP(h:A8 p=A8 q):p=q:=by
 unfold A8 at h
 injection h with h1 h2
 injection h2 with h2 _
 have a:=Sum.inl.inj h1;have b:=Sum.inl.inj h2;exact Prod.ext (by lia) (by lia)
noncomputable def Ae(A:List (qX))(vs:List V):List (List BQ×V):=List.zipWith (λa v=>(A8 a,v)) A vs
theorem BK{A:List (qX)}{vs:List V}(h:vs.length=A.length):(Ae A vs).length=A.length:=by unfold Ae;rw[List.length_zipWith,h,Nat.min_self]
theorem DP:∀{A:List (qX)} {vs:List V} {a:qX},a∉A->BN (Ae A vs) (A8 a)=none
 |[],_,_,_=>rfl
 |_::_,[],_,_=>rfl
 |b::A,v::vs,a,h=>by
  have n1:¬A8 b=A8 a:=λe=>h (by rw[FP e];exact X5)
  show BN ((A8 b,v)::Ae A vs) (A8 a)=none;rw[CN (show ¬(A8 b,v).1=A8 a from n1)];exact DP λe=>h (Xw _ e)
theorem Bn:∀{A:List (qX)} {vs:List V} {i:Nat} {a:qX} {v:V},A.Nodup->A[i]?=some a->vs[i]?=some v->BN (Ae A vs) (A8 a)=some v
 |[],_,_,_,_,_,h,_=>by simp at h
 |_::_,[],_,_,_,_,_,h=>by simp at h
 |b::A,v::vs,0,a,w,nd,h1,h2=>by simp at h1 h2;subst h1 h2;exact DN rfl
 |b::A,v::vs,i+1,a,w,nd,h1,h2=>by
  simp at h1 h2;have nd':=Yd.mp nd;have n1:¬A8 b=A8 a:=λe=>nd'.1 (by rw[FP e];exact Xq h1)
  show BN ((A8 b,v)::Ae A vs) (A8 a)=some w;rw[CN (show ¬(A8 b,v).1=A8 a from n1)];exact Bn nd'.2 h1 h2
theorem D9{A:List (qX)}{vs:List V}{a:qX}{v:V}(hl:vs.length=A.length)(h:a∉A):CV (Ae A vs) (A8 a) v=Ae (A++[a]) (vs++[v]):=by rw[KC _ (DP h)];unfold Ae;rw[List.zipWith_append hl.symm];rfl
theorem Cq{h:Nat}:p∈Ax h↔p=(0,0)\/(p.1<h/\p.2<h/\p.1≠p.2):=by unfold Ax;rw[X3,Zi];refine or_congr Iff.rfl ⟨λz9=>?_,λ⟨h1,h2,h3⟩=>⟨p.1,X1.mpr h1,Xy.mpr ⟨p.2,YB.mpr ⟨X1.mpr h2,qH (Ne.symm h3)⟩,rfl⟩⟩⟩;obtain⟨n,hn,hp⟩:=z9;obtain⟨o,ho,rfl⟩:=Xy.mp hp;obtain⟨h1,h2⟩:=YB.mp ho;exact⟨X1.mp hn,X1.mp h1,Ne.symm (qN h2)⟩
theorem JO{h a b:Nat}(ha:a<h)(hb:b<h):C9 (a,b)∈Ax h:=by
 rw[Cq];unfold C9;split
 ·exact .inl rfl
 ·rename_i e
  exact .inr ⟨ha,hb,e⟩
theorem HL(h:Nat):∀n:Nat,((List.range n).flatMap (HJ h)).Nodup
 |0=>Y2
 |n+1=>by
  rw[Yb,Y0,ZB,ZF,X6,Yh];refine⟨HL h n,?_,λx hx y hy e=>?_⟩
  ·unfold HJ;exact List.Pairwise.map _ (λa b e z=>e (Prod.mk.inj z).2) (List.nodup_range.filter _)
  ·obtain⟨k,hk,hx⟩:=Zi.mp hx;obtain⟨_,_,e1⟩:=Xy.mp hx;obtain⟨_,_,e2⟩:=Xy.mp hy;have:=X1.mp hk;have a:=qP Prod.fst e1;have b:=qP Prod.fst e2;rw[e]at a;have a:k=y.1:=a;have b:n=y.1:=b;lia
theorem Cr(h:Nat):(Ax h).Nodup:=by unfold Ax;refine Yd.mpr ⟨λe=>?_,HL h h⟩;obtain⟨n,_,hp⟩:=Zi.mp e;obtain⟨o,ho,e1⟩:=Xy.mp hp;have h2:=qN (YB.mp ho).2;have a:=qP Prod.fst e1;have b:=qP Prod.snd e1;have a:n=0:=a;have b:o=0:=b;lia
theorem HM{a b:Nat}:(a,b)∈EY a7↔a<a7.length/\b<a7.length/\a≠b/\a7.getD a 0=a7.getD b 0:=by
 unfold EY;rw[Zi];constructor
 ·rintro⟨n,hn,hp⟩;obtain⟨o,ho,e⟩:=Xy.mp hp;obtain⟨h1,h2⟩:=YB.mp ho;rw[Yy]at h2;cases e;exact⟨X1.mp hn,X1.mp h1,Ne.symm (qN h2.2),(qN h2.1).symm⟩
 ·rintro⟨h1,h2,h3,h4⟩;exact⟨a,X1.mpr h1,Xy.mpr ⟨b,YB.mpr ⟨X1.mpr h2,by rw[Yy];exact⟨qH h4.symm,qH (Ne.symm h3)⟩⟩,rfl⟩⟩
structure DV(K:qV)(H:Hp)(ls:List qR)(A:List (qX))(F:qX->List (qX)):Prop where
 n:ls.length=A.length
 nd:ls.Nodup
 e:∀(i:Nat) (a:qX) (l:qR),A[i]?=some a->ls[i]?=some l->∃ps:List qR,H l=some (.lst (ps.map V.ref))/\Bt K H ps (F a)
variable{ls:List qR}{F:qX->List (qX)}
theorem DV.same{K:qV}{A:List (qX)}(e:AG H H')(g:DV K H ls A F):DV K H' ls A F:=
 ⟨g.n,g.nd,λi a l h1 h2=>by obtain⟨ps,h3,h4⟩:=g.e i a l h1 h2;exact⟨ps,e _ _ h3,Bt.same e h4⟩⟩
theorem DV.snoc{K:qV}{A:List (qX)}(g:DV K H ls A F){a:qX}(hl:l∉ls)(h:H l=some (.lst []))(hF:F a=[]):DV K H (ls++[l]) (A++[a]) F:=by
 refine⟨by rw[Xt,Xt,g.n];rfl,Yh.mpr ⟨g.nd,Yd.mpr ⟨X7,Y2⟩,λx hx y hy e=>hl (by rw[<-Xu.mp hy,<-e];exact hx)⟩,λi b k h1 h2=>?_⟩
 by_cases z:i<A.length
 ·rw[YQ z]at h1;rw[YQ (by rw[g.n];exact z)]at h2;exact g.e i b k h1 h2
 ·rw[X9 (by lia)]at h1;rw[X9 (by rw[g.n];lia),g.n]at h2;have z0:i-A.length=0:=by have:=(Xg.mp h1).1;simp at this;lia
  rw[z0]at h1 h2;cases h1;cases h2;exact⟨[],h,by rw[hF];exact .nil⟩
noncomputable def GJ(G h:Nat)(W:List (qX))(p:qX):List (qX):=(W.filter λx=>decide (C9 (x.1/G,x.2/G)=p)).map λx=>C9 (x.1%h,x.2%h)
inductive JP(P:qT)(w:qU)(K:qV)(vs:List V)(H:Hp)(Q:VK)(z3_:XK):Prop
 |m (r:qR) (g lo:Int) (a7:qW) (m:Nat):vs=[.ref r]->Av H r g lo a7 m->g^(m-1)<=9->(∀d H' ls,AG H H'->H d=none->(∀l∈ls,H l=none)->DW P w K H' d (Ae (Ax (a7.length/g.toNat)) (ls.map V.ref))->DV K H' ls (Ax (a7.length/g.toNat)) (GJ g.toNat (a7.length/g.toNat) (EY a7))->Q (.ref d) H')->JP P w K vs H Q z3_
section
variable{P:qT}{w:qU}{K:qV}{d:qR}{kvs:List (List BQ×V)}
theorem DW.lst(z:DW P w K H d kvs){b:qR}(h:H b=some (.lst xs))(u:HO):AT H d u b=some (.lst xs):=by obtain⟨bs,h1,_⟩:=z;rw[AJ (Bu h h1 λy=>nomatch y)];exact h
theorem DW.prv(z:DW P w K H d kvs){ps:List qR}(h:Bt K H ps L)(u:HO):Bt K (AT H d u) ps L:=by obtain⟨bs,h1,_⟩:=z;exact Paired.mapP h λ_ _ y=>y.upd' h1
theorem DW.grl(z:DW P w K H d kvs){A:List (qX)}(g:DV K H ls A F)(u:HO):DV K (AT H d u) ls A F:=
 ⟨g.n,g.nd,λi a l h1 h2=>by obtain⟨ps,h3,h4⟩:=g.e i a l h1 h2;exact⟨ps,z.lst h3 u,z.prv h4 u⟩⟩
theorem DV.out{A:List (qX)}(g:DV K H ls A F)(h:H l=none):l∉ls:=λz=>by
 obtain⟨i,hi⟩:=YC.mp z;have hlt:=(Xg.mp hi).1;have hA:i<A.length:=by rw[<-g.n];exact hlt
 obtain⟨ps,h3,_⟩:=g.e i A[i] l (Xj hA) hi;rw[h]at h3;cases h3
end
theorem Cg{A:List (qX)}(nd:A.Nodup){i:Nat}{a:qX}(h:A[i]?=some a):a∉A.take i:=λz=>by
 obtain⟨j,hj⟩:=YC.mp z;rw[List.getElem?_take]at hj
 split at hj
 ·rename_i lt
  have a1:=Xg.mp h;have a2:=Xg.mp hj;have:=(ZE (h₀:=a2.1) (h₁:=a1.1) nd).mp (by rw[a2.2,a1.2]);lia
 ·cases hj
section
variable{P:qT}{w:qU}{K:qV}{d:qR}{kvs:List (List BQ×V)}
theorem DW.updL(z:DW P w K H d kvs)(hl:H l=some (.lst xs))(u:HO):DW P w K (AT H l u) d kvs:=by obtain⟨bs,h1,h3,h4⟩:=z;exact⟨bs,by rw[AJ (Bu h1 hl λy=>nomatch y)];exact h1,h3,λp hp=>Aa.updL hl (h4 p hp)⟩
theorem DV.push{A:List (qX)}{F':qX->List (qX)}(g:DV K H ls A F)(nd:A.Nodup){a:qX}{ps:List qR}{q:qR}{x:qX}(hj:A[j]?=some a)(hl:ls[j]?=some l)(h:H l=some (.lst (ps.map V.ref)))(hp:Bt K H ps (F a))(hq:Aa K H q (Ku x))
  (hF:∀b,F' b=if a=b then F b++[x] else F b):DV K (AT H l (.lst ((ps++[q]).map V.ref))) ls A F':=by
 refine⟨g.n,g.nd,λi b k h1 h2=>?_⟩
 by_cases e:i=j
 ·subst e;rw[hj]at h1;rw[hl]at h2;cases h1;cases h2;refine⟨_,AE,?_⟩;rw[hF,qF rfl];exact Paired.app (Bt.upd h hp) (.cons (Aa.updL h hq) .nil)
 ·have nk:k≠l:=λz=>by
   have a1:=Xg.mp h2;have a2:=Xg.mp hl;exact e ((ZE (h₀:=a1.1) (h₁:=a2.1) g.nd).mp (by rw[a1.2,a2.2,z]))
  have nb:¬a=b:=λz=>by have a1:=Xg.mp h1;have a2:=Xg.mp hj;exact e ((ZE (h₀:=a1.1) (h₁:=a2.1) nd).mp (by rw[a1.2,a2.2,z]))
  obtain⟨ps',h3,h4⟩:=g.e i b k h1 h2;refine⟨ps',by rw[AJ nk];exact h3,?_⟩;rw[hF,qE nb];exact Bt.upd h h4
end
theorem PH{h:Nat}{W:List (qX)}{i:Nat}{x:qX}(hx:W[i]?=some x)(b:qX):GJ G h (W.take (i+1)) b=if C9 (x.1/G,x.2/G)=b then GJ G h (W.take i) b++[C9 (x.1%h,x.2%h)] else GJ G h (W.take i) b:=by
 unfold GJ;rw[YM,hx,Yj,Xp]
 by_cases e:C9 (x.1/G,x.2/G)=b
 ·rw[qF e,show (some x).toList=[x] from rfl,HK (p:=λx:Nat×Nat=>decide (C9 (x.1/G,x.2/G)=b)) (qH e)];rfl
 ·rw[qE e,show (some x).toList=[x] from rfl,GF (p:=λx:Nat×Nat=>decide (C9 (x.1/G,x.2/G)=b)) (qI e)];exact X6 _
theorem Mb(G h:Nat)(W:List (qX))(p:qX):(GJ G h W p).length<=W.length:=by unfold GJ;rw[Xf];exact Ye ..
structure Mc(A:List (qX))(F:qX->List (qX))(A2:List (qX))(B:qX->List (qX)):Prop where
 nd:A2.Nodup
 all:∀p,p∈A2↔p∈A
 on:∀p q,q∈B p↔q∈A/\p∈F q
 len:∀p,(B p).length<=7000000
inductive JQ(P:qT)(w:qU)(K:qV)(vs:List V)(H:Hp)(Q:VK)(z3_:XK):Prop
 |m (d:qR) (u:HO) (ls:List qR) (A:List (qX)) (F:qX->List (qX)):vs=[.ref d]->DR P w K H d u (Ae A (ls.map V.ref))->DV K H ls A F->A.Nodup->(∀a∈A,∀p∈F a,p∈A)->A.length<=100->(∀a∈A,(F a).length<=70000)->(∀u' H' d2 ls2 A2 B,AG (AT H d u') H'->DR P w K H' d u' (Ae A (ls.map V.ref))->H d2=none->(∀l∈ls2,H l=none)->DW P w K H' d2 (Ae A2 (ls2.map V.ref))->DV K H' ls2 A2 B->Mc A F A2 B->Q (.ref d2) H')->JQ P w K vs H Q z3_
variable{d2:qR}
section
variable{P:qT}{w:qU}{K:qV}{d:qR}{u:HO}{kvs:List (List BQ×V)}
theorem DR.updL(z:DR P w K H d u kvs)(hl:H l=some (.lst xs))(v:HO):DR P w K (AT H l v) d u kvs:=by
 refine byG λGq hGq=>?_;obtain⟨bs,h1,h2,h3,h4⟩:=z;refine hGq ?_;clear hGq Gq
 have ne:d≠l:=by
  refine Bu h1 hl λy=>?_;rcases h2 with e|⟨o,e⟩
  ·rw[e]at y;cases y
  ·rw[e]at y;cases y
 exact⟨bs,by rw[AJ ne];exact h1,h2,h3,λp hp=>Aa.updL hl (h4 p hp)⟩
theorem DR.updX(z:DR P w K H d u kvs){kvs2:List (List BQ×V)}(x:DW P w K H d2 kvs2)(ne:d≠d2)(v:HO):DR P w K (AT H d2 v) d u kvs:=by refine byG λGq hGq=>?_;obtain⟨bs,h1,h2,h3,h4⟩:=z;refine hGq ?_;clear hGq Gq;obtain⟨bs2,g1,_⟩:=x;exact⟨bs,by rw[AJ ne];exact h1,h2,h3,λp hp=>(h4 p hp).upd' g1⟩
end
def SK(P:qT)(w:qU)(K:qV)(H HX:Hp)(d2:qR)(A2:List (qX))(B:qX->List (qX)):Prop:=∃ls2:List qR,(∀l∈ls2,H l=none)/\DW P w K HX d2 (Ae A2 (ls2.map V.ref))/\DV K HX ls2 A2 B
variable{B:qX->List (qX)}{HX:Hp}{A2:List (qX)}{ls2:List qR}
theorem PJ{P:qT}{w:qU}{K:qV}{k:qX}{u:HO}(ln:∀l∈ls2,H l=none)(w0:DW P w K HX d2 (Ae A2 (ls2.map V.ref)))(g:DV K HX ls2 A2 B)(hl:HX l=some (.lst []))(nl:l∉ls2)(h0:H l=none)(hk:k∉A2)(hB:B k=[])
  (w1:DW P w K (AT HX d2 u) d2 (CV (Ae A2 (ls2.map V.ref)) (A8 k) (.ref l))):(∀x∈ls2++[l],H x=none)/\DW P w K (AT HX d2 u) d2 (Ae (A2++[k]) ((ls2++[l]).map V.ref))/\DV K (AT HX d2 u) (ls2++[l]) (A2++[k]) B:=by
 rw[D9 (by rw[Xf];exact g.n) hk]at w1;refine⟨λx hx=>?_,by rw[Xp];exact w1,(w0.grl g u).snoc nl (w0.lst hl u) hB⟩;rcases Xr.mp hx with z|z
 ·exact ln x z
 ·rw[Xu.mp z];exact h0
theorem SK.put{P:qT}{w:qU}{K:qV}{k:qX}{u:HO}(ln:∀l∈ls2,H l=none)(w0:DW P w K HX d2 (Ae A2 (ls2.map V.ref)))(g:DV K HX ls2 A2 B)(hl:HX l=some (.lst []))(nl:l∉ls2)(h0:H l=none)(hk:k∉A2)(hB:B k=[])
  (w1:DW P w K (AT HX d2 u) d2 (CV (Ae A2 (ls2.map V.ref)) (A8 k) (.ref l))):SK P w K H (AT HX d2 u) d2 (A2++[k]) B:=⟨_,PJ ln w0 g hl nl h0 hk hB w1⟩
structure Nz(A:List (qX))(F:qX->List (qX))(i:Nat)(D:(qX)->(qX)->Prop)(n:Nat)(A2:List (qX))(B:qX->List (qX)):Prop where
 nd:A2.Nodup
 sub:∀p∈A2,p∈A
 got:∀p∈A.take i,p∈A2
 no:∀p,p∉A2->B p=[]
 on:∀p q,q∈B p↔(q∈A.take i/\p∈F q)\/D p q
 len:∀p,(B p).length<=n
theorem Nz.key{A:List (qX)}{i n:Nat}{D:(qX)->(qX)->Prop}(t:Nz A F i D n A2 B){k:qX}(hk:k∉A2)(hA:k∈A):Nz A F i D n (A2++[k]) B where
 nd:=Yh.mpr ⟨t.nd,Yd.mpr ⟨X7,Y2⟩,λx hx y hy e=>hk (by rw[<-Xu.mp hy,<-e];exact hx)⟩
 sub:=λp hp=>(Xr.mp hp).elim (t.sub p) λz=>by rw[Xu.mp z];exact hA
 got:=λp hp=>Xr.mpr (.inl (t.got p hp))
 no:=λp hp=>t.no p λz=>hp (Xr.mpr (.inl z))
 on:=t.on
 len:=t.len
section
variable{P:qT}{w:qU}{K:qV}{d:qR}{u:HO}{kvs:List (List BQ×V)}
theorem DR.isX(z:DR P w K H d u kvs):∃φ,H d=some u/\(u=.ext φ\/∃o,u=.frz o (.ext φ)):=by refine byG λGq hGq=>?_;obtain⟨bs,h1,h2,_⟩:=z;refine hGq ?_;clear hGq Gq;exact⟨_,h1,h2⟩
theorem DR.sqt(z:DR P w K H d u kvs)(q:Aa K H a xs)(v:HO):Aa K (AT H d v) a xs:=by
 obtain⟨φ,h1,h2⟩:=z.isX;have ne:∀{b:qR} {y:HO},H b=some y->y≠u->b≠d:=λ{b y} hb n e=>n (by rw[e,h1]at hb;exact (Option.some.inj hb).symm)
 rcases q with (y|⟨o,y⟩)|y
 ·exact .inl (.inl (by rw[AJ (ne y (by rcases h2 with e|⟨o',e⟩<;>rw[e]<;>exact λt=>nomatch t))];exact y))
 ·exact .inl (.inr ⟨o,by rw[AJ (ne y (by rcases h2 with e|⟨o',e⟩<;>rw[e]<;>intro t<;>cases t))];exact y⟩)
 ·exact .inr y
theorem DR.lst(z:DR P w K H d u kvs){b:qR}(h:H b=some (.lst xs))(v:HO):AT H d v b=some (.lst xs):=by
 obtain⟨φ,h1,h2⟩:=z.isX
 have ne:b≠d:=λe=>by rw[e,h1]at h;have h:=Option.some.inj h;rcases h2 with t|⟨o,t⟩<;>rw[t]at h<;>cases h
 rw[AJ ne];exact h
theorem DR.grl(z:DR P w K H d u kvs){A:List (qX)}(g:DV K H ls A F)(v:HO):DV K (AT H d v) ls A F:=
 ⟨g.n,g.nd,λi a l h1 h2=>by obtain⟨ps,h3,h4⟩:=g.e i a l h1 h2;exact⟨ps,z.lst h3 v,Paired.mapP h4 λ_ _ y=>z.sqt y v⟩⟩
theorem DV.keep{A:List (qX)}(g:DV K H ls A F)(hl:H l=some (.lst xs))(nl:l∉ls)(v:HO):DV K (AT H l v) ls A F:=
 ⟨g.n,g.nd,λi a k h1 h2=>by obtain⟨ps,h3,h4⟩:=g.e i a k h1 h2;exact⟨ps,by rw[AJ λe=>nl (by rw[<-e];exact Xq h2)];exact h3,Bt.upd hl h4⟩⟩
theorem AG.both{H0:Hp}(e:AG H H0)(d:qR)(v:HO):AG (AT H d v) (AT H0 d v):=λb y h=>by
 by_cases z:b=d
 ·subst z;rw[AE]at h⊢;exact h
 ·rw[AJ z]at h⊢;exact e b y h
end
theorem JR{A:List (qX)}{i:Nat}{k:List BQ}{v:V}(h:(Ae A (ls.map V.ref))[i]?=some (k,v)):∃a l,A[i]?=some a/\ls[i]?=some l/\k=A8 a/\v=.ref l:=by
 unfold Ae at h;rw[Z1,Xl]at h;cases ha:A[i]? with
 |none=>rw[ha]at h;simp at h
 |some a =>
  cases hl:ls[i]? with
  |none=>rw[ha,hl]at h;simp at h
  |some l =>
   rw[ha,hl]at h;simp at h;exact⟨a,l,rfl,rfl,h.1.symm,h.2.symm⟩
theorem Nz.push{A:List (qX)}{i n:Nat}{a p0:qX}(t:Nz A F i (λp q=>q=a/\p∈L.take j) n A2 B)(hp:L[j]?=some p0)(m:p0∈A2):Nz A F i (λp q=>q=a/\p∈L.take (j+1)) (n+1) A2 (λp=>if p0=p then B p++[a] else B p) where
 nd:=t.nd
 sub:=t.sub
 got:=t.got
 no:=λp h=>by rw[qE λe=>h (by rw[<-e];exact m)];exact t.no p h
 on:=λp q=>by
  rw[YM,hp,show (some p0).toList=[p0] from rfl,Xr,Xu]
  by_cases e:p0=p
  ·rw[qF e,Xr,Xu,t.on];constructor
   ·rintro ((h|⟨h1,h2⟩)|h)
    ·exact .inl h
    ·exact .inr ⟨h1,.inl h2⟩
    ·exact .inr ⟨h,.inr e.symm⟩
   ·rintro (h|⟨h1,_⟩)
    ·exact .inl (.inl h)
    ·exact .inr h1
  ·rw[qE e,t.on];constructor
   ·rintro (h|⟨h1,h2⟩)
    ·exact .inl h
    ·exact .inr ⟨h1,.inl h2⟩
   ·rintro (h|⟨h1,h2|h2⟩)
    ·exact .inl h
    ·exact .inr ⟨h1,h2⟩
    ·exact qG h2.symm e
 len:=λp=>by
  have:=t.len p
  by_cases e:p0=p
  ·rw[qF e,Xt,YZ];lia
  ·rw[qE e];lia
structure Md(A:List (qX))(B:qX->List (qX))(M:List (qX))(f:qX->Nat):Prop where
 nd:M.Nodup
 sub:∀p∈M,p∈A
 low:∀p∈M,∀q∈B p,q∈M/\f q<f p
 top:∀p∈M,f p=0\/∃q∈B p,q∈M/\f p=f q+1
 rest:∀p∈A,p∉M->∃q∈B p,q∉M
 few:∀p∈M,f p<=A.length
inductive LY(P:qT)(w:qU)(K:qV)(vs:List V)(H:Hp)(Q:VK)(z3_:XK):Prop
 |m (d:qR) (u:HO) (ls:List qR) (A:List (qX)) (B:qX->List (qX)):vs=[.ref d]->DR P w K H d u (Ae A (ls.map V.ref))->DV K H ls A B->A.Nodup->(∀a∈A,∀p∈B a,p∈A)->A.length<=100->(∀a∈A,(B a).length<=7000000)->(∀u' H' d2 M f,AG (AT H d u') H'->DR P w K H' d u' (Ae A (ls.map V.ref))->H d2=none->DW P w K H' d2 (Ae M (M.map λp=>V.int (f p:Int)))->Md A B M f->Q (.ref d2) H')->LY P w K vs H Q z3_
theorem LZ{K:qV}(h:X.K=K)(hc:X.calm=true):CJ X (.builtin "all") (λxs H Q=>∃(p:qR) (bs:List Bool),xs=[.ref p]/\Af K H p (bs.map V.bl)/\Q (.bl (bs.all id)) H):=h▸KB hc
theorem PL{K:qV}(h:X.K=K):Ec X (binaryOp .Add) (Rr K):=h▸Qa
theorem Ga{K:qV}(h:X.K=K)(hu:X.A.units+64<cLine):Ec X (compareOp .NotEq) (TC K):=h▸TD hu
theorem PM{K:qV}{l:Expr}(h:X.K=K)(hl:PE X l tl):PI X tg l (N9 K tl):=h▸Lu hl
structure PN(A:List (qX))(B:qX->List (qX))(M:List (qX))(f:qX->Nat)(FL:List (qX))(n:Nat):Prop where
 nd:M.Nodup
 sub:∀p∈M,p∈A
 ndF:FL.Nodup
 on:∀p,p∈FL↔p∈A/\p∉M/\∀q∈B p,q∈M
 lt:∀p∈M,f p<n
 low:∀p∈M,∀q∈B p,q∈M/\f q<f p
 top:∀p∈M,f p=0\/∃q∈B p,q∈M/\f p=f q+1
 due:∀p∈FL,n=0\/∃q∈B p,q∈M/\n=f q+1
 le:n<=M.length
theorem PP{A:List (qX)}(nd:A.Nodup)(f:qX->Nat):PN A B [] f (A.filter λp=>decide (B p=[])) 0 where
 nd:=Y2
 sub:=λp hp=>qG hp X7
 ndF:=nd.filter _
 on:=λp=>by
  rw[YB,decide_eq_true_eq];refine and_congr Iff.rfl ⟨λe=>⟨X7,λq hq=>?_⟩,λ⟨_,e⟩=>?_⟩
  ·rw[e]at hq;exact hq
  ·exact List.eq_nil_iff_forall_not_mem.mpr λq hq=>qG (e q hq) X7
 lt:=λp hp=>qG hp X7
 low:=λp hp=>qG hp X7
 top:=λp hp=>qG hp X7
 due:=λ_ _=>.inl rfl
 le:=Xi _
noncomputable def Ta(M:List (qX))(f:qX->Nat)(n:Nat):qX->Nat:=λp=>if p∈M then f p else n
variable{M:List (qX)}{f:qX->Nat}
theorem Df{n:Nat}(h:p∈M):Ta M f n p=f p:=qF h
theorem FQ{n:Nat}(h:p∉M):Ta M f n p=n:=qE h
theorem PN.step{A:List (qX)}{FL:List (qX)}{n:Nat}(m:PN A B M f FL n)(ndA:A.Nodup)(h:FL≠[]):
  PN A B (M++FL) (Ta M f n) (A.filter λp=>decide (p∉M++FL)&&decide (∀q∈B p,q∈M++FL)) (n+1):=by
 have out:∀p∈FL,p∉M:=λp hp=>((m.on p).mp hp).2.1
 refine⟨Yh.mpr ⟨m.nd,m.ndF,λx hx y hy e=>out y hy (by rw[<-e];exact hx)⟩,λp hp=>?_,ndA.filter _,λp=>?_,λp hp=>?_,λp hp q hq=>?_,λp hp=>?_,λp hp=>?_,?_⟩
 ·rcases Xr.mp hp with z|z
  ·exact m.sub p z
  ·exact ((m.on p).mp z).1
 ·rw[YB,Yy,decide_eq_true_eq,decide_eq_true_eq]
 ·rcases Xr.mp hp with z|z
  ·rw[Df z];have:=m.lt p z;lia
  ·rw[FQ (out p z)];lia
 ·rcases Xr.mp hp with z|z
  ·obtain⟨h1,h2⟩:=m.low p z q hq;rw[Df z,Df h1];exact⟨Xr.mpr (.inl h1),h2⟩
  ·have h1:=((m.on p).mp z).2.2 q hq;rw[FQ (out p z),Df h1];exact⟨Xr.mpr (.inl h1),m.lt q h1⟩
 ·rcases Xr.mp hp with z|z
  ·rcases m.top p z with e|⟨q,hq,h1,e⟩
   ·rw[Df z];exact .inl e
   ·exact .inr ⟨q,hq,Xr.mpr (.inl h1),by rw[Df z,Df h1];exact e⟩
  ·rw[FQ (out p z)];rcases m.due p z with e|⟨q,hq,h1,e⟩
   ·exact .inl e
   ·exact .inr ⟨q,hq,Xr.mpr (.inl h1),by rw[Df h1];exact e⟩
 ·rw[YB,Yy,decide_eq_true_eq,decide_eq_true_eq]at hp;obtain⟨pA,pn,pq⟩:=hp;refine .inr ?_
  by_cases all:∀q∈B p,q∈M
  ·exact qG (Xr.mpr (.inr ((m.on p).mpr ⟨pA,λz=>pn (Xr.mpr (.inl z)),all⟩))) pn
  ·obtain⟨q,hq⟩:=Classical.not_forall.mp all;obtain⟨hq,nq⟩:=Classical.not_imp.mp hq;exact⟨q,hq,pq q hq,by rw[FQ nq]⟩
 ·have:0<FL.length:=ZQ.mpr h;have:=m.le;rw[Xt];lia
theorem PN.few{A:List (qX)}{FL:List (qX)}{n:Nat}(m:PN A B M f FL n):M.length+FL.length<=A.length:=by
 rw[<-Xt];refine (Yh.mpr ⟨m.nd,m.ndF,λx hx y hy e=>((m.on y).mp hy).2.1 (by rw[<-e];exact hx)⟩).length_le_of_subset λp hp=>?_;rcases Xr.mp hp with z|z
 ·exact m.sub p z
 ·exact ((m.on p).mp z).1
theorem PN.done{A:List (qX)}{n:Nat}(m:PN A B M f [] n):Md A B M f where
 nd:=m.nd
 sub:=m.sub
 low:=m.low
 top:=m.top
 rest:=λp hp np=>by
  by_cases all:∀q∈B p,q∈M
  ·exact qG ((m.on p).mpr ⟨hp,np,all⟩) X7
  ·obtain⟨q,hq⟩:=Classical.not_forall.mp all;obtain⟨hq,nq⟩:=Classical.not_imp.mp hq;exact⟨q,hq,nq⟩
 few:=λp hp=>by have:=m.lt p hp;have:=m.le;have:=m.few;lia
def WZ(P:qT)(w:qU)(K:qV)(H:Hp)(d d2:qR)(ls:List qR)(A:List (qX))(B:qX->List (qX))(D:qR)(M:List (qX))(f:qX->Nat)(FL:List (qX))(HX:Hp):Prop:=
 ∃u' ps,AG (AT H d u') HX/\DR P w K HX d u' (Ae A (ls.map V.ref))/\DV K HX ls A B/\H D=none/\HX D=some (.lst (ps.map V.ref))/\Bt K HX ps FL/\DW P w K HX d2 (Ae M (M.map λp=>V.int (f p:Int)))
theorem Et:(BN (Ae M (M.map λp=>V.int (f p:Int))) (A8 p)).isSome=decide (p∈M):=by
 by_cases h:p∈M
 ·obtain⟨i,hi⟩:=YC.mp h;rw[qH h]
  suffices ∀(M:List (qX)),p∈M->(BN (Ae M (M.map λp=>V.int (f p:Int))) (A8 p)).isSome=true from this M h
  intro M
  induction M with
  |nil=>intro z;exact qG z X7
  |cons a M ih =>
   intro z;show (BN ((A8 a,V.int (f a:Int))::Ae M (M.map λp=>V.int (f p:Int))) (A8 p)).isSome=true
   by_cases e:a=p
   ·rw[DN (show (A8 a,V.int (f a:Int)).1=A8 p by rw[e])];rfl
   ·rw[CN (show ¬(A8 a,V.int (f a:Int)).1=A8 p from λy=>e (FP y))];exact ih ((X3.mp z).resolve_left λy=>e y.symm)
 ·rw[DP h,qI h];rfl
theorem EN{L:List α}{i:Nat}{a:α}{p:α->Bool}(h:L[i]?=some a):(L.take (i+1)).filter p=(L.take i).filter p++(if p a=true then[a] else[]):=by
 rw[YM,h,show (some a).toList=[a] from rfl,Yj]
 by_cases e:p a=true
 ·rw[qF e,HK e]
 ·rw[qE e,GF (by cases z:p a;rfl;exact qG z e)]
end L2
namespace L2
open PySem PySem.Spec PyProof.Rows
variable{E:qQ->qS->Prop}{j:Nat}{us:List qQ}{α β:Type}
theorem La(b:Bool)(x y:qQ):keyLt' (tuples' b) x y=(do
  let xs <-Builtin.List.listItems x
  let ys <-Builtin.List.listItems y
  for ((p,q),i) in (xs.toList.zip ys.toList).zipIdx do
   if !(<-eqBool p q) then return <-oneLt' (b&&i==0) p q
  return decide (xs.size<ys.size)):=rfl
variable{vs:List qQ}
section
variable{prog:qT}{w:qU}{A:Around}{s:qS}
theorem Lb(o:Bool){a b:Int}{t u:Tok}{Q:Bool->qS->Prop}(h:Q (decide (a<b)) s):wpAny (model prog w) A (oneLt' o (.int a t) (.int b u)) Q E s:=by
 cases o with
 |true=>exact oneLt_int h
 |false =>
  rw[oneLt'_eq];simp only[Bool.false_eq_true,if_false];refine qC ((lt_int ?_:wpAny (model prog w) A (compareOp .Lt (.int a t) (.int b u)) _ E s));exact wpAny_truthy_bool h
theorem Nb(b:Bool){x y:qR}{ws:List qQ}{ns ms:qW}(hx:IsTup s.heap x vs.toArray)(hy:IsTup s.heap y ws.toArray)(iv:IntsAre vs ns)(iw:IntsAre ws ms){Q:Bool->qS->Prop}(h:Q (HT.B7 ns ms) s):
  wpAny (model prog w) A (keyLt' (tuples' b) (.ref x) (.ref y)) Q E s:=by
 refine byG λGq hGq=>?_;obtain⟨ox,gx,_,nx,dx⟩:=hx;refine hGq ?_;clear hGq Gq;refine byG λGq hGq=>?_;obtain⟨oy,gy,_,ny,dy⟩:=hy;refine hGq ?_;clear hGq Gq;rw[La];refine qC (listItems_at gx dx (qC (listItems_at gy dy ?_)));have l1:vs.length=ns.length:=iv.length;have l2:ws.length=ms.length:=iw.length
 refine qC (qM (wpAny_forIn_list _ (λrest c s'=>c=(none,())/\s'=s/\∃(k:Nat) (vs' ws':List qQ) (ns' ms':qW),rest=(vs'.zip ws').zipIdx k/\IntsAre vs' ns'/\IntsAre ws' ms'/\ns'.length+ms.length=ms'.length+ns.length/\HT.B7 ns' ms'=HT.B7 ns ms)
  (λc s'=>s'=s/\(c=(some (HT.B7 ns ms),())\/(c=(none,())/\decide (ns.length<ms.length)=HT.B7 ns ms))) ?_ ?_ _ _ ⟨rfl,rfl,0,vs,ws,ns,ms,by simp,iv,iw,Nat.add_comm ..,rfl⟩) ?_ λ_ _ e=>e)
 ·rintro⟨⟨p,q⟩,i⟩ rest c s' ⟨rfl,rfl,j,vs',ws',ns',ms',hz,hv,hw,hl,he⟩;cases hv with
  |nil=>simp at hz
  |cons a t hv' =>
   cases hw with
   |nil=>simp at hz
   |cons c u hw' =>
    rw[List.zip_cons_cons,List.zipIdx_cons]at hz
    injection hz with h1 h2
    injection h1 with h1 h3
    injection h1 with h4 h5
    subst h4 h5;rw[HT.DX]at he;refine qC (wpAny_eqBool_int ?_)
    by_cases e:a=c
    ·rw[qF e]at he;rw[show (a==c)=true by simp[e]];refine qD ⟨rfl,rfl,_,_,_,_,_,h2,hv',hw',?_,he⟩;simp only[List.length_cons]at hl;lia
    ·rw[qE e]at he;rw[show (a==c)=false by simp[e]];refine qC (Lb _ (qD ⟨rfl,.inl ?_⟩));rw[he]
 ·intro c s' hRq;refine byG λGq hGq=>?_;obtain⟨rfl,rfl,j,vs',ws',ns',ms',hz,hv,hw,hl,he⟩:=hRq;refine hGq ?_;clear hGq Gq;refine⟨rfl,.inr ⟨rfl,?_⟩⟩;rw[<-he];cases hv with
  |nil =>
   cases hw with
   |nil =>
    simp only[List.length_nil]at hl;rw[HT.DF,qI (by lia)]
   |cons c u hw' =>
    simp only[List.length_nil,List.length_cons]at hl;rw[HT.Gj,qH (by lia)]
  |cons a t hv' =>
   cases hw with
   |nil =>
    simp only[List.length_nil,List.length_cons]at hl;rw[HT.Cn,qI (by lia)]
   |cons c u hw'=>simp at hz
 ·rintro c s' ⟨rfl,z|⟨z,y⟩⟩
  ·subst z;exact qD h
  ·subst z;refine qD ?_;rw[show decide (vs.toArray.size<ws.toArray.size)=HT.B7 ns ms by rw[<-y,YS,YS,l1,l2]];exact h
theorem Fq(v:qQ):firstOfTuple' v=(do
  if (<-typeOf v) != .type "tuple" then return none
  return (<-Builtin.List.listItems v)[0]?):=rfl
def PQ(h:Heap)(v:qQ):Prop:=∃(t:qR) (vs:List qQ) (ns:qW),v=.ref t/\IsTup h t vs.toArray/\IntsAre vs ns/\ns≠[]
theorem Nc{v:qQ}(h:PQ s.heap v){Q:Option qQ->qS->Prop}(q:∀n t,Q (some (.int n t)) s):wpAny (model prog w) A (firstOfTuple' v) Q E s:=by
 refine byG λGq hGq=>?_;obtain⟨t,vs,ns,rfl,⟨o,g,c,m,d⟩,i,ne⟩:=h;refine hGq ?_;clear hGq Gq;rw[Fq];refine qC (wpAny_typeOf (T:="tuple") ⟨o,g,c⟩ ?_);rw[qE (by simp)];refine qC (listItems_at g d (qD ?_));cases i with
 |nil=>exact qG rfl ne
 |cons n t i=>exact q n t
theorem HN{f:α->Sem β}{R:β->Prop}{Q:List β->qS->Prop}:∀(l:List α),(∀x∈l,∀Q':β->qS->Prop,(∀y,R y->Q' y s)->wpAny (model prog w) A (f x) Q' E s)->(∀ys,ys.length=l.length->(∀y∈ys,R y)->Q ys s)->wpAny (model prog w) A (l.mapM f) Q E s
 |[],_,q=>by rw[List.mapM_nil];exact qD (q [] rfl λ_ z=>qG z X7)
 |x::l,h,q=>by
  rw[List.mapM_cons];refine qC (h x X5 _ λy hy=>qC (HN l (λz hz=>h z (Xw _ hz)) λys hl hys=>qD (q (y::ys) (by rw[YT,YT,hl]) λz hz=>?_)));rcases X3.mp hz with e|e
  ·rw[e];exact hy
  ·exact hys z e
theorem PR{v₁ v₂:qQ}(h:∀v∈v₁::v₂::vs,PQ s.heap v){Q:SortKind->qS->Prop}(q:∀b,Q (tuples' b) s):wpAny (model prog w) A (keyKind' (v₁::v₂::vs).toArray) Q E s:=by
 rw[keyKind'_eq,List.mapM_toArray];refine qC (wpAny_map ?_);refine HN (R:=λy=>∃n t,y=some (.int n t)) (v₁::v₂::vs) (λv hv Q' q'=>Nc (h v hv) λn t=>q' _ ⟨n,t,rfl⟩) λys hl hys=>?_
 have al:(ys.toArray.all λx=>x.isSome)=true:=by rw[List.all_toArray,Zg];intro y hy;obtain⟨n,t,e⟩:=hys y hy;rw[e];rfl
 rw[qF al];refine qC (wpAny_rule (qC ?_));rw[oneTypeOnly'_eq,List.filterMap_toArray,List.mapM_toArray];refine qC (wpAny_map (HN (R:=λ_=>True) _ (λv hv Q' q'=>?_) λts _ _=>?_))
 ·obtain⟨y,hy,e⟩:=Zo.mp hv;obtain⟨n,t,e2⟩:=hys y hy;rw[e2]at e;have e:v=.int n t:=(Option.some.inj e).symm;rw[e];exact wpAny_typeOf (typeIs_int s n t) (q' _ True.intro)
 ·split
  ·exact qD (qD (q _))
  ·exact qD (qD (q _))
end
theorem Nd{ws:List qQ}(p:us.Perm ws):∀{xs:List V},Aq xs ws->∃zs,zs.Perm xs/\Aq zs us:=by
 induction p with
 |nil=>intro xs h;exact⟨xs,.refl _,h⟩
 |cons a _ ih =>
  intro xs h;cases h with
  |cons r h =>
   obtain⟨zs,p1,v1⟩:=ih h;exact⟨_::zs,p1.cons _,.cons r v1⟩
 |swap a b l =>
  intro xs h;cases h with
  |cons r h =>
   cases h with
   |cons r2 h=>exact⟨_,.swap ..,.cons r2 (.cons r h)⟩
 |trans _ _ ih1 ih2 =>
  intro xs h;obtain⟨zs,p2,v2⟩:=ih2 h;obtain⟨ys,p1,v1⟩:=ih1 v2;exact⟨ys,p1.trans p2,v1⟩
theorem Ch:∀{ns:qW} {us:List qQ},Aq (ns.map V.int) us->IntsAre us ns
 |[],_,.nil=>.nil
 |n::ns,_,.cons ⟨t,e⟩ h=>by subst e;exact .cons n t (Ch h)
noncomputable def JS:Bool->Keyed->Array Keyed->Nat->Nat->Nat->StateT SortSt Sem (Option Nat):=sortPriv% PySem.Builtin.gallop
def Tb(prog:qT)(w:qU)(A:Around)(s:qS)(k:SortKind)(a₀:Array Keyed)(L:Keyed->Keyed->Bool):Prop:=
 ∀x∈a₀.toList,∀y∈a₀.toList,∀(E:qQ->qS->Prop) (Q:Bool->qS->Prop),Q (L x y) s->wpAny (model prog w) A (keyLt' k x.1 y.1) Q E s
structure VL(b:Nat->Bool)(n k:Nat):Prop where
 le:k<=n
 lo:∀i,i<k->b i=true
 hi:∀i,k<=i->i<n->b i=false
variable{y:Keyed}{arr:Array Keyed}{hint:Nat}
section
variable{prog:qT}{w:qU}{A:Around}{s:qS}{k:SortKind}{a₀:Array Keyed}{L:Keyed->Keyed->Bool}{st:SortSt}
theorem PU(hc:Tb prog w A s k a₀ L)(hk:kindOf st=k){x:Keyed}(mx:x∈a₀.toList)(my:y∈a₀.toList){Q:Option Bool->SortSt->Prop}(h:Q (some (L x y)) st):wpS (model prog w) A E s (lt' x y) Q st:=by rw[lt'_eq];refine qJ (wpS_get ?_);rw[hk];exact qJ (wpS_lift (wpAny_attempt (hc x mx y my _ _ ⟨rfl,qK h⟩)))
noncomputable def JT(L:Keyed->Keyed->Bool)(left:Bool)(key:Keyed)(arr:Array Keyed)(base i:Nat):Bool:=
 match arr[base+i]? with
 |some x=>if left then L x key else !L key x
 |none=>false
theorem KN(hc:Tb prog w A s k a₀ L)(hk:kindOf st=k){left:Bool}{key:Keyed}{base n:Nat}(mk:key∈a₀.toList)(ma:∀x∈arr.toList,x∈a₀.toList)(hb:base+n<=arr.size)(hh:hint<n)
  (mono:∀i j,i<j->j<n->JT L left key arr base j=true->JT L left key arr base i=true) {Q:Option Nat->SortSt->Prop} (h:∀r,VL (JT L left key arr base) n r->Q (some r) st):wpS (model prog w) A E s (JS left key arr base n hint) Q st:=by
 obtain⟨b,hbe⟩:∃b,b=JT L left key arr base:=⟨_,rfl⟩
 have bey:∀{i:Nat} {Q:Option Bool->SortSt->Prop},i<n->Q (some (b i)) st->wpS (model prog w) A E s ((λi=>do
   let x <-elem' arr (base+i)
   if left=true then lt' x key else do
    let r <-lt' key x
    pure (Option.map (λx=>!x) r)) i) Q st:=λ{i Q} hi q=>by
  have hlt:base+i<arr.size:=by lia
  have ex:arr[base+i]?=some arr[base+i]:=getElem?_pos arr _ hlt;have mx:=ma arr[base+i] (by simp);have eb:b i=if left then L arr[base+i] key else !L key arr[base+i]:=by rw[hbe];unfold JT;rw[ex]
  refine qJ ?_;rw[elem'_eq,ex];refine qK ?_;cases left
  ·rw[eb]at q;exact qJ (PU hc hk mk mx (qK q))
  ·rw[eb]at q;exact PU hc hk mx mk q
 rw[<-hbe]at mono h;clear hbe
 have half:∀{lo hi:Nat},lo<=hi->hi<=n->(∀i,i<lo->b i=true)->(∀i,hi<=i->i<n->b i=false)->∀{Q':Option (Option Nat)×Nat×Nat->SortSt->Prop},(∀r,VL b n r->Q' (none,r,r) st)->wpS (model prog w) A E s (forIn [:n] ((none,lo,hi):Option (Option Nat)×Nat×Nat) λ_ c=>if c.2.1≥c.2.2 then pure (ForInStep.done (none,c.2.1,c.2.2)) else do
   let m <-(λi=>do
    let x <-elem' arr (base+i)
    if left=true then lt' x key else do
     let r <-lt' key x
     pure (Option.map (λx=>!x) r)) (c.2.1+(c.2.2-c.2.1)/2)
   match m with
   |some more=>if more=true then pure (ForInStep.yield (none,c.2.1+(c.2.2-c.2.1)/2+1,c.2.2)) else pure (ForInStep.yield (none,c.2.1,c.2.1+(c.2.2-c.2.1)/2))
   |_=>pure (ForInStep.done (some none,c.2.1,c.2.2))) Q' st:=λ{lo hi} h1 h2 h3 h4 {Q'} q=>by
  refine qL (I:=λi c t=>t=st/\∃lo hi,c=(none,lo,hi)/\lo<=hi/\hi<=n/\hi-lo<=n-i/\(∀i,i<lo->b i=true)/\(∀i,hi<=i->i<n->b i=false)) ?_ ?_ ⟨rfl,lo,hi,rfl,h1,h2,by lia,h3,h4⟩
  ·rintro i c t _ hi' ⟨rfl,lo,hi,rfl,a1,a2,a3,a4,a5⟩;dsimp only
   by_cases z:lo≥hi
   ·rw[qF z];obtain rfl:lo=hi:=by lia
    exact qK (q lo ⟨a2,a4,a5⟩)
   rw[qE z];refine qJ (bey (by lia) ?_);dsimp only;cases e:b (lo+(hi-lo)/2)
   ·rw[qE (by decide)]
    exact qK ⟨rfl,_,_,rfl,by lia,by lia,by lia,a4,λj hj hn=>by
     cases e2:b j
     ·rfl
     ·by_cases w:j=lo+(hi-lo)/2
      ·rw[w,e]at e2;cases e2
      ·rw[mono _ _ (by lia) hn e2]at e;cases e⟩
   ·rw[qF rfl]
    exact qK ⟨rfl,_,_,rfl,by lia,by lia,by lia,λj hj=>by
     by_cases w:j=lo+(hi-lo)/2
     ·rw[w];exact e
     ·exact mono _ _ (by lia) (by lia) e,a5⟩
  ·rintro c t ⟨rfl,lo,hi,rfl,a1,a2,a3,a4,a5⟩;obtain rfl:lo=hi:=by lia
   exact q lo ⟨a2,a4,a5⟩
 refine qJ (bey hh ?_);dsimp only;cases e:b hint
 ·rw[qE (by decide)]
  have up:∀{la:Nat},la<=hint->b (hint-la)=false->∀i,hint-la<=i->i<n->b i=false:=λ{la} h1 h2 i h3 h4=>by
   cases e2:b i
   ·rfl
   ·by_cases w:hint-la=i
    ·rw[w,e2]at h2;cases h2
    ·rw[mono _ _ (by lia) h4 e2]at h2;cases h2
  refine qJ (qL (I:=λi c t=>t=st/\∃la fo,c=(none,la,fo)/\la<fo/\i+1<=fo/\la<=hint/\b (hint-la)=false) ?_ ?_ ⟨rfl,0,1,rfl,by decide,by decide,X4 _,e⟩)
  ·rintro i c t _ hi ⟨rfl,la,fo,rfl,a1,a2,a3,a4⟩;dsimp only
   by_cases z:fo≥hint+1
   ·rw[qF z];refine qK ?_;dsimp only;exact qJ (half (by lia) (by lia) (λj hj=>by lia) (up a3 a4) λr hr=>qK (h r hr))
   rw[qE z];refine qJ (bey (by lia) ?_);dsimp only;cases e2:b (hint-fo)
   ·rw[qE (by decide)];exact qK ⟨rfl,_,_,rfl,by lia,by lia,by lia,e2⟩
   ·rw[qF rfl];refine qK ?_;dsimp only;refine qJ (half (by lia) (by lia) (λj hj=>?_) (up a3 a4) λr hr=>qK (h r hr))
    by_cases w:j=hint-fo
    ·rw[w];exact e2
    ·exact mono _ _ (by lia) (by lia) e2
  ·rintro c t ⟨rfl,la,fo,rfl,a1,a2,a3,a4⟩;dsimp only;exact qJ (half (by lia) (by lia) (λj hj=>by lia) (up a3 a4) λr hr=>qK (h r hr))
 ·rw[qF rfl]
  have dn:∀{la:Nat},hint+la<n->b (hint+la)=true->∀i,i<hint+la+1->b i=true:=λ{la} h1 h2 i h3=>by
   by_cases w:i=hint+la
   ·rw[w];exact h2
   ·exact mono _ _ (by lia) h1 h2
  refine qJ (qL (I:=λi c t=>t=st/\∃la fo,c=(none,la,fo)/\la<fo/\i+1<=fo/\hint+la<n/\b (hint+la)=true) ?_ ?_ ⟨rfl,0,1,rfl,by decide,by decide,hh,e⟩)
  ·rintro i c t _ hi ⟨rfl,la,fo,rfl,a1,a2,a3,a4⟩;dsimp only
   by_cases z:fo≥n-hint
   ·rw[qF z];refine qK ?_;dsimp only;exact qJ (half (by lia) (by lia) (dn a3 a4) (λj hj hn=>by lia) λr hr=>qK (h r hr))
   rw[qE z];refine qJ (bey (by lia) ?_);dsimp only;cases e2:b (hint+fo)
   ·rw[qF (show (!false)=true from rfl)];refine qK ?_;dsimp only;refine qJ (half (by lia) (by lia) (dn a3 a4) (λj hj hn=>?_) λr hr=>qK (h r hr));cases e3:b j
    ·rfl
    ·by_cases w:hint+fo=j
     ·rw[<-w,e2]at e3;cases e3
     ·rw[mono _ _ (by lia) hn e3]at e2;cases e2
   ·rw[qE (show ¬(!true)=true by decide)];exact qK ⟨rfl,_,_,rfl,by lia,by lia,by lia,e2⟩
  ·rintro c t ⟨rfl,la,fo,rfl,a1,a2,a3,a4⟩;dsimp only;exact qJ (half (by lia) (by lia) (dn a3 a4) (λj hj hn=>by lia) λr hr=>qK (h r hr))
end
noncomputable def PV:Array Keyed->Array Keyed->StateT SortSt Sem (Array Keyed):=sortPriv% PySem.Builtin.mergeLo
noncomputable def PX:Array Keyed->Array Keyed->StateT SortSt Sem (Array Keyed):=sortPriv% PySem.Builtin.mergeHi
structure SX(k:SortKind)(xs:Array Keyed)(p:Array (Nat×Nat×Nat))(st:SortSt):Prop where
 kd:kindOf st=k
 ar:arrOf st=xs
 pd:pendingOf st=p
 fl:failedOf st=none
abbrev Up(κ:Keyed->Int)(l:List Keyed):Prop:=l.Pairwise λx y=>κ x<=κ y
structure MI(κ:Keyed->Int)(a b:Array Keyed)(out:Array Keyed)(ia ib:Nat):Prop where
 ua:Up κ (out.toList++a.toList.drop ia)
 ub:Up κ (out.toList++b.toList.drop ib)
 pm:(out.toList++(a.toList.drop ia++b.toList.drop ib)).Perm (a.toList++b.toList)
section
variable{κ:Keyed->Int}{a b out:Array Keyed}{ia ib:Nat}
theorem Be{l1 l2:List Keyed}:Up κ (l1++l2)↔Up κ l1/\Up κ l2/\∀x∈l1,∀y∈l2,κ x<=κ y:=List.pairwise_append
theorem EB(a:Array Keyed)(i k:Nat):(a.extract i (i+k)).toList=(a.toList.drop i).take k:=by
 rw[ZJ,Y3]
 congr 1
 lia
theorem MI.takeA(M:MI κ a b out ia ib){k:Nat}(h:∀x∈(a.toList.drop ia).take k,∀y∈b.toList.drop ib,κ x<=κ y):MI κ a b (out++a.extract ia (ia+k)) (ia+k) ib:=by
 have e:a.toList.drop ia=(a.extract ia (ia+k)).toList++a.toList.drop (ia+k):=by rw[EB,<-List.drop_drop,Yl]
 obtain⟨h1,h2,h3⟩:=M;rw[e]at h1 h3;refine⟨by rw[YE,YD];exact h1,?_,?_⟩
 ·rw[YE,YD];rw[Be]at h1 h2⊢;refine⟨h1.1,?_,λx hx y hy=>?_⟩
  ·rw[Be];exact⟨(Be.mp h1.2.1).1,h2.2.1,λx hx y hy=>h x (by rw[<-EB];exact hx) y hy⟩
  ·rcases Xr.mp hy with z|z
   ·exact h1.2.2 x hx y (Yw _ z)
   ·exact h2.2.2 x hx y z
 ·rw[YE];simp only[List.append_assoc]at h3⊢;exact h3
theorem MI.takeB(M:MI κ a b out ia ib){k:Nat}(h:∀x∈(b.toList.drop ib).take k,∀y∈a.toList.drop ia,κ x<=κ y):MI κ a b (out++b.extract ib (ib+k)) ia (ib+k):=by
 have e:b.toList.drop ib=(b.extract ib (ib+k)).toList++b.toList.drop (ib+k):=by rw[EB,<-List.drop_drop,Yl]
 obtain⟨h1,h2,h3⟩:=M;rw[e]at h2 h3;refine⟨?_,by rw[YE,YD];exact h2,?_⟩
 ·rw[YE,YD];rw[Be]at h1 h2⊢;refine⟨h2.1,?_,λx hx y hy=>?_⟩
  ·rw[Be];exact⟨(Be.mp h2.2.1).1,h1.2.1,λx hx y hy=>h x (by rw[<-EB];exact hx) y hy⟩
  ·rcases Xr.mp hy with z|z
   ·exact h2.2.2 x hx y (Yw _ z)
   ·exact h1.2.2 x hx y z
 ·rw[YE];refine List.Perm.trans ?_ h3;simp only[List.append_assoc];refine Zb _ ?_;rw[<-YD,<-YD];exact Zw _ Zc
theorem Me(a:Array Keyed)(i:Nat)(h:i<a.size):a.extract i (i+1)=#[a[i]]:=by apply Array.ext';rw[EB];rw[List.drop_eq_getElem_cons (by simpa using h)];simp
theorem KO(out a:Array Keyed)(i:Nat)(h:i<a.size):out.push a[i]=out++a.extract i (i+1):=by rw[Me a i h];simp
theorem B2{l:List Keyed}{i:Nat}(h:y∈l.drop i):∃j,i<=j/\∃h:j<l.length,l[j]=y:=by obtain⟨j,hj,e⟩:=Z7.mp h;rw[Yp]at hj;exact⟨i+j,Zh ..,by lia,by rw[<-e,List.getElem_drop]⟩
theorem Dg{l:List Keyed}{i k:Nat}(h:y∈(l.drop i).take k):∃j,i<=j/\j<i+k/\∃h:j<l.length,l[j]=y:=by obtain⟨j,hj,e⟩:=Z7.mp h;rw[YL,Yp]at hj;exact⟨i+j,Zh ..,by lia,by lia,by rw[<-e,List.getElem_take,List.getElem_drop]⟩
theorem Tc{l:List Keyed}(h:Up κ l){i:Nat}(hij:i<=j)(hj:j<l.length):κ l[i]<=κ l[j]:=by
 rcases Nat.lt_or_eq_of_le hij with z|z
 ·exact List.pairwise_iff_getElem.mp h i j (by lia) hj z
 ·subst z;exact Yz _
end
noncomputable def ky(κ:Keyed->Int)(xs:Array Keyed)(i:Nat):Int:=match xs[i]? with|some x=>κ x|none=>0
def Cw(κ:Keyed->Int)(xs:Array Keyed)(i j:Nat):Prop:=∀x y,i<=x->x<=y->y<j->ky κ xs x<=ky κ xs y
section
variable{κ:Keyed->Int}{a b out:Array Keyed}{ia ib:Nat}
theorem An(h:ia<a.size):ky κ a ia=κ a[ia]:=by unfold ky;rw[getElem?_pos a ia h]
theorem Bk{i:Nat}(h:a[i]?=b[j]?):ky κ a i=ky κ b j:=by unfold ky;rw[h]
theorem HP:Up κ a.toList↔Cw κ a 0 a.size:=by
 constructor
 ·intro h x y _ hxy hy;rw[An (show x<a.size by lia),An hy];have z:=Tc h hxy (by simpa using hy);simpa using z
 ·intro h;unfold Up;rw[List.pairwise_iff_getElem];intro i j hi hj hij;have hi':i<a.size:=by simpa using hi
  have hj':j<a.size:=by simpa using hj
  have z:=h i j (X4 _) (by lia) hj';rw[An hi',An hj']at z;simpa using z
def Kv(κ:Keyed->Int)(a b out:Array Keyed):Prop:=out.toList.Perm (a.toList++b.toList)/\Up κ out.toList
theorem Dh(a:Array Keyed)(i:Nat):(a.extract i a.size).toList=a.toList.drop i:=by rw[ZJ,Y3,YX];simp
theorem MI.doneB(M:MI κ a b out ia ib)(h:ib=b.size):Kv κ a b (out++a.extract ia a.size++b.extract ib b.size):=by have e:b.toList.drop ib=[]:=List.drop_eq_nil_of_le (by simp[h]);have z:=M.pm;rw[e]at z;unfold Kv;rw[YE,YE,Dh,Dh,e,X6];rw[X6]at z;exact⟨z,M.ua⟩
theorem MI.lastA(M:MI κ a b out ia ib)(h:ia+1=a.size)(hl:∀j,j<b.size->ky κ b j<=ky κ a (a.size-1)):Kv κ a b (out++b.extract ib b.size++a.extract ia a.size):=by
 unfold Kv;rw[YE,YE,Dh,Dh,YD];refine⟨List.Perm.trans (Zb _ Zc) M.pm,?_⟩;have u1:=Be.mp M.ua;have u2:=Be.mp M.ub;rw[Be];refine⟨u1.1,?_,λx hx y hy=>?_⟩
 ·rw[Be];refine⟨u2.2.1,u1.2.1,λx hx y hy=>?_⟩;obtain⟨j,h1,h2,e⟩:=B2 hy;rw[X0]at h2;obtain⟨j',h1',h2',e'⟩:=B2 hx;rw[X0]at h2';rw[<-e,<-e',Yi,Yi,<-An (κ:=κ) h2,<-An (κ:=κ) h2',show j=a.size-1 by lia];exact hl j' h2'
 ·rcases Xr.mp hy with z|z
  ·exact u2.2.2 x hx y z
  ·exact u1.2.2 x hx y z
theorem MI.someA(M:MI κ a b out ia ib)(sb:Cw κ b 0 b.size){k:Nat}(h:∀j,ia<=j->j<ia+k->j<a.size->ky κ a j<=ky κ b ib):MI κ a b (out++a.extract ia (ia+k)) (ia+k) ib:=by refine M.takeA λx hx y hy=>?_;obtain⟨j,h1,h2,h3,e⟩:=Dg hx;obtain⟨j',h1',h2',e'⟩:=B2 hy;rw[X0]at h3 h2';rw[<-e,<-e',Yi,Yi,<-An (κ:=κ) h3,<-An (κ:=κ) h2'];exact Yt (h j h1 h2 h3) (sb _ _ (X4 _) h1' h2')
theorem MI.someB(M:MI κ a b out ia ib)(sa:Cw κ a 0 a.size){k:Nat}(h:∀j,ib<=j->j<ib+k->j<b.size->ky κ b j<=ky κ a ia):MI κ a b (out++b.extract ib (ib+k)) ia (ib+k):=by refine M.takeB λx hx y hy=>?_;obtain⟨j,h1,h2,h3,e⟩:=Dg hx;obtain⟨j',h1',h2',e'⟩:=B2 hy;rw[X0]at h3 h2';rw[<-e,<-e',Yi,Yi,<-An (κ:=κ) h3,<-An (κ:=κ) h2'];exact Yt (h j h1 h2 h3) (sa _ _ (X4 _) h1' h2')
theorem MI.oneA(M:MI κ a b out ia ib)(sb:Cw κ b 0 b.size)(hi:ia<a.size)(h:ky κ a ia<=ky κ b ib):MI κ a b (out.push a[ia]) (ia+1) ib:=by rw[KO out a ia hi];exact M.someA sb λj h1 h2 _=>by rw[show j=ia by lia];exact h
theorem MI.oneB(M:MI κ a b out ia ib)(sa:Cw κ a 0 a.size)(hi:ib<b.size)(h:ky κ b ib<=ky κ a ia):MI κ a b (out.push b[ib]) ia (ib+1):=by rw[KO out b ib hi];exact M.someB sa λj h1 h2 _=>by rw[show j=ib by lia];exact h
end
section
variable{prog:qT}{w:qU}{A:Around}{s:qS}{k:SortKind}{a₀ xs:Array Keyed}{p:Array (Nat×Nat×Nat)}{κ:Keyed->Int}{st:SortSt}
theorem BO{i:Nat}(h:i<arr.size){Q:Keyed->SortSt->Prop}(q:Q arr[i] st):wpS (model prog w) A E s (elem' arr i) Q st:=by rw[elem'_eq,getElem?_pos arr i h];exact qK q
abbrev Fs(prog:qT)(w:qU)(A:Around)(s:qS)(k:SortKind)(a₀:Array Keyed)(κ:Keyed->Int):Prop:=Tb prog w A s k a₀ λx y=>decide (κ x<κ y)
theorem Td(hc:Fs prog w A s k a₀ κ)(hk:kindOf st=k){key:Keyed}{base n:Nat}(mk:key∈a₀.toList)(ma:∀x∈arr.toList,x∈a₀.toList)(hb:base+n<=arr.size)(hh:hint<n)
  (hs:Cw κ arr base (base+n)) {Q:Option Nat->SortSt->Prop} (h:∀r,r<=n->(∀j,base<=j->j<base+r->ky κ arr j<=κ key)->(∀j,base+r<=j->j<base+n->κ key<ky κ arr j)->Q (some r) st):wpS (model prog w) A E s (JS false key arr base n hint) Q st:=by
 have e:∀i,i<n->JT (λx y=>decide (κ x<κ y)) false key arr base i=!decide (κ key<ky κ arr (base+i)):=λi hi=>by unfold JT ky;rw[getElem?_pos arr (base+i) (by lia)];rfl
 refine KN hc hk mk ma hb hh (λi j hij hj z=>?_) λr hr=>h r hr.le (λj h1 h2=>?_) λj h1 h2=>?_
 ·rw[e i (by lia)];rw[e j hj]at z;have z1:=hs (base+i) (base+j) (by lia) (by lia) (by lia);simp only[Bool.not_eq_true',decide_eq_false_iff_not,Int.not_lt]at z⊢;lia
 ·have z:=hr.lo (j-base) (by lia);rw[e _ (by have:=hr.le;lia),show base+(j-base)=j by lia]at z;simp only[Bool.not_eq_true',decide_eq_false_iff_not,Int.not_lt]at z;exact z
 ·have z:=hr.hi (j-base) (by lia) (by lia);rw[e _ (by lia),show base+(j-base)=j by lia]at z;simp only[Bool.not_eq_false',decide_eq_true_eq]at z;exact z
theorem Te(hc:Fs prog w A s k a₀ κ)(hk:kindOf st=k){key:Keyed}{base n:Nat}(mk:key∈a₀.toList)(ma:∀x∈arr.toList,x∈a₀.toList)(hb:base+n<=arr.size)(hh:hint<n)
  (hs:Cw κ arr base (base+n)) {Q:Option Nat->SortSt->Prop} (h:∀r,r<=n->(∀j,base<=j->j<base+r->ky κ arr j<κ key)->(∀j,base+r<=j->j<base+n->κ key<=ky κ arr j)->Q (some r) st):wpS (model prog w) A E s (JS true key arr base n hint) Q st:=by
 have e:∀i,i<n->JT (λx y=>decide (κ x<κ y)) true key arr base i=decide (ky κ arr (base+i)<κ key):=λi hi=>by unfold JT ky;rw[getElem?_pos arr (base+i) (by lia)];rfl
 refine KN hc hk mk ma hb hh (λi j hij hj z=>?_) λr hr=>h r hr.le (λj h1 h2=>?_) λj h1 h2=>?_
 ·rw[e i (by lia)];rw[e j hj]at z;have z1:=hs (base+i) (base+j) (by lia) (by lia) (by lia);simp only[decide_eq_true_eq]at z⊢;lia
 ·have z:=hr.lo (j-base) (by lia);rw[e _ (by have:=hr.le;lia),show base+(j-base)=j by lia]at z;simp only[decide_eq_true_eq]at z;exact z
 ·have z:=hr.hi (j-base) (by lia) (by lia);rw[e _ (by lia),show base+(j-base)=j by lia]at z;simp only[decide_eq_false_iff_not,Int.not_lt]at z;exact z
noncomputable def RH:Nat->StateT SortSt Sem Unit:=sortPriv% PySem.Builtin.setMinGallop
theorem FR(X:SX k xs p st){g:Nat}{Q:Unit->SortSt->Prop}(h:∀t,SX k xs p t->Q () t):wpS (model prog w) A E s (RH g) Q st:=
 wpS_modify (h _ ⟨X.kd,X.ar,X.pd,X.fl⟩)
end
structure KP(κ:Keyed->Int)(a b:Array Keyed)(P:Nat)(out:Array Keyed)(ia ib:Nat):Prop where
 mi:MI κ a b out ia ib
 la:ia+1<a.size
 lb:ib<b.size
 ge:P<=ia+ib
section
variable{prog:qT}{w:qU}{A:Around}{s:qS}{k:SortKind}{a₀ xs:Array Keyed}{p:Array (Nat×Nat×Nat)}{κ:Keyed->Int}{st:SortSt}
theorem AX{c:Prop}[Decidable c]{m n:StateT SortSt Sem α}{Q:α->SortSt->Prop}(h1:c->wpS (model prog w) A E s m Q st)(h2:¬c->wpS (model prog w) A E s n Q st):wpS (model prog w) A E s (if c then m else n) Q st:=by
 split
 ·exact h1 ‹_›
 ·exact h2 ‹_›
theorem Cs{m n:Nat}(h:¬(m==n)=true):m≠n:=λe=>h (by simp[e])
theorem Mf{c:Prop}[Decidable c]{f:β->StateT SortSt Sem α}{x y:β}{Q:α->SortSt->Prop}(J:∀g,wpS (model prog w) A E s (f g) Q st):wpS (model prog w) A E s (if c then f x else f y) Q st:=by
 split
 ·exact J _
 ·exact J _
theorem Gb{γ:Type}{f:β->γ->StateT SortSt Sem α}{m:StateT SortSt Sem α}{Q:α->SortSt->Prop}(R:β->γ->Prop)(J:∀x y,R x y->wpS (model prog w) A E s (f x y) Q st)(h:(∀x y,R x y->wpS (model prog w) A E s (f x y) Q st)->wpS (model prog w) A E s m Q st):wpS (model prog w) A E s m Q st:=h J
theorem PY(hc:Fs prog w A s k a₀ κ)(X:SX k xs p st){x:Keyed}(mx:x∈a₀.toList)(my:y∈a₀.toList){Q:Option Bool->SortSt->Prop}(h1:κ x<κ y->Q (some true) st)(h2:κ y<=κ x->Q (some false) st):wpS (model prog w) A E s (lt' x y) Q st:=by
 refine PU hc X.kd mx my ?_
 by_cases z:κ x<κ y
 ·rw[show decide (κ x<κ y)=true by simpa using z];exact h1 z
 ·rw[show decide (κ x<κ y)=false by simpa using z];exact h2 (by lia)
theorem Nf(hc:Fs prog w A s k a₀ κ)(X:SX k xs p st){a b:Array Keyed}(ma:∀x∈a.toList,x∈a₀.toList)(mb:∀x∈b.toList,x∈a₀.toList)(sA:Cw κ a 0 a.size)(sB:Cw κ b 0 b.size)(ha:0<a.size)(hb:0<b.size)
  (h0:ky κ b 0<ky κ a 0) (hl:∀j,j<b.size->ky κ b j<ky κ a (a.size-1)) {Q:Array Keyed->SortSt->Prop} (h:∀out t,SX k xs p t->Kv κ a b out->Q out t):wpS (model prog w) A E s (PV a b) Q st:=by
 have ga:∀{i:Nat} (hi:i<a.size),a[i]∈a₀.toList:=λ{i} hi=>ma _ (by simp)
 have gb:∀{i:Nat} (hi:i<b.size),b[i]∈a₀.toList:=λ{i} hi=>mb _ (by simp)
 have hl':∀j,j<b.size->ky κ b j<=ky κ a (a.size-1):=λj hj=>YI (hl j hj)
 refine qJ (wpS_lift (wpAny_rule ⟨rfl,?_⟩));refine qJ (BO hb ?_)
 have M0:MI κ a b #[b[0]] 0 1:=by have z:MI κ a b #[] 0 0:=⟨by simpa using HP.mpr sA,by simpa using HP.mpr sB,by simp⟩;have z:=z.oneB sA hb (YI h0);simpa using z
 refine AX (λe=>?_) λe=>AX (λe2=>?_) λe2=>?_
 ·exact qK (h _ _ X (M0.doneB (by simpa using e)))
 ·exact qK (h _ _ X (M0.lastA (by simpa using e2) hl'))
 have e:b.size≠1:=λz=>e (by simp[z])
 have e2:a.size≠1:=λz=>e2 (by simp[z])
 refine qJ (wpS_get ?_);refine qJ (qL (I:=λi c t=>SX k xs p t/\∃out ia ib mg,c=(none,out,ia,ib,mg)/\KP κ a b (i+1) out ia ib) ?_ ?_ ⟨X,_,_,_,_,rfl,M0,by lia,by lia,by lia⟩)
 ·rintro i c t _ hi ⟨X,out,ia,ib,mg,rfl,M⟩;refine qJ (wpS_mono (qL (I:=λ_ c t=>SX k xs p t/\∃out ia ib ac bc,c=(none,out,ia,ib,ac,bc)/\KP κ a b (i+1) out ia ib) (Q:=λc t=>SX k xs p t/\((∃r o,c=(some r,o)/\Kv κ a b r)\/∃out ia ib ac bc,c=(none,out,ia,ib,ac,bc)/\KP κ a b (i+1) out ia ib)) ?_ ?_ ⟨X,out,ia,ib,0,0,rfl,M⟩) ?_)
  ·clear M X;rintro j c t _ hj ⟨X,out,ia,ib,ac,bc,rfl,M⟩;have la:=M.la;have lb:=M.lb;have ge:=M.ge;refine qJ (BO M.lb (qJ (BO (show ia<a.size by lia) (qJ (PY hc X (gb lb) (ga (by lia)) (λz=>?_) λz=>?_)))))
   ·refine AX (λ_=>?_) (λz=>qG rfl z);rw[<-An (κ:=κ),<-An (κ:=κ)]at z;have M2:=M.mi.oneB sA lb (YI z);have M3:ib+1<b.size->KP κ a b (i+1) (out.push b[ib]) ia (ib+1):=λq=>⟨M2,la,q,by lia⟩
    refine qJ (BO M.lb (AX (λz=>?_) λz=>AX (λ_=>?_) λ_=>?_))
    ·exact qK ⟨X,.inl ⟨_,_,rfl,M2.doneB (by simpa using z)⟩⟩
    ·exact qK ⟨X,.inr ⟨_,_,_,_,_,rfl,M3 (Yv lb (Cs z))⟩⟩
    ·exact qK ⟨X,_,_,_,_,_,rfl,M3 (Yv lb (Cs z))⟩
   ·refine AX (λz=>qG z (by decide)) (λ_=>?_);rw[<-An (κ:=κ),<-An (κ:=κ)]at z;have M2:=M.mi.oneA sB (by lia) z;have M3:ia+1+1<a.size->KP κ a b (i+1) (out.push (a[ia]'(by lia))) (ia+1) ib:=λq=>⟨M2,q,lb,by lia⟩
    refine qJ (BO (show ia<a.size by lia) (AX (λz=>?_) λz=>AX (λ_=>?_) λ_=>?_))
    ·exact qK ⟨X,.inl ⟨_,_,rfl,M2.lastA (by simpa using z) hl'⟩⟩
    ·exact qK ⟨X,.inr ⟨_,_,_,_,_,rfl,M3 (Yv la (Cs z))⟩⟩
    ·exact qK ⟨X,_,_,_,_,_,rfl,M3 (Yv la (Cs z))⟩
  ·rintro c t ⟨X,out,ia,ib,ac,bc,rfl,M⟩;exact⟨X,.inr ⟨out,ia,ib,ac,bc,rfl,M⟩⟩
  clear M X;rintro c t ⟨X,⟨r,o,rfl,R⟩|⟨out,ia,ib,ac,bc,rfl,M⟩⟩
  ·exact qK (qK (h _ _ X R))
  refine qJ (wpS_lift (wpAny_rule ⟨rfl,?_⟩));refine qJ (wpS_mono (qL (I:=λj c t=>SX k xs p t/\∃out ia ib mg ac bc,c=(none,out,ia,ib,mg,ac,bc)/\KP κ a b (i+1+j) out ia ib) (Q:=λc t=>SX k xs p t/\((∃r o,c=(some r,o)/\Kv κ a b r)\/∃out ia ib mg ac bc,c=(none,out,ia,ib,mg,ac,bc)/\KP κ a b (i+1+1) out ia ib)) ?_ ?_ ⟨X,_,_,_,_,_,_,rfl,M⟩) ?_)
  ·clear M X;rintro j c t _ hj ⟨X,out,ia,ib,mg,ac,bc,rfl,M⟩;dsimp (config:={zeta:=false,zetaHave:=false}) only
   extract_lets c1 out1 c2 ia1 c3 ib1 c4 mg1 c5 ac1 bc1 ib2 jp mg2
   have la:=M.la;have lb:=M.lb;have ge:=M.ge;refine Mf (f:=jp ()) λg=>?_;refine qJ (FR X λt X=>qJ (BO lb (qJ (Td hc X.kd (gb lb) ma (by dsimp only[ia1,c2,c1];lia) (by dsimp only[ia1,c2,c1];lia) (λx y h1 h2 h3=>sA x y (Nat.zero_le _) h2 (by dsimp only[ia1,c2,c1]at h3;lia)) λr hr r1 r2=>?_))));dsimp (config:={zeta:=false,zetaHave:=false}) only;rw[<-An (κ:=κ)]at r1 r2
   extract_lets ac2 jp2 out2 ia2
   refine Gb (f:=jp2 ()) (λout' ia'=>MI κ a b out' ia' ib/\ia'+1<a.size/\ia<=ia'/\ky κ b ib<=ky κ a ia') (λout' ia' R=>?_) λJ=>?_
   ·obtain⟨R1,R2,R3,R4⟩:=R;have MB:=R1.oneB sA lb R4;refine qJ (BO lb (AX (λz=>qK ⟨X,.inl ⟨_,_,rfl,MB.doneB (eq_of_beq z)⟩⟩) λz=>?_));have lb2:ib+1<b.size:=Yv lb (Cs z);have la2:ia'<a.size:=by lia
    refine qJ (BO la2 (qJ (Te hc X.kd (ga la2) mb (show ib+1+(b.size-(ib+1))<=b.size by lia) (show 0<b.size-(ib+1) by lia) (λx y h1 h2 (h3:y<ib+1+(b.size-(ib+1)))=>sB x y (X4 _) h2 (by lia)) λr' (hr':r'<=b.size-(ib+1)) (r1':∀j,ib+1<=j->j<ib+1+r'->ky κ b j<κ a[ia']) (r2':∀j,ib+1+r'<=j->j<ib+1+(b.size-(ib+1))->κ a[ia']<=ky κ b j)=>?_)));rw[<-An (κ:=κ)]at r1' r2';dsimp (config:={zeta:=false,zetaHave:=false}) only
    extract_lets bc2 ia4 jp3 out3 ib3
    have MC:MI κ a b ((out'.push b[ib])++b.extract (ib+1) (ib+1+r')) ia' (ib+1+r'):=MB.someB sA λj h1 h2 _=>YI (r1' j h1 h2)
    refine Gb (f:=jp3 ()) (λout' ib'=>MI κ a b out' ia' ib'/\ib'<b.size/\ib+1<=ib'/\ky κ a ia'<=ky κ b ib') (λout' ib' R=>?_) λJ=>?_
    ·obtain⟨S1,S2,S3,S4⟩:=R;have MA:=S1.oneA sB la2 S4;have MD:∀P,P<=i+1+(j+1)->ia'+1+1<a.size->KP κ a b P (out'.push a[ia']) (ia'+1) ib':=λP hP q=>⟨MA,q,S2,by lia⟩
     refine qJ (BO la2 (AX (λz=>qK ⟨X,.inl ⟨_,_,rfl,MA.lastA (eq_of_beq z) hl'⟩⟩) λz=>AX (λ_=>?_) λ_=>?_))
     ·exact qK ⟨X,.inr ⟨_,_,_,_,_,_,rfl,MD _ (by lia) (Yv R2 (Cs z))⟩⟩
     ·exact qK ⟨X,_,_,_,_,_,_,rfl,MD _ (Xi _) (Yv R2 (Cs z))⟩
    ·refine AX (λz1=>AX (λz=>qK ⟨X,.inl ⟨_,_,rfl,MC.doneB (eq_of_beq z)⟩⟩) λz=>J _ _ ?_) λz1=>J _ _ ?_
     ·have q:ib+1+r'≠b.size:=Cs z;exact⟨MC,show ib+1+r'<b.size by lia,show ib+1<=ib+1+r' by lia,r2' (ib+1+r') (Xi _) (by lia)⟩
     ·obtain rfl:r'=0:=by lia
      exact⟨MB,lb2,Xi _,r2' (ib+1) (Xi _) (by lia)⟩
   ·have r1:∀j,ia<=j->j<ia+r->ky κ a j<=ky κ b ib:=r1;have r2:∀j,ia+r<=j->j<ia+(a.size-ia)->ky κ b ib<ky κ a j:=r2;have hr:r<=a.size-ia:=hr
    have lt:ia+r<a.size:=by
     rcases Nat.lt_or_ge (ia+r) a.size with z|z
     ·exact z
     ·have z1:=r1 (a.size-1) (by lia) (by lia);have z2:=hl ib lb;lia
    have MC:MI κ a b (out++a.extract ia (ia+r)) (ia+r) ib:=M.mi.someA sB λj h1 h2 _=>r1 j h1 h2
    refine AX (λz1=>AX (λz=>qK ⟨X,.inl ⟨_,_,rfl,MC.lastA (eq_of_beq z) hl'⟩⟩) λz=>AX (λy=>?_) λ_=>J _ _ ?_) λz1=>J _ _ ?_
    ·have y:ia+r=a.size:=eq_of_beq y;lia
    ·have q:ia+r+1≠a.size:=Cs z;exact⟨MC,show ia+r+1<a.size by lia,Zh _ _,YI (r2 (ia+r) (Xi _) (by lia))⟩
    ·obtain rfl:r=0:=by lia
     exact⟨M.mi,la,Xi _,YI (r2 ia (Xi _) (by lia))⟩
  ·rintro c t ⟨X,out,ia,ib,mg,ac,bc,rfl,M⟩;have:=M.la;have:=M.lb;have:=M.ge;lia
  clear M X;rintro c t ⟨X,⟨r,o,rfl,R⟩|⟨out,ia,ib,mg,ac,bc,rfl,M⟩⟩
  ·exact qK (qK (h _ _ X R))
  exact qJ (FR X λt X=>qK ⟨X,_,_,_,_,rfl,M⟩)
 ·rintro c t ⟨X,out,ia,ib,mg,rfl,M⟩;have:=M.la;have:=M.lb;have:=M.ge;lia
end
structure MJ(κ:Keyed->Int)(a b:Array Keyed)(out:Array Keyed)(na nb:Nat):Prop where
 ua:Up κ (a.toList.take na++out.toList.reverse)
 ub:Up κ (b.toList.take nb++out.toList.reverse)
 pm:(a.toList.take na++(b.toList.take nb++out.toList.reverse)).Perm (a.toList++b.toList)
structure SL(κ:Keyed->Int)(a b:Array Keyed)(P:Nat)(out:Array Keyed)(na nb:Nat):Prop where
 mi:MJ κ a b out na nb
 la:1<=na
 lb:2<=nb
 za:na<=a.size
 zb:nb<=b.size
 ge:na+nb+P<=a.size+b.size
section
variable{κ:Keyed->Int}{a b out:Array Keyed}{na nb at':Nat}
theorem HR(a:Array Keyed)(i j:Nat):(a.extract i j).toList=(a.toList.take j).drop i:=by rw[ZJ,Y3,List.drop_take]
theorem HS(a:Array Keyed){i:Nat}(h:i<=j):a.toList.take j=a.toList.take i++(a.extract i j).toList:=by
 rw[HR];have e:a.toList.take i=(a.toList.take j).take i:=by rw[List.take_take,Nat.min_eq_left h]
 rw[e,Yl]
theorem Mg{a:Array Keyed}{i:Nat}(h:y∈(a.extract i j).toList):∃x,i<=x/\x<j/\x<a.size/\κ y=ky κ a x:=by rw[HR]at h;obtain⟨x,h1,h2,e⟩:=B2 h;rw[YL,X0]at h2;refine⟨x,h1,by lia,by lia,?_⟩;rw[<-e,List.getElem_take,Yi,An]
theorem JU{a:Array Keyed}(h:y∈a.toList.take j):∃x,x<j/\x<a.size/\κ y=ky κ a x:=by obtain⟨x,h2,e⟩:=Z7.mp h;rw[YL,X0]at h2;refine⟨x,by lia,by lia,?_⟩;rw[<-e,List.getElem_take,Yi,An]
theorem MJ.someA(M:MJ κ a b out na nb)(hn:at'<=na)(h:∀x y,at'<=x->x<na->x<a.size->y<nb->y<b.size->ky κ b y<=ky κ a x):MJ κ a b (out++(a.extract at' na).reverse) at' nb:=by
 obtain⟨h1,h2,h3⟩:=M;have e:(out++(a.extract at' na).reverse).toList.reverse=(a.extract at' na).toList++out.toList.reverse:=by simp
 rw[HS a hn,YD]at h1 h3;refine⟨by rw[e];exact h1,?_,?_⟩
 ·rw[e];have z1:=Be.mp h1;have z2:=Be.mp h2;rw[Be];refine⟨z2.1,z1.2.1,λx hx y hy=>?_⟩;rcases Xr.mp hy with z|z
  ·obtain⟨x',q1,q2,e1⟩:=JU (κ:=κ) hx;obtain⟨y',q3,q4,q5,e2⟩:=Mg (κ:=κ) z;rw[e1,e2];exact h _ _ q3 q4 q5 q1 q2
  ·exact z2.2.2 x hx y z
 ·rw[e];refine List.Perm.trans (Zb _ ?_) h3;rw[<-YD,<-YD];exact Zw _ Zc
theorem MJ.someB(M:MJ κ a b out na nb)(hn:at'<=nb)(h:∀x y,at'<=x->x<nb->x<b.size->y<na->y<a.size->ky κ a y<=ky κ b x):MJ κ a b (out++(b.extract at' nb).reverse) na at':=by
 obtain⟨h1,h2,h3⟩:=M;have e:(out++(b.extract at' nb).reverse).toList.reverse=(b.extract at' nb).toList++out.toList.reverse:=by simp
 rw[HS b hn,YD]at h2 h3;refine⟨?_,by rw[e];exact h2,by rw[e];exact h3⟩;rw[e];have z1:=Be.mp h1;have z2:=Be.mp h2;rw[Be];refine⟨z1.1,z2.2.1,λx hx y hy=>?_⟩;rcases Xr.mp hy with z|z
 ·obtain⟨x',q1,q2,e1⟩:=JU (κ:=κ) hx;obtain⟨y',q3,q4,q5,e2⟩:=Mg (κ:=κ) z;rw[e1,e2];exact h _ _ q3 q4 q5 q1 q2
 ·exact z1.2.2 x hx y z
theorem KQ(out a:Array Keyed)(i:Nat)(h:i<a.size):out.push a[i]=out++(a.extract i (i+1)).reverse:=by rw[Me a i h];simp
theorem MJ.oneA(M:MJ κ a b out (na+1) nb)(sB:Cw κ b 0 b.size)(hn:na<a.size)(h1:1<=nb)(h2:nb<=b.size)(h:ky κ b (nb-1)<=ky κ a na):MJ κ a b (out.push a[na]) na nb:=by
 rw[KQ out a na hn];refine M.someA (ZD _) λx y q1 q2 _ q3 q4=>?_;obtain rfl:x=na:=by lia
 exact Yt (sB y (nb-1) (X4 _) (by lia) (by lia)) h
theorem MJ.oneB(M:MJ κ a b out na (nb+1))(sA:Cw κ a 0 a.size)(hn:nb<b.size)(h1:1<=na)(h2:na<=a.size)(h:ky κ a (na-1)<=ky κ b nb):MJ κ a b (out.push b[nb]) na nb:=by
 rw[KQ out b nb hn];refine M.someB (ZD _) λx y q1 q2 _ q3 q4=>?_;obtain rfl:x=nb:=by lia
 exact Yt (sA y (na-1) (X4 _) (by lia) (by lia)) h
theorem FS(a:Array Keyed)(i:Nat):(a.extract 0 i).toList=a.toList.take i:=by rw[HR,List.drop_zero]
theorem MJ.doneA(M:MJ κ a b out na nb)(h:na=0):Kv κ a b (a.extract 0 na++b.extract 0 nb++out.reverse):=by unfold Kv;rw[YE,YE,FS,FS,Array.toList_reverse,YD];refine⟨M.pm,?_⟩;rw[h,List.take_zero,List.nil_append];exact M.ub
theorem MJ.firstB(M:MJ κ a b out na nb)(h:nb=1)(h0:∀j,j<a.size->ky κ b 0<=ky κ a j):Kv κ a b (b.extract 0 nb++a.extract 0 na++out.reverse):=by
 unfold Kv;rw[YE,YE,FS,FS,Array.toList_reverse,YD];refine⟨List.Perm.trans ?_ M.pm,?_⟩
 ·rw[<-YD,<-YD];exact Zw _ Zc
 have z1:=Be.mp M.ua;have z2:=Be.mp M.ub;rw[Be];refine⟨z2.1,M.ua,λx hx y hy=>?_⟩;rcases Xr.mp hy with z|z
 ·obtain⟨x',q1,q2,e1⟩:=JU (κ:=κ) hx;obtain⟨y',q3,q4,e2⟩:=JU (κ:=κ) z;rw[e1,e2];obtain rfl:x'=0:=by lia
  exact h0 _ q4
 ·exact z2.2.2 x hx y z
end
section
variable{prog:qT}{w:qU}{A:Around}{s:qS}{k:SortKind}{a₀ xs:Array Keyed}{p:Array (Nat×Nat×Nat)}{κ:Keyed->Int}{st:SortSt}
theorem Ng(hc:Fs prog w A s k a₀ κ)(X:SX k xs p st){a b:Array Keyed}(ma:∀x∈a.toList,x∈a₀.toList)(mb:∀x∈b.toList,x∈a₀.toList)(sA:Cw κ a 0 a.size)(sB:Cw κ b 0 b.size)(ha:0<a.size)(hb:0<b.size)
  (h0:ky κ b 0<ky κ a 0) (hl:ky κ b (b.size-1)<ky κ a (a.size-1)) {Q:Array Keyed->SortSt->Prop} (h:∀out t,SX k xs p t->Kv κ a b out->Q out t):wpS (model prog w) A E s (PX a b) Q st:=by
 have ga:∀{i:Nat} (hi:i<a.size),a[i]∈a₀.toList:=λ{i} hi=>ma _ (by simp)
 have gb:∀{i:Nat} (hi:i<b.size),b[i]∈a₀.toList:=λ{i} hi=>mb _ (by simp)
 have hf:∀j,j<a.size->ky κ b 0<ky κ a j:=λj hj=>Int.lt_of_lt_of_le h0 (sA 0 j (X4 _) (X4 _) hj)
 have hf':∀j,j<a.size->ky κ b 0<=ky κ a j:=λj hj=>YI (hf j hj)
 refine qJ (wpS_lift (wpAny_rule ⟨rfl,?_⟩));refine qJ (BO (show a.size-1<a.size by lia) ?_)
 have M0:MJ κ a b #[a[a.size-1]] (a.size-1) b.size:=by
  have z:MJ κ a b #[] (a.size-1+1) b.size:=by rw[show a.size-1+1=a.size by lia];have e1:a.toList.take a.size=a.toList:=List.take_of_length_le (by simp);have e2:b.toList.take b.size=b.toList:=List.take_of_length_le (by simp);exact⟨by rw[e1];simpa using HP.mpr sA,by rw[e2];simpa using HP.mpr sB,by rw[e1,e2];simp⟩
  have z:=z.oneA sB (by lia) hb (Xi _) (YI hl);simpa using z
 refine AX (λe=>?_) λe=>AX (λe2=>?_) λe2=>?_
 ·exact qK (h _ _ X (M0.doneA (eq_of_beq e)))
 ·exact qK (h _ _ X (M0.firstB (eq_of_beq e2) hf'))
 have e:a.size-1≠0:=Cs e;have e2:b.size≠1:=Cs e2;refine qJ (wpS_get ?_);refine qJ (qL (I:=λi c t=>SX k xs p t/\∃na nb out mg,c=(none,na,nb,out,mg)/\SL κ a b (i+1) out na nb) ?_ ?_ ⟨X,_,_,_,_,rfl,M0,by lia,by lia,by lia,Xi _,by lia⟩)
 ·rintro i c t _ hi ⟨X,na,nb,out,mg,rfl,M⟩;refine qJ (wpS_mono (qL (I:=λ_ c t=>SX k xs p t/\∃na nb out ac bc,c=(none,na,nb,out,ac,bc)/\SL κ a b (i+1) out na nb) (Q:=λc t=>SX k xs p t/\((∃r o,c=(some r,o)/\Kv κ a b r)\/∃na nb out ac bc,c=(none,na,nb,out,ac,bc)/\SL κ a b (i+1) out na nb)) ?_ ?_ ⟨X,na,nb,out,0,0,rfl,M⟩) ?_)
  ·clear M X;rintro j c t _ hj ⟨X,na,nb,out,ac,bc,rfl,M⟩;obtain⟨M,la,lb,za,zb,ge⟩:=M;obtain⟨m,rfl⟩:∃m,na=m+1:=⟨na-1,by lia⟩;obtain⟨n,rfl⟩:∃n,nb=n+1:=⟨nb-1,by lia⟩;have lm:m<a.size:=za;have ln:n<b.size:=zb;refine qJ (BO ln (qJ (BO lm (qJ (PY hc X (gb ln) (ga lm) (λz=>?_) λz=>?_)))))
   ·refine AX (λ_=>?_) (λz=>qG rfl z);rw[<-An (κ:=κ),<-An (κ:=κ)]at z;have M2:=M.oneA sB lm (by lia) zb (YI z);have M3:m≠0->SL κ a b (i+1) (out.push a[m]) m (n+1):=λq=>⟨M2,by lia,lb,by lia,zb,by lia⟩
    refine qJ (BO lm (AX (λz=>?_) λz=>AX (λ_=>?_) λ_=>?_))
    ·exact qK ⟨X,.inl ⟨_,_,rfl,M2.doneA (eq_of_beq z)⟩⟩
    ·exact qK ⟨X,.inr ⟨_,_,_,_,_,rfl,M3 (Cs z)⟩⟩
    ·exact qK ⟨X,_,_,_,_,_,rfl,M3 (Cs z)⟩
   ·refine AX (λz=>qG z (by decide)) (λ_=>?_);rw[<-An (κ:=κ),<-An (κ:=κ)]at z;have M2:=M.oneB sA ln la za z;have M3:n≠1->SL κ a b (i+1) (out.push b[n]) (m+1) n:=λq=>⟨M2,la,by lia,za,by lia,by lia⟩
    refine qJ (BO ln (AX (λz=>?_) λz=>AX (λ_=>?_) λ_=>?_))
    ·exact qK ⟨X,.inl ⟨_,_,rfl,M2.firstB (eq_of_beq z) hf'⟩⟩
    ·exact qK ⟨X,.inr ⟨_,_,_,_,_,rfl,M3 (Cs z)⟩⟩
    ·exact qK ⟨X,_,_,_,_,_,rfl,M3 (Cs z)⟩
  ·rintro c t ⟨X,na,nb,out,ac,bc,rfl,M⟩;exact⟨X,.inr ⟨na,nb,out,ac,bc,rfl,M⟩⟩
  clear M X;rintro c t ⟨X,⟨r,o,rfl,R⟩|⟨na,nb,out,ac,bc,rfl,M⟩⟩
  ·exact qK (qK (h _ _ X R))
  refine qJ (wpS_lift (wpAny_rule ⟨rfl,?_⟩));refine qJ (wpS_mono (qL (I:=λj c t=>SX k xs p t/\∃na nb out mg ac bc,c=(none,na,nb,out,mg,ac,bc)/\SL κ a b (i+1+j) out na nb) (Q:=λc t=>SX k xs p t/\((∃r o,c=(some r,o)/\Kv κ a b r)\/∃na nb out mg ac bc,c=(none,na,nb,out,mg,ac,bc)/\SL κ a b (i+1+1) out na nb)) ?_ ?_ ⟨X,_,_,_,_,_,_,rfl,M⟩) ?_)
  ·clear M X;rintro j c t _ hj ⟨X,na,nb,out,mg,ac,bc,rfl,M⟩;obtain⟨M,la,lb,za,zb,ge⟩:=M;obtain⟨n,rfl⟩:∃n,nb=n+1:=⟨nb-1,by lia⟩;have ln:n<b.size:=zb;dsimp (config:={zeta:=false,zetaHave:=false}) only
   extract_lets c1 na1 c2 nb1 c3 out1 c4 mg1 c5 ac1 bc1 nb2 jp mg2
   refine Mf (f:=jp ()) λg=>?_;refine qJ (FR X λt X=>qJ (BO ln (qJ (Td hc X.kd (gb ln) ma (show 0+na<=a.size by lia) (show na-1<na by lia) (λx y h1 h2 (h3:y<0+na)=>sA x y (X4 _) h2 (by lia)) λr (hr:r<=na) (r1:∀j,0<=j->j<0+r->ky κ a j<=κ b[n]) (r2:∀j,0+r<=j->j<0+na->κ b[n]<ky κ a j)=>?_))));rw[<-An (κ:=κ)]at r1 r2;simp only[Nat.zero_add]at r1 r2;dsimp (config:={zeta:=false,zetaHave:=false}) only
   extract_lets k1 ac2 jp2 out2 na2
   refine Gb (f:=jp2 ()) (λna' out'=>MJ κ a b out' na' (n+1)/\1<=na'/\na'<=na/\ky κ a (na'-1)<=ky κ b n) (λna' out' R=>?_) λJ=>?_
   ·obtain⟨R1,R2,R3,R4⟩:=R;have MB:=R1.oneB sA ln R2 (by lia) R4;refine qJ (BO ln (AX (λz=>qK ⟨X,.inl ⟨_,_,rfl,MB.firstB (eq_of_beq z) hf'⟩⟩) λz=>?_));have lb2:n≠1:=Cs z;obtain⟨m,rfl⟩:∃m,na'=m+1:=⟨na'-1,by lia⟩;have lm:m<a.size:=by lia
    refine qJ (BO lm (qJ (Te hc X.kd (ga lm) mb (show 0+n<=b.size by lia) (show n-1<n by lia) (λx y h1 h2 (h3:y<0+n)=>sB x y (X4 _) h2 (by lia)) λr' (hr':r'<=n) (r1':∀j,0<=j->j<0+r'->ky κ b j<κ a[m]) (r2':∀j,0+r'<=j->j<0+n->κ a[m]<=ky κ b j)=>?_)));rw[<-An (κ:=κ)]at r1' r2';simp only[Nat.zero_add]at r1' r2'
    have r0:1<=r':=by
     rcases Nat.eq_zero_or_pos r' with z|z
     ·have z1:=r2' 0 (by lia) (by lia);have z2:=hf m lm;lia
     ·exact z
    dsimp (config:={zeta:=false,zetaHave:=false}) only
    extract_lets k2 bc2 na4 jp3 out3 nb3
    have MC:MJ κ a b (out'.push b[n]++(b.extract r' n).reverse) (m+1) r':=MB.someB hr' λx y q1 q2 _ q3 q4=>Yt (sA y m (X4 _) (by lia) lm) (r2' x q1 q2)
    refine Gb (f:=jp3 ()) (λnb' out'=>MJ κ a b out' (m+1) nb'/\2<=nb'/\nb'<=n/\ky κ b (nb'-1)<=ky κ a m) (λnb' out' R=>?_) λJ=>?_
    ·obtain⟨S1,S2,S3,S4⟩:=R;have MA:=S1.oneA sB lm (by lia) (by lia) S4;have MD:∀P,P<=i+1+(j+1)->m≠0->SL κ a b P (out'.push a[m]) m nb':=λP hP q=>⟨MA,by lia,S2,by lia,by lia,by lia⟩
     refine qJ (BO lm (AX (λz=>qK ⟨X,.inl ⟨_,_,rfl,MA.doneA (eq_of_beq z)⟩⟩) λz=>AX (λ_=>?_) λ_=>?_))
     ·exact qK ⟨X,.inr ⟨_,_,_,_,_,_,rfl,MD _ (by lia) (Cs z)⟩⟩
     ·exact qK ⟨X,_,_,_,_,_,_,rfl,MD _ (Xi _) (Cs z)⟩
    ·refine AX (λz1=>AX (λz=>qK ⟨X,.inl ⟨_,_,rfl,MC.firstB (eq_of_beq z) hf'⟩⟩) λz=>AX (λy=>?_) λ_=>J _ _ ?_) λz1=>J _ _ ?_
     ·have y:r'=0:=eq_of_beq y;lia
     ·have q:r'≠1:=Cs z;exact⟨MC,show 2<=r' by lia,hr',YI (r1' (r'-1) (X4 _) (by lia))⟩
     ·have z1:¬n-r'>0:=z1;exact⟨MB,show 2<=n by lia,Xi _,YI (r1' (n-1) (X4 _) (by lia))⟩
   ·have MC:MJ κ a b (out++(a.extract r na).reverse) r (n+1):=M.someA hr λx y q1 q2 _ q3 q4=>Yt (sB y n (X4 _) (by lia) ln) (YI (r2 x q1 q2))
    refine AX (λz1=>AX (λz=>qK ⟨X,.inl ⟨_,_,rfl,MC.doneA (eq_of_beq z)⟩⟩) λz=>J _ _ ?_) λz1=>J _ _ ?_
    ·have q:r≠0:=Cs z;exact⟨MC,show 1<=r by lia,hr,r1 (r-1) (X4 _) (by lia)⟩
    ·have z1:¬na-r>0:=z1;exact⟨M,la,Xi _,r1 (na-1) (X4 _) (by lia)⟩
  ·rintro c t ⟨X,na,nb,out,mg,ac,bc,rfl,M⟩;have:=M.la;have:=M.lb;have:=M.ge;lia
  clear M X;rintro c t ⟨X,⟨r,o,rfl,R⟩|⟨na,nb,out,mg,ac,bc,rfl,M⟩⟩
  ·exact qK (qK (h _ _ X R))
  exact qJ (FR X λt X=>qK ⟨X,_,_,_,_,rfl,M⟩)
 ·rintro c t ⟨X,na,nb,out,mg,rfl,M⟩;have:=M.la;have:=M.lb;have:=M.ge;lia
end
structure Wa(κ:Keyed->Int)(xs xs':Array Keyed)(lo hi:Nat):Prop where
 pm:xs'.toList.Perm xs.toList
 ot:∀j,j<lo\/hi<=j->xs'[j]?=xs[j]?
 up:Cw κ xs' lo hi
section
variable{κ:Keyed->Int}{xs xs':Array Keyed}
theorem Lc:∀(l:List Keyed) (off at':Nat) (xs:Array Keyed),at'+off+l.length<=xs.size->∀j:Nat,((l.zipIdx off).foldl (λa x=>a.setIfInBounds (at'+x.2) x.1) xs)[j]?=if at'+off<=j/\j<at'+off+l.length then l[j-(at'+off)]? else xs[j]?
 |[],off,at',xs,_,j=>by rw[qE (by simp only[List.length_nil];lia)];rfl
 |y::l,off,at',xs,h,j=>by
  rw[YT]at h;rw[List.zipIdx_cons,List.foldl_cons,Lc l _ _ _ (by rw[Array.size_setIfInBounds];lia)];dsimp only;rw[YT]
  by_cases e:j=at'+off
  ·subst e;rw[qE (by lia),qF (by lia),ZH,Array.getElem?_setIfInBounds_self_of_lt (by lia)];rfl
  ·by_cases e2:at'+off<=j/\j<at'+off+(l.length+1)
   ·rw[qF (by lia),qF e2,show j-(at'+off)=(j-(at'+(off+1)))+1 by lia];rfl
   ·rw[qE (by lia),qE e2,Array.getElem?_setIfInBounds_ne (by lia)]
theorem RI{l:List Keyed}{at' n:Nat}(h:at'+n<=xs.size)(hp:l.Perm ((xs.toList.drop at').take n)):((l.zipIdx 0).foldl (λa x=>a.setIfInBounds (at'+x.2) x.1) xs).toList.Perm xs.toList:=by
 have ln:l.length=n:=by rw[hp.length_eq,YL,Yp,X0];lia
 have e:((l.zipIdx 0).foldl (λa x=>a.setIfInBounds (at'+x.2) x.1) xs).toList=xs.toList.take at'++(l++xs.toList.drop (at'+n)):=by
  apply List.ext_getElem?;intro j;have zl:xs.toList.length=xs.size:=X0;have lt:(xs.toList.take at').length=at':=by rw[YL];lia
  rw[Y5,Lc l 0 at' xs (by lia),Zn,ln]
  by_cases e1:j<at'
  ·rw[YQ (by lia),qE (by lia),List.getElem?_take_of_lt e1,Y5]
  ·rw[X9 (by lia),lt]
   by_cases e2:j<at'+n
   ·rw[YQ (by lia),qF (by lia)]
   ·rw[X9 (by lia),qE (by lia),List.getElem?_drop,Y5]
    congr 1
    lia
 rw[e]
 have e3:xs.toList=xs.toList.take at'++((xs.toList.drop at').take n++xs.toList.drop (at'+n)):=by rw[<-List.drop_drop,Yl,Yl]
 exact (Zb _ (hp.append_right _)).trans (List.Perm.of_eq e3.symm)
theorem Wa.refl{lo hi:Nat}(h:Cw κ xs lo hi):Wa κ xs xs lo hi:=⟨.refl _,λ_ _=>rfl,h⟩
theorem Ld{sa n1 k sb nb nb':Nat}{m:Array Keyed}(hz:sb+nb<=xs.size)(hk:sa+k<sb)(hn:nb'<=nb)(h1:Cw κ xs sa sb)(h2:Cw κ xs sb (sb+nb))
  (ha:∀j,sa<=j->j<sa+k->ky κ xs j<=ky κ xs sb) (hb:∀j,sb+nb'<=j->j<sb+nb->ky κ xs (sb-1)<=ky κ xs j) (hnb:1<=nb)
  (hm:Kv κ (xs.extract (sa+k) sb) (xs.extract sb (sb+nb')) m):Wa κ xs ((m.toList.zipIdx 0).foldl (λa x=>a.setIfInBounds (sa+k+x.2) x.1) xs) sa (sb+nb):=by
 have e:(xs.extract (sa+k) sb).toList++(xs.extract sb (sb+nb')).toList=(xs.toList.drop (sa+k)).take (sb+nb'-(sa+k)):=by
  rw[ZJ,ZJ,Y3,Y3]
  have:(xs.toList.drop (sa+k)).take (sb+nb'-(sa+k))=(xs.toList.drop (sa+k)).take (sb-(sa+k))++((xs.toList.drop (sa+k)).drop (sb-(sa+k))).take (sb+nb'-sb):=by
   rw[<-List.take_add]
   congr 1
   lia
  rw[this,List.drop_drop]
  congr 3
  lia
 have pm:=hm.1;rw[e]at pm;have ln:m.toList.length=sb+nb'-(sa+k):=by rw[pm.length_eq,YL,Yp,X0];lia
 have g:∀j,((m.toList.zipIdx 0).foldl (λa x=>a.setIfInBounds (sa+k+x.2) x.1) xs)[j]?=if sa+k<=j/\j<sb+nb' then m.toList[j-(sa+k)]? else xs[j]?:=λj=>by rw[Lc _ _ _ _ (by rw[ln];lia),ln];rw[Zn,show sa+k+(sb+nb'-(sa+k))=sb+nb' by lia]
 refine⟨RI (by lia) pm,λj hj=>by rw[g,qE (by lia)],?_⟩;have k1:∀j,¬(sa+k<=j/\j<sb+nb')->ky κ ((m.toList.zipIdx 0).foldl (λa x=>a.setIfInBounds (sa+k+x.2) x.1) xs) j=ky κ xs j:=λj hj=>Bk (by rw[g,qE hj])
 have k2:∀j,sa+k<=j->j<sb+nb'->ky κ ((m.toList.zipIdx 0).foldl (λa x=>a.setIfInBounds (sa+k+x.2) x.1) xs) j=ky κ m (j-(sa+k)):=λj h1 h2=>Bk (by rw[g,qF ⟨h1,h2⟩,Y5])
 have k3:∀j,sa+k<=j->j<sb+nb'->∃i,sa+k<=i/\i<sb+nb'/\ky κ m (j-(sa+k))=ky κ xs i:=λj h1 h2=>by
  have hl:j-(sa+k)<m.size:=by rw[<-X0,ln];lia
  have mem:m[j-(sa+k)]∈m.toList:=by simp
  obtain⟨i,q1,q2,q3,e⟩:=Dg (pm.mem_iff.mp mem);rw[X0]at q3;refine⟨i,q1,by lia,?_⟩;rw[An hl,An q3,<-e,Yi]
 have sm:=HP.mp hm.2;have zm:m.size=sb+nb'-(sa+k):=by rw[<-X0,ln]
 intro x y hx hxy hy
 by_cases c1:x<sa+k
 ·rw[k1 x (by lia)]
  by_cases c2:y<sa+k
  ·rw[k1 y (by lia)];exact h1 x y hx hxy (by lia)
  ·by_cases c3:y<sb+nb'
   ·rw[k2 y (by lia) c3];obtain⟨i,q1,q2,e⟩:=k3 y (by lia) c3;rw[e]
    by_cases c4:i<sb
    ·exact h1 x i hx (by lia) c4
    ·exact Yt (ha x hx c1) (h2 sb i (Xi _) (by lia) (by lia))
   ·rw[k1 y (by lia)];exact Yt (ha x hx c1) (h2 sb y (Xi _) (by lia) hy)
 ·by_cases c3:x<sb+nb'
  ·rw[k2 x (by lia) c3]
   by_cases c4:y<sb+nb'
   ·rw[k2 y (by lia) c4];exact sm _ _ (X4 _) (by lia) (by lia)
   ·rw[k1 y (by lia)];obtain⟨i,q1,q2,e⟩:=k3 x (by lia) c3;rw[e]
    by_cases c5:i<sb
    ·exact Yt (h1 i (sb-1) (by lia) (by lia) (by lia)) (hb y (by lia) hy)
    ·exact h2 i y (by lia) (by lia) hy
  ·rw[k1 x (by lia),k1 y (by lia)];exact h2 x y (by lia) hxy hy
end
section
variable{prog:qT}{w:qU}{A:Around}{s:qS}{k:SortKind}{a₀ xs:Array Keyed}{p:Array (Nat×Nat×Nat)}{κ:Keyed->Int}{st:SortSt}
theorem RJ{t:SortSt}{Q:PUnit->SortSt->Prop}(h:Q ⟨⟩ t):wpS (model prog w) A E s (set t:StateT SortSt Sem PUnit) Q st:=by unfold wpS;rw[StateT.run_set];exact qD ⟨rfl,h⟩
theorem Nh(hc:Fs prog w A s k a₀ κ)(X:SX k xs p st)(mx:∀x∈xs.toList,x∈a₀.toList){i sa na pw nb pw2:Nat}(e1:p[i]?=some (sa,na,pw))(e2:p[i+1]?=some (sa+na,nb,pw2))(hna:1<=na)(hnb:1<=nb)(hz:sa+na+nb<=xs.size)
  (s1:Cw κ xs sa (sa+na)) (s2:Cw κ xs (sa+na) (sa+na+nb)) {Q:Bool->SortSt->Prop} (h:∀xs' t,Wa κ xs xs' sa (sa+na+nb)->SX k xs' ((p.setIfInBounds i (sa,na+nb,pw)).eraseIdxIfInBounds (i+1)) t->Q true t):wpS (model prog w) A E s (mergeAt' i) Q st:=by
 have gx:∀{i:Nat} (hi:i<xs.size),xs[i]∈a₀.toList:=λ{i} hi=>mx _ (by simp)
 have zx:Cw κ xs sa (sa+na+nb)->∀t,SX k xs ((p.setIfInBounds i (sa,na+nb,pw)).eraseIdxIfInBounds (i+1)) t->Q true t:=λz t T=>h xs t (.refl z) T
 rcases st with⟨k',xs',p',gm,fl⟩;have ek:=X.kd;have ex:=X.ar;have ep:=X.pd;have ef:=X.fl;dsimp only[kindOf,arrOf,pendingOf,failedOf]at ek ex ep ef;subst ek ex ep ef;refine qJ (wpS_get ?_);dsimp (config:={zeta:=false,zetaHave:=false}) only;rw[e1,e2];obtain⟨sb,hsb⟩:∃sb,sb=sa+na:=⟨_,rfl⟩;rw[<-hsb]at s1 s2 hz h zx⊢;have X2:SX k' xs' ((p'.setIfInBounds i (sa,na+nb,pw)).eraseIdxIfInBounds (i+1)) (SortSt.mk' k' xs' ((p'.setIfInBounds i (sa,na+nb,pw)).eraseIdxIfInBounds (i+1)) gm none):=⟨rfl,rfl,rfl,rfl⟩;have lsb:sb<xs'.size:=by lia
 refine qJ (RJ ?_);refine qJ (BO lsb (qJ (Td hc rfl (gx lsb) mx (by lia) (by lia) (by rw[<-hsb];exact s1) λr hr r1 r2=>?_)));rw[<-An (κ:=κ),<-hsb]at r2;rw[<-An (κ:=κ)]at r1;refine AX (λz=>?_) λz=>?_
 ·have z:na-r=0:=eq_of_beq z;refine qK (zx (λx y hx hxy hy=>?_) _ X2)
  by_cases c1:y<sb
  ·exact s1 x y hx hxy c1
  ·by_cases c2:x<sb
   ·exact Yt (r1 x hx (by lia)) (s2 sb y (Xi _) (by lia) hy)
   ·exact s2 x y (by lia) hxy hy
 have z:na-r≠0:=Cs z;have ll:sb-1<xs'.size:=by lia
 have e3:sa+r+(na-r)-1=sb-1:=by lia
 rw[e3];refine qJ (BO ll (qJ (Te hc rfl (gx ll) mx (by lia) (by lia) s2 λr' hr' r1' r2'=>?_)));rw[<-An (κ:=κ)]at r1' r2';refine AX (λz=>?_) λz=>?_
 ·have z:r'=0:=eq_of_beq z;subst z;refine qK (zx (λx y hx hxy hy=>?_) _ X2)
  by_cases c1:y<sb
  ·exact s1 x y hx hxy c1
  ·by_cases c2:x<sb
   ·exact Yt (s1 x (sb-1) hx (by lia) (by lia)) (r2' y (by lia) hy)
   ·exact s2 x y (by lia) hxy hy
 have z2:r'≠0:=Cs z
 extract_lets x y jp
 have zx1:(xs'.extract (sa+r) sb).size=sb-(sa+r):=by rw[Array.size_extract];lia
 have zy1:(xs'.extract sb (sb+r')).size=r':=by rw[Array.size_extract];lia
 have kx:∀j,j<sb-(sa+r)->ky κ (xs'.extract (sa+r) sb) j=ky κ xs' (sa+r+j):=λj hj=>Bk (by rw[Array.getElem?_extract,qF (by lia)])
 have ky1:∀j,j<r'->ky κ (xs'.extract sb (sb+r')) j=ky κ xs' (sb+j):=λj hj=>Bk (by rw[Array.getElem?_extract,qF (by lia)])
 have mx1:∀q∈(xs'.extract (sa+r) sb).toList,q∈a₀.toList:=λq hq=>mx q (by rw[HR]at hq;exact Z8 (Z6 hq))
 have my1:∀q∈(xs'.extract sb (sb+r')).toList,q∈a₀.toList:=λq hq=>mx q (by rw[HR]at hq;exact Z8 (Z6 hq))
 have sx1:Cw κ (xs'.extract (sa+r) sb) 0 (xs'.extract (sa+r) sb).size:=λx y _ hxy hy=>by rw[zx1]at hy;rw[kx _ (by lia),kx _ (by lia)];exact s1 _ _ (by lia) (by lia) (by lia)
 have sy1:Cw κ (xs'.extract sb (sb+r')) 0 (xs'.extract sb (sb+r')).size:=λx y _ hxy hy=>by rw[zy1]at hy;rw[ky1 _ (by lia),ky1 _ (by lia)];exact s2 _ _ (by lia) (by lia) (by lia)
 have h0:ky κ (xs'.extract sb (sb+r')) 0<ky κ (xs'.extract (sa+r) sb) 0:=by rw[kx _ (by lia),ky1 _ (by lia)];exact r2 _ (by lia) (by lia)
 have hl:∀j,j<r'->ky κ (xs'.extract sb (sb+r')) j<ky κ (xs'.extract (sa+r) sb) ((xs'.extract (sa+r) sb).size-1):=λj hj=>by rw[kx _ (by lia),ky1 _ hj,zx1,show sa+r+(sb-(sa+r)-1)=sb-1 by lia];exact r1' _ (by lia) (by lia)
 have J:∀m t,SX k' xs' ((p'.setIfInBounds i (sa,na+nb,pw)).eraseIdxIfInBounds (i+1)) t->Kv κ (xs'.extract (sa+r) sb) (xs'.extract sb (sb+r')) m->wpS (model prog w) A E s (jp m) Q t:=λm t T R=>by refine qJ (wpS_modify (qJ (wpS_get (qK ?_))));have sw:=Ld (n1:=0) hz (by lia) hr' s1 s2 (λj h1 h2=>r1 j h1 h2) (λj h1 h2=>r2' j h1 h2) hnb R;have tf:=T.fl;have ta:=T.ar;have q:=h _ (SortSt.mk' (kindOf t) ((m.toList.zipIdx 0).foldl (λa x=>a.setIfInBounds (sa+r+x.2) x.1) (arrOf t)) (pendingOf t) (gallopOf t) (failedOf t)) sw ⟨T.kd,by show List.foldl _ (arrOf t) _=_;rw[ta],T.pd,T.fl⟩;show Q (failedOf t).isNone _;rw[tf];exact q
 refine AX (λ_=>qJ (Nf hc X2 mx1 my1 sx1 sy1 (by lia) (by lia) h0 (λj hj=>hl j (by lia)) λm t T R=>J m t T R)) λ_=>qJ (Ng hc X2 mx1 my1 sx1 sy1 (by lia) (by lia) h0 (hl _ (by lia)) λm t T R=>J m t T R)
end
structure KR(xs ys:Array Keyed)(lo:Nat):Prop where
 pm:ys.toList.Perm xs.toList
 ot:∀j,j<lo->ys[j]?=xs[j]?
def Uo(κ:Keyed->Int)(xs:Array Keyed)(i j:Nat):Prop:=∀x y,i<=x->x<=y->y<j->ky κ xs y<=ky κ xs x
section
variable{κ:Keyed->Int}{xs ys:Array Keyed}{lo:Nat}
theorem KR.size(h:KR xs ys lo):ys.size=xs.size:=by have z:=h.pm.length_eq;simpa using z
theorem KR.mirror(h:KR xs ys lo){i:Nat}(hi:lo<=i)(hj:j<=ys.size):KR xs (mirror ys i j ((j-i)/2)) lo:=
 ⟨(Array.perm_iff_toList_perm.mp (mirror_perm ..)).trans h.pm,λx hx=>by rw[getElem?_mirror_all hj,qE (by lia)];exact h.ot x hx⟩
theorem KR.bubble(h:KR xs ys lo){src d:Nat}(hs:src<ys.size)(hd:lo+d<=src):KR xs (bubble ys src d) lo:=
 ⟨(Array.perm_iff_toList_perm.mp (bubble_perm ..)).trans h.pm,λx hx=>by rw[getElem?_bubble hs _ (by lia),qE (by lia),qE (by lia)];exact h.ot x hx⟩
theorem Ft{i:Nat}(hj:j<=xs.size)(x:Nat):ky κ (mirror xs i j ((j-i)/2)) x=if i<=x/\x<j then ky κ xs (i+j-1-x) else ky κ xs x:=by
 have e:=getElem?_mirror_all (i:=i) hj x;split
 ·rw[qF ‹_›]at e;exact Bk e
 ·rw[qE ‹_›]at e;exact Bk e
theorem B3{i:Nat}(hj:j<=xs.size)(h:∀x,i<=x->x<j->ky κ xs x=ky κ xs (j-1))(x:Nat):ky κ (mirror xs i j ((j-i)/2)) x=ky κ xs x:=by
 rw[Ft hj];split
 ·rw[h _ (by lia) (by lia),h x (by lia) (by lia)]
 ·rfl
end
section
variable{prog:qT}{w:qU}{A:Around}{s:qS}{k:SortKind}{a₀ xs ys:Array Keyed}{p:Array (Nat×Nat×Nat)}{κ:Keyed->Int}{st:SortSt}{lo:Nat}
theorem EO(hc:Fs prog w A s k a₀ κ)(X:SX k ys p st)(my:∀x∈ys.toList,x∈a₀.toList){i:Nat}(hi:i<ys.size)(hj:j<ys.size){Q:Option Bool->SortSt->Prop}(h1:ky κ ys i<ky κ ys j->Q (some true) st)(h2:ky κ ys j<=ky κ ys i->Q (some false) st):wpS (model prog w) A E s (ltAt' i j) Q st:=by
 rw[ltAt'_eq];refine qJ (wpS_get ?_);dsimp only;rw[X.ar];refine qJ (BO hi (qJ (BO hj (PY hc X (my _ (by simp)) (my _ (by simp)) ?_ ?_))))
 ·rw[<-An (κ:=κ),<-An (κ:=κ)];exact h1
 ·rw[<-An (κ:=κ),<-An (κ:=κ)];exact h2
theorem Mh(X:SX k ys p st){i:Nat}{Q:Unit->SortSt->Prop}(h:∀t,SX k (mirror ys i j ((j-i)/2)) p t->Q () t):wpS (model prog w) A E s (reverseSlice' i j) Q st:=by rw[reverseSlice'_eq];exact wpS_modify (h _ ⟨X.kd,by show mirror (arrOf st) _ _ _=_;rw[X.ar],X.pd,X.fl⟩)
theorem Tf(X:SX k ys p st){i:Nat}{Q:Unit->SortSt->Prop}(h:∀t,SX k (bubble ys i (i-j)) p t->Q () t):wpS (model prog w) A E s (moveDown' i j) Q st:=by rw[moveDown'_eq];exact wpS_modify (h _ ⟨X.kd,by show bubble (arrOf st) _ _=_;rw[X.ar],X.pd,X.fl⟩)
theorem Le(hc:Fs prog w A s k a₀ κ)(X:SX k xs p st)(mx:∀x∈xs.toList,x∈a₀.toList){nrem:Nat}(h1:1<=nrem)(hz:lo+nrem<=xs.size){Q:Option Nat->SortSt->Prop}
  (h:∀r ys t,1<=r->r<=nrem->SX k ys p t->KR xs ys lo->Cw κ ys lo (lo+r)->Q (some r) t):wpS (model prog w) A E s (countRun' lo nrem) Q st:=by
 have one:∀{ys:Array Keyed},Cw κ ys lo (lo+1):=λ{ys} x y h1 h2 h3=>by
  obtain rfl:x=y:=by lia
  exact Yz _
 have grow:∀{ys:Array Keyed} {n:Nat},1<=n->Cw κ ys lo (lo+n)->ky κ ys (lo+n-1)<=ky κ ys (lo+n)->Cw κ ys lo (lo+(n+1)):=λ{ys n} n1 hs hle x y q1 q2 q3=>by
  by_cases c:y<lo+n
  ·exact hs x y q1 q2 c
  ·obtain rfl:y=lo+n:=by lia
   by_cases c2:x=lo+n
   ·subst c2;exact Yz _
   ·exact Yt (hs x (lo+n-1) q1 (by lia) (by lia)) hle
 have K0:KR xs xs lo:=⟨.refl _,λ_ _=>rfl⟩;refine qJ (wpS_mono (qL (I:=λn c t=>t=st/\c=(none,n)/\Cw κ xs lo (lo+n)) (Q:=λc t=>t=st/\∃n,c=(none,n)/\1<=n/\n<=nrem/\Cw κ xs lo (lo+n)/\(n=nrem\/ky κ xs (lo+n)<ky κ xs (lo+n-1))) ?_ ?_ ⟨rfl,rfl,one⟩) ?_)
 ·rintro n c t q1 q2 ⟨rfl,rfl,hs⟩;refine qJ (EO hc X mx (show lo+n<xs.size by lia) (show lo+n-1<xs.size by lia) (λz=>?_) λz=>?_)
  ·exact AX (λ_=>qK ⟨rfl,n,rfl,q1,by lia,hs,.inr z⟩) λz=>qG rfl z
  ·exact AX (λz=>qG z (by decide)) λ_=>qK ⟨rfl,rfl,grow q1 hs z⟩
 ·rintro c t ⟨rfl,rfl,hs⟩;rw[show max 1 nrem=nrem by lia]at hs⊢;exact⟨rfl,nrem,rfl,h1,Xi _,hs,.inl rfl⟩
 rintro c t ⟨rfl,n,rfl,n1,nn,hs,hor⟩;refine AX (λz=>qK (h n xs _ n1 nn X K0 hs)) λz=>?_;have z:n≠nrem:=Cs z;have hlt:=hor.resolve_left z
 extract_lets n2 n3 jp
 have J:∀ys t,SX k ys p t->KR xs ys lo->Uo κ ys lo (lo+(n+1))->wpS (model prog w) A E s (jp ()) Q t:=λys t X K D=>by
  refine qJ (wpS_lift (wpAny_rule ⟨rfl,?_⟩));have zy:=K.size
  refine qJ (wpS_mono (qL (I:=λm c t=>∃q zs,c=(none,m,q)/\SX k zs p t/\KR xs zs lo/\Uo κ zs lo (lo+m)/\q+1<=m/\∀x,lo+m-(q+1)<=x->x<lo+m->ky κ zs x=ky κ zs (lo+m-1))
   (Q:=λc t=>∃m q zs,c=(none,m,q)/\1<=m/\m<=nrem/\SX k zs p t/\KR xs zs lo/\Uo κ zs lo (lo+m)/\q+1<=m/\∀x,lo+m-(q+1)<=x->x<lo+m->ky κ zs x=ky κ zs (lo+m-1)) ?_ ?_ ⟨0,ys,rfl,X,K,D,Nat.le_add_left _ _,λx q1 q2=>by
    have q1:lo+(n+1)-(0+1)<=x:=q1;have q2:x<lo+(n+1):=q2;show ky κ ys x=ky κ ys (lo+(n+1)-1)
    congr 1;lia⟩) ?_)
  ·rintro m c t (q1:n+1<=m) q2 ⟨q,zs,rfl,X,K,D,hq,he⟩;have zz:=K.size;have mz:∀x∈zs.toList,x∈a₀.toList:=λx hx=>mx x (K.pm.mem_iff.mp hx)
   refine qJ (EO hc X mz (show lo+m<zs.size by lia) (show lo+m-1<zs.size by lia) (λz=>?_) λz=>?_)
   ·have dn:∀us:Array Keyed,(∀x,ky κ us x=ky κ zs x)->Uo κ us lo (lo+(m+1)):=λus hu x y r1 r2 r3=>by
     rw[hu,hu]
     by_cases c:y<lo+m
     ·exact D x y r1 r2 c
     ·obtain rfl:y=lo+m:=by lia
      by_cases c2:x=lo+m
      ·subst c2;exact Yz _
      ·exact Yt (YI z) (D x (lo+m-1) r1 (by lia) (by lia))
    have last:∀us:Array Keyed,∀x,lo+(m+1)-(0+1)<=x->x<lo+(m+1)->ky κ us x=ky κ us (lo+(m+1)-1):=λus x r1 r2=>by congr 1;lia
    refine AX (λ_=>AX (λg=>?_) λg=>?_) λz=>qG rfl z
    ·refine qJ (Mh X λt X=>qK ⟨0,_,rfl,X,K.mirror (show lo<=lo+m-(q+1) by lia) (show lo+m<=zs.size by lia),dn _ (B3 (show lo+m<=zs.size by lia) he),by lia,last _⟩)
    ·exact qK ⟨0,_,rfl,X,K,dn _ λ_=>rfl,by lia,last _⟩
   ·refine AX (λz=>qG z (by decide)) λ_=>?_;refine qJ (EO hc X mz (show lo+m-1<zs.size by lia) (show lo+m<zs.size by lia) (λz2=>?_) λz2=>?_)
    ·exact AX (λ_=>qK ⟨m,q,zs,rfl,by lia,by lia,X,K,D,hq,he⟩) λz=>qG rfl z
    ·have ee:ky κ zs (lo+m)=ky κ zs (lo+m-1):=by lia
     refine AX (λz=>qG z (by decide)) λ_=>qK ⟨q+1,zs,rfl,X,K,λx y r1 r2 r3=>?_,by lia,λx r1 r2=>?_⟩
     ·by_cases c:y<lo+m
      ·exact D x y r1 r2 c
      ·obtain rfl:y=lo+m:=by lia
       by_cases c2:x=lo+m
       ·subst c2;exact Yz _
       ·rw[ee];exact D x (lo+m-1) r1 (by lia) (by lia)
     ·rw[show lo+(m+1)-1=lo+m by lia]
      by_cases c:x=lo+m
      ·subst c;rfl
      ·rw[ee];exact he x (by lia) (by lia)
  ·rintro c t ⟨q,zs,rfl,X,K,D,hq,he⟩;have em:max (n+1) nrem=nrem:=by lia
   have D:Uo κ zs lo (lo+max (n+1) nrem):=D;have hq:q+1<=max (n+1) nrem:=hq;have he:∀x,lo+max (n+1) nrem-(q+1)<=x->x<lo+max (n+1) nrem->ky κ zs x=ky κ zs (lo+max (n+1) nrem-1):=he;rw[em]at D hq he;exact⟨nrem,q,zs,by show (none,max (n+1) nrem,q)=_;rw[em],h1,Xi _,X,K,D,hq,he⟩
  rintro c t ⟨m,q,zs,rfl,m1,mn,X,K,D,hq,he⟩
  extract_lets c1 c2 c3 c4 jp2
  have J2:∀us t,SX k us p t->KR xs us lo->Uo κ us lo (lo+m)->wpS (model prog w) A E s (jp2 ()) Q t:=λus t X K D=>by
   have zu:=K.size;refine qJ (Mh X λt X=>?_);have K:=K.mirror (Xi lo) (show lo+m<=us.size by lia)
   have S:Cw κ (mirror us lo (lo+m) ((lo+m-lo)/2)) lo (lo+m):=λx y r1 r2 r3=>by rw[Ft (by lia),Ft (by lia),qF (by lia),qF (by lia)];exact D _ _ (by lia) (by lia) (by lia)
   have zv:=K.size;have X:SX k (mirror us lo (lo+m) ((lo+m-lo)/2)) p t:=X;obtain⟨vs,hv⟩:∃vs,vs=mirror us lo (lo+m) ((lo+m-lo)/2):=⟨_,rfl⟩;rw[<-hv]at X K S zv;clear hv;have mv:∀x∈vs.toList,x∈a₀.toList:=λx hx=>mx x (K.pm.mem_iff.mp hx)
   refine qJ (wpS_mono (qL (I:=λn c u=>u=t/\c=(none,n)/\Cw κ vs lo (lo+n)) (Q:=λc u=>u=t/\∃n,c=(none,n)/\1<=n/\n<=nrem/\Cw κ vs lo (lo+n)) ?_ ?_ ⟨rfl,rfl,S⟩) ?_)
   ·rintro n c t (q1:m<=n) q2 ⟨rfl,rfl,hs⟩;refine qJ (EO hc X mv (show lo+n<vs.size by lia) (show lo+n-1<vs.size by lia) (λz=>?_) λz=>?_)
    ·exact AX (λ_=>qK ⟨rfl,n,rfl,by lia,by lia,hs⟩) λz=>qG rfl z
    ·exact AX (λz=>qG z (by decide)) λ_=>qK ⟨rfl,rfl,grow (by lia) hs z⟩
   ·rintro c u ⟨rfl,rfl,hs⟩;have em:max m nrem=nrem:=by lia
    have hs:Cw κ vs lo (lo+max m nrem):=hs;rw[em]at hs;exact⟨rfl,nrem,by show (none,max m nrem)=_;rw[em],h1,Xi _,hs⟩
   ·rintro c u ⟨rfl,n,rfl,q1,q2,hs⟩;exact qK (h n vs _ q1 q2 X K hs)
  have zz:=K.size;refine AX (λg=>?_) λg=>J2 _ _ X K D
  refine qJ (Mh X λt X=>J2 _ _ X (K.mirror (show lo<=lo+m-(q+1) by lia) (show lo+m<=zs.size by lia)) λx y r1 r2 r3=>?_);rw[B3 (by lia) he,B3 (by lia) he];exact D x y r1 r2 r3
 refine AX (λg=>?_) λg=>?_
 ·have g:n>1:=g;refine qJ (EO hc X mx (show lo<xs.size by lia) (show lo+n-1<xs.size by lia) (λz=>?_) λz=>?_)
  ·exact AX (λ_=>qK (h n xs _ n1 nn X K0 hs)) λz=>qG rfl z
  ·have al:∀x,lo<=x->x<lo+n->ky κ xs x=ky κ xs (lo+n-1):=λx q1 q2=>by
    have a1:=hs lo x (Xi _) q1 q2;have a2:=hs x (lo+n-1) q1 (by lia) (by lia);lia
   refine AX (λz=>qG z (by decide)) λ_=>qJ (Mh X λt X=>J _ _ X (K0.mirror (Xi _) (show lo+n<=xs.size by lia)) λx y r1 r2 r3=>?_)
   rw[B3 (by lia) al,B3 (by lia) al]
   by_cases c:y<lo+n
   ·rw[al x r1 (by lia),al y (by lia) c];exact Yz _
   ·obtain rfl:y=lo+n:=by lia
    by_cases c2:x=lo+n
    ·subst c2;exact Yz _
    ·rw[al x r1 (by lia)];exact YI hlt
 ·have g:¬n>1:=g;obtain rfl:n=1:=by lia
  refine J xs _ X K0 λx y r1 r2 r3=>?_
  by_cases c2:x=y
  ·subst c2;exact Yz _
  ·obtain rfl:y=lo+1:=by lia
   obtain rfl:x=lo:=by lia
   exact YI hlt
end
noncomputable def Rl(κ:Keyed->Int)(xs:Array Keyed):Nat->List (Nat×Nat×Nat)->Nat->Prop
 |at',[],lo=>at'=lo
 |at',x::l,lo=>x.1=at'/\1<=x.2.1/\Cw κ xs at' (at'+x.2.1)/\Rl κ xs (at'+x.2.1) l lo
section
variable{κ:Keyed->Int}{xs ys:Array Keyed}
theorem Rl.len:∀{l:List (Nat×Nat×Nat)} {at' lo:Nat},Rl κ xs at' l lo->at'+l.length<=lo
 |[],_,_,h=>aH h
 |x::l,at',lo,⟨_,h2,_,h4⟩=>by have z:=Rl.len h4;rw[YT];lia
theorem Ia{i:Nat}(h:∀x,i<=x->x<j->ys[x]?=xs[x]?)(s:Cw κ xs i j):Cw κ ys i j:=λx y h1 h2 h3=>by rw[Bk (h x h1 (by lia)),Bk (h y (by lia) h3)];exact s x y h1 h2 h3
theorem Rl.congr:∀{l:List (Nat×Nat×Nat)} {at' lo:Nat},(∀x,at'<=x->x<lo->ys[x]?=xs[x]?)->Rl κ xs at' l lo->Rl κ ys at' l lo
 |[],_,_,_,h=>h
 |x::l,at',lo,hx,⟨h1,h2,h3,h4⟩=>by have z:=Rl.len h4;exact⟨h1,h2,Ia (λy q1 q2=>hx y q1 (by lia)) h3,Rl.congr (λy q1 q2=>hx y (by lia) q2) h4⟩
theorem Rl.app:∀{l1 l2:List (Nat×Nat×Nat)} {at' lo:Nat},Rl κ xs at' (l1++l2) lo↔∃m,Rl κ xs at' l1 m/\Rl κ xs m l2 lo
 |[],l2,at',lo=>⟨λh=>⟨at',rfl,h⟩,λ⟨m,h1,h2⟩=>by rw[show at'=m from h1];exact h2⟩
 |x::l1,l2,at',lo=>⟨λ⟨h1,h2,h3,h4⟩=>by obtain⟨m,q1,q2⟩:=Rl.app.mp h4;exact⟨m,⟨h1,h2,h3,q1⟩,q2⟩,λ⟨m,⟨h1,h2,h3,h4⟩,q⟩=>⟨h1,h2,h3,Rl.app.mpr ⟨m,h4,q⟩⟩⟩
theorem Rl.same:∀{l l':List (Nat×Nat×Nat)} {at' lo:Nat},l'.map (λx=>(x.1,x.2.1))=l.map (λx=>(x.1,x.2.1))->Rl κ xs at' l lo->Rl κ xs at' l' lo
 |[],[],_,_,_,h=>h
 |x::l,y::l',at',lo,e,⟨h1,h2,h3,h4⟩=>by
  rw[Yg,Yg]at e
  injection e with e1 e2
  injection e1 with e3 e4
  refine⟨e3.trans h1,?_,?_,?_⟩
  ·rw[e4];exact h2
  ·rw[e4];exact h3
  ·rw[e4];exact Rl.same e2 h4
 |[],_::_,_,_,e,_=>by simp at e
 |_::_,[],_,_,e,_=>by simp at e
theorem PZ(p:Array (Nat×Nat×Nat))(i pw:Nat):(p.modify i λx=>(x.1,x.2.1,pw)).toList.map (λx=>(x.1,x.2.1))=p.toList.map (λx=>(x.1,x.2.1)):=by
 apply List.ext_getElem?;intro j;rw[Xl,Xl,Y5,Y5,Array.getElem?_modify];split
 ·cases p[j]?<;>rfl
 ·rfl
end
section
variable{prog:qT}{w:qU}{A:Around}{s:qS}{k:SortKind}{a₀ xs ys:Array Keyed}{p:Array (Nat×Nat×Nat)}{κ:Keyed->Int}{st:SortSt}{lo:Nat}
theorem KS(hc:Fs prog w A s k a₀ κ)(X:SX k xs p st)(mx:∀x∈xs.toList,x∈a₀.toList)(R:Rl κ xs 0 p.toList lo)(hz:lo<=xs.size){i:Nat}(hi:i+1<p.size){Q:Bool->SortSt->Prop}
  (h:∀ys q t,SX k ys q t->ys.toList.Perm xs.toList->(∀j,lo<=j->ys[j]?=xs[j]?)->Rl κ ys 0 q.toList lo->q.size+1=p.size->Q true t):wpS (model prog w) A E s (mergeAt' i) Q st:=by
 have e0:p.toList=p.toList.take i++(p[i]::p[i+1]::p.toList.drop (i+2)):=by
  conv=>lhs;rw[<-Yl i p.toList]
  congr 1
  rw[List.drop_eq_getElem_cons (by simp;lia),List.drop_eq_getElem_cons (by simp;lia)];simp
 rw[e0]at R;obtain⟨m,R1,R2,R3,R4,R5,R6,R7,R8⟩:=Rl.app.mp R;have z1:=R1.len;have z2:=R8.len;rcases ep:p[i] with⟨sa,na,pw⟩;rcases ep2:p[i+1] with⟨sb,nb,pw2⟩;rw[ep]at R2 R3 R4 R5 R7 R8 z2;rw[ep2]at R5 R6 R7 R8 z2;dsimp only at R2 R3 R4 R5 R6 R7 R8 z2;subst R2;subst R5;refine Nh hc X mx (by rw[getElem?_pos p i (by lia),ep]) (by rw[getElem?_pos p (i+1) hi,ep2]) R3 R6 (by lia) R4 R7 λys t sw T=>?_
 have e1:((p.setIfInBounds i (sa,na+nb,pw)).eraseIdxIfInBounds (i+1)).toList=p.toList.take i++((sa,na+nb,pw)::p.toList.drop (i+2)):=by
  rw[Array.toList_eraseIdxIfInBounds,Array.toList_setIfInBounds]
  conv=>lhs;rw[e0]
  have ll:(p.toList.take i).length=i:=by rw[YL,X0];lia
  rw[List.set_append_right _ _ (by lia),ll,ZH,List.set_cons_zero,List.eraseIdx_append_of_length_le (by lia),ll,show i+1-i=1 by lia];rfl
 refine h ys _ t T sw.pm (λj hj=>sw.ot j (.inr (by lia))) ?_ ?_
 ·rw[e1];refine Rl.app.mpr ⟨sa,R1.congr λx q1 q2=>sw.ot x (.inl q2),rfl,by show 1<=na+nb;lia,?_,?_⟩
  ·show Cw κ ys sa (sa+(na+nb));rw[<-aB];exact sw.up
  ·show Rl κ ys (sa+(na+nb)) _ lo;rw[<-aB];exact R8.congr λx q1 q2=>sw.ot x (.inr q1)
 ·have z:=qP List.length e1;have z0:=qP List.length e0;simp only[Array.length_toList,List.length_append,List.length_cons]at z z0;lia
theorem Pa(hc:Fs prog w A s k a₀ κ)(X:SX k xs p st)(mx:∀x∈xs.toList,x∈a₀.toList){n ok:Nat}(h1:1<=ok)(h2:ok<=n)(hz:lo+n<=xs.size)(hs:Cw κ xs lo (lo+ok)){Q:Bool->SortSt->Prop}
  (h:∀ys t,SX k ys p t->KR xs ys lo->Cw κ ys lo (lo+n)->Q true t):wpS (model prog w) A E s (binarySort' lo n ok) Q st:=by
 refine qJ (wpS_mono (qL (I:=λx c t=>∃ys,c=(none,())/\SX k ys p t/\KR xs ys lo/\Cw κ ys lo (lo+x)) (Q:=λc t=>∃ys,c=(none,())/\SX k ys p t/\KR xs ys lo/\Cw κ ys lo (lo+n)) ?_ ?_ ⟨xs,rfl,X,⟨.refl _,λ_ _=>rfl⟩,by rw[show max ok 1=ok by lia];exact hs⟩) ?_)
 ·rintro x c t q1 q2 ⟨ys,rfl,X,K,S⟩;have zy:=K.size;have my:∀x∈ys.toList,x∈a₀.toList:=λx hx=>mx x (K.pm.mem_iff.mp hx)
  refine qJ (wpS_mono (qL (I:=λi c u=>u=t/\∃l r,c=(none,l,r)/\l<=r/\r<=x/\r-l<=x-i/\(∀j,j<l->ky κ ys (lo+j)<=ky κ ys (lo+x))/\(∀j,r<=j->j<x->ky κ ys (lo+x)<ky κ ys (lo+j)))
   (Q:=λc u=>u=t/\∃l r,c=(none,l,r)/\l<=x/\(∀j,j<l->ky κ ys (lo+j)<=ky κ ys (lo+x))/\(∀j,l<=j->j<x->ky κ ys (lo+x)<ky κ ys (lo+j))) ?_ ?_ ⟨rfl,0,x,rfl,by lia,by lia,by lia,λj hj=>by lia,λj a b=>by lia⟩) ?_)
  ·rintro i c u _ ix ⟨rfl,l,r,rfl,a1,a2,a3,a4,a5⟩;refine AX (λz=>?_) λz=>?_
   ·obtain rfl:l=r:=Nat.le_antisymm a1 z;exact qK ⟨rfl,l,l,rfl,a2,a4,a5⟩
   ·have z:¬l≥r:=z;refine qJ (EO hc X my (show lo+x<ys.size by lia) (show lo+(l+r)/2<ys.size by lia) (λy=>?_) λy=>?_)
    ·have y:ky κ ys (lo+x)<ky κ ys (lo+(l+r)/2):=y;refine AX (λ_=>qK ⟨rfl,l,(l+r)/2,rfl,by lia,by lia,by lia,a4,λj b1 b2=>?_⟩) λz=>qG rfl z
     exact Int.lt_of_lt_of_le y (S _ _ (by lia) (by lia) (by lia))
    ·have y:ky κ ys (lo+(l+r)/2)<=ky κ ys (lo+x):=y;refine AX (λz=>qG z (by decide)) λ_=>qK ⟨rfl,(l+r)/2+1,r,rfl,by lia,by lia,by lia,λj b1=>?_,a5⟩
     exact Yt (S _ _ (by lia) (by lia) (by lia)) y
  ·rintro c u ⟨rfl,l,r,rfl,a1,a2,a3,a4,a5⟩;obtain rfl:l=r:=by lia
   exact⟨rfl,l,l,rfl,a2,a4,a5⟩
  ·rintro c u ⟨rfl,l,r,rfl,a1,a4,a5⟩;refine qJ (Tf X λt X=>qK ⟨_,rfl,X,K.bubble (show lo+x<ys.size by lia) (show lo+(lo+x-(lo+l))<=lo+x by lia),?_⟩)
   have kb:∀j,ky κ (bubble ys (lo+x) (lo+x-(lo+l))) j=if j=lo+l then ky κ ys (lo+x) else if lo+l<j/\j<=lo+x then ky κ ys (j-1) else ky κ ys j:=λj=>by
    have e:=getElem?_bubble (xs:=ys) (show lo+x<ys.size by lia) (lo+x-(lo+l)) (by lia) j;rw[show lo+x-(lo+x-(lo+l))=lo+l by lia]at e;split
    ·rw[qF ‹_›]at e;exact Bk e
    ·rw[qE ‹_›]at e;split
     ·rw[qF ‹_›]at e;exact Bk e
     ·rw[qE ‹_›]at e;exact Bk e
   intro a b b1 b2 b3;show ky κ (bubble ys (lo+x) (lo+x-(lo+l))) a<=ky κ (bubble ys (lo+x) (lo+x-(lo+l))) b
   have a4':∀j,lo<=j->j<lo+l->ky κ ys j<=ky κ ys (lo+x):=λj q1 q2=>by have z:=a4 (j-lo) (by lia);rw[show lo+(j-lo)=j by lia]at z;exact z
   have a5':∀j,lo+l<=j->j<lo+x->ky κ ys (lo+x)<ky κ ys j:=λj q1 q2=>by have z:=a5 (j-lo) (by lia) (by lia);rw[show lo+(j-lo)=j by lia]at z;exact z
   rw[kb,kb]
   repeat' split
   all_goals first
    | (exfalso;lia)
    |exact Yz _
    |exact a4' _ (by lia) (by lia)
    |exact YI (a5' _ (by lia) (by lia))
    |exact S _ _ (by lia) (by lia) (by lia)
 ·rintro c t ⟨ys,rfl,X,K,S⟩;rw[show max (max ok 1) n=n by lia]at S;exact⟨ys,rfl,X,K,S⟩
 ·rintro c t ⟨ys,rfl,X,K,S⟩;exact qK (h ys t X K S)
end
section
variable{prog:qT}{w:qU}{A:Around}{s:qS}{k:SortKind}{a₀ xs ys:Array Keyed}{p:Array (Nat×Nat×Nat)}{κ:Keyed->Int}{st:SortSt}{lo:Nat}
theorem Pb{f:β->StateT SortSt Sem α}{m:StateT SortSt Sem α}{Q:α->SortSt->Prop}(R:β->SortSt->Prop)(J:∀x t,R x t->wpS (model prog w) A E s (f x) Q t)(h:(∀x t,R x t->wpS (model prog w) A E s (f x) Q t)->wpS (model prog w) A E s m Q st):wpS (model prog w) A E s m Q st:=h J
theorem Mi(hc:Fs prog w A s k a₀ κ)(X:SX k a₀ #[] st){Q:Unit->SortSt->Prop}(h:∀ys q t,SX k ys q t->ys.toList.Perm a₀.toList->Cw κ ys 0 a₀.size->Q () t):wpS (model prog w) A E s sortRuns' Q st:=by
 have sz:∀{ys:Array Keyed},ys.toList.Perm a₀.toList->ys.size=a₀.size:=λ{ys} z=>by have z:=z.length_eq;simpa using z
 refine qJ (wpS_get ?_);have ea:(arrOf st).size=a₀.size:=by rw[X.ar]
 extract_lets n0 mr lo0
 obtain⟨n,hn⟩:∃n,n=n0:=⟨_,rfl⟩;have en:n=a₀.size:=hn.trans ea;clear_value mr;rw[<-hn];clear_value n0;refine qJ (wpS_mono (qL (I:=λi c t=>∃lo ys p,c=(none,lo)/\SX k ys p t/\ys.toList.Perm a₀.toList/\Rl κ ys 0 p.toList lo/\lo<=n/\i<=lo) (Q:=λc t=>∃ys p,c=(none,n)/\SX k ys p t/\ys.toList.Perm a₀.toList/\Rl κ ys 0 p.toList n) ?_ ?_ ⟨0,a₀,#[],rfl,X,.refl _,rfl,X4 _,X4 _⟩) ?_)
 ·rintro i c t _ hi ⟨lo,ys,p,rfl,X,P,R,ln,li⟩;have zy:=sz P;have my:∀x∈ys.toList,x∈a₀.toList:=λx hx=>P.mem_iff.mp hx
  refine AX (λz=>?_) λz=>?_
  ·have z:lo≥n:=z;obtain rfl:lo=n:=by lia
   exact qK ⟨ys,p,rfl,X,P,R⟩
  have z:¬lo≥n:=z;refine qJ (Le hc X my (show 1<=n-lo by lia) (show lo+(n-lo)<=ys.size by lia) λr ys t r1 r2 X K S=>?_);dsimp (config:={zeta:=false,zetaHave:=false}) only
  extract_lets f jp fc
  have P:=K.pm.trans P;have R:=R.congr λx _ q=>K.ot x q
  have zy:=sz P;refine Pb (f:=jp ()) (λm t=>∃ys,1<=m/\lo+m<=n/\SX k ys p t/\ys.toList.Perm a₀.toList/\Rl κ ys 0 p.toList lo/\Cw κ ys lo (lo+m)) (λm t ⟨ys,m1,m2,X,P,R,S⟩=>?_) λJ=>?_
  ·refine qJ (wpS_get ?_)
   extract_lets lo1 jp2
   refine Pb (f:=jp2) (λ_ t=>∃ys p,SX k ys p t/\ys.toList.Perm a₀.toList/\Rl κ ys 0 p.toList lo/\Cw κ ys lo (lo+m)) (λ_ t ⟨ys,p,X,P,R,S⟩=>?_) λJ2=>?_
   ·refine qJ (wpS_modify (qK ⟨lo+m,ys,p.push (lo,m,0),rfl,⟨X.kd,X.ar,by show (pendingOf t).push _=_;rw[X.pd],X.fl⟩,P,?_,m2,by lia⟩));rw[Array.toList_push];exact Rl.app.mpr ⟨lo,R,rfl,m1,S,rfl⟩
   have ep:(sortPriv% PySem.Builtin.SortState.pending) t=p:=X.pd;rw[ep];rcases eb:p.back? with _|⟨s1,n1,w1⟩
   ·exact J2 () t ⟨ys,p,X,P,R,S⟩
   refine qJ (wpS_mono (qL (I:=λ_ c t=>∃ys p,c=(none,())/\SX k ys p t/\ys.toList.Perm a₀.toList/\Rl κ ys 0 p.toList lo/\Cw κ ys lo (lo+m)) (Q:=λc t=>∃ys p,c=(none,())/\SX k ys p t/\ys.toList.Perm a₀.toList/\Rl κ ys 0 p.toList lo/\Cw κ ys lo (lo+m)) ?_ (λ_ _ z=>z) ⟨ys,p,rfl,X,P,R,S⟩) ?_)
   ·rintro j c t _ _ ⟨ys,p,rfl,X,P,R,S⟩;refine qJ (wpS_get ?_);have ep:(sortPriv% PySem.Builtin.SortState.pending) t=p:=X.pd;rw[ep]
    extract_lets p2
    by_cases c1:p.size>1
    ·rw[qF c1,getElem?_pos p (p.size-2) (by lia)];rcases p[p.size-2] with⟨a1,a2,a3⟩;refine AX (λ_=>qK ⟨ys,p,rfl,X,P,R,S⟩) λ_=>?_;have zy:=sz P;refine qJ (KS hc X (λx hx=>P.mem_iff.mp hx) R (by lia) (show p.size-2+1<p.size by lia) λzs q t X P' O R' _=>?_);exact AX (λz=>qG z (by decide)) λ_=>qK ⟨zs,q,rfl,X,P'.trans P,R',Ia (λx q1 _=>O x q1) S⟩
    ·rw[qE c1];exact qK ⟨ys,p,rfl,X,P,R,S⟩
   ·rintro c t ⟨ys,p,rfl,X,P,R,S⟩;exact qJ (wpS_modify (J2 () _ ⟨ys,p.modify (p.size-1) λx=>(x.1,x.2.1,power' n (2*s1+n1) (2*s1+n1+n1+m) n),⟨X.kd,X.ar,qP (λz:Array (Nat×Nat×Nat)=>z.modify (z.size-1) λx=>(x.1,x.2.1,power' n (2*s1+n1) (2*s1+n1+n1+m) n)) X.pd,X.fl⟩,P,R.same (PZ p (p.size-1) _),S⟩))
  refine AX (λg=>?_) λg=>J r t ⟨ys,r1,by lia,X,P,R,S⟩
  have g:r<mr:=g;refine qJ (wpS_lift (wpAny_rule ⟨rfl,?_⟩));refine qJ (Pa hc X (λx hx=>P.mem_iff.mp hx) r1 (show r<=min (n-lo) mr by lia) (show lo+min (n-lo) mr<=ys.size by lia) S λzs t X K S=>?_);exact AX (λz=>qG z (by decide)) λ_=>J _ t ⟨zs,show 1<=min (n-lo) mr by lia,show lo+min (n-lo) mr<=n by lia,X,K.pm.trans P,R.congr λx _ q=>K.ot x q,S⟩
 ·rintro c t ⟨lo,ys,p,rfl,X,P,R,ln,li⟩;obtain rfl:lo=n:=by lia
  exact⟨ys,p,rfl,X,P,R⟩
 rintro c t ⟨ys,p,rfl,X,P,R⟩
 have fin:∀ys p t,SX k ys p t->ys.toList.Perm a₀.toList->Rl κ ys 0 p.toList n->p.size<=1->Q () t:=λys p t X P R h1=>by
  refine h ys p t X P ?_;rcases p with⟨l⟩;rw[<-en]
  match l,R,h1 with
  |[],R,_=>intro x y _ _ hy;have:0=n:=R;lia
  |[x],⟨_,_,S,R⟩,_ =>
   have e:0+x.2.1=n:=R;rw[e]at S;exact S
  |x::y::l,_,h1=>simp at h1
 have zp:=R.len;refine qJ (wpS_mono (qL (I:=λj c t=>∃ys p,c=(none,())/\SX k ys p t/\ys.toList.Perm a₀.toList/\Rl κ ys 0 p.toList n/\p.size+j<=n) (Q:=λc t=>c=(none,())/\Q () t) ?_ ?_ ⟨ys,p,rfl,X,P,R,by simp at zp;lia⟩) ?_)
 ·rintro j c t _ hj ⟨ys,p,rfl,X,P,R,pj⟩;refine qJ (wpS_get ?_);have ep:(sortPriv% PySem.Builtin.SortState.pending) t=p:=X.pd;rw[ep];refine AX (λz=>?_) λz=>?_
  ·exact qK ⟨rfl,fin ys p t X P R z⟩
  have z:¬p.size<=1:=z;have zy:=sz P;refine qJ (KS hc X (λx hx=>P.mem_iff.mp hx) R (by lia) ?_ λzs q t X P' O R' e=>?_)
  ·(repeat' split)<;>lia
  ·exact AX (λz=>qG z (by decide)) λ_=>qK ⟨zs,q,rfl,X,P'.trans P,R',by lia⟩
 ·rintro c t ⟨ys,p,rfl,X,P,R,pj⟩;exact⟨rfl,fin ys p t X P R (by lia)⟩
 ·rintro c t ⟨rfl,q⟩;exact qK q
end
end L2
namespace PySem
open Sem (wp)
open PyProof.Rows
end PySem
namespace L2
open PySem PySem.Spec PyProof.Rows
variable{E:qQ->qS->Prop}
section
variable{prog:qT}{w:qU}{A:Around}{s:qS}
theorem Pd{s:qS}{a₀:Array Keyed}(h:∀x∈a₀.toList,∃n t,x.1=.int n t):Fs prog w A s oneType' a₀ (λx=>numOf x.1):=λx hx y hy E Q q=>by
 obtain⟨n,t,e⟩:=h x hx;obtain⟨m,u,e2⟩:=h y hy;have e3:(λx y:Keyed=>decide ((λx:Keyed=>numOf x.1) x<(λx:Keyed=>numOf x.1) y)) x y=decide (n<m):=by simp only[e,e2];rfl
 rw[e3]at q;rw[keyLt'_oneType,e,e2];exact oneLt_int q
end
end L2
namespace L2
open PySem PySem.Spec PyProof.Rows RW
variable{B:qX->List (qX)}{E Q:qQ->qS->Prop}{G:Nat}{H:Hp}{M:List (qX)}{X:Cx}{a l:qR}{f:qX->Nat}{h':Heap}{p q:qX}{a7:qW}{vs:List qQ}{α β:Type}
theorem RK{l:List α}(h:2<=l.length):∃x y r,l=x::y::r:=by
 rcases l with _|⟨x,_|⟨y,l⟩⟩
 ·exact qG h (by rw[aC];decide)
 ·exact qG h (by rw[YZ];decide)
 ·exact⟨_,_,_,rfl⟩
noncomputable def CY(h:Heap):qQ->Int
 |.ref t=>match h.get? t with
  |some o=>match o.data with
   |.seq xs _=>BM 1000 (xs.toList.map numOf)
   |_=>0
  |none=>0
 |_=>0
def JV(n:Nat)(h:Heap)(v:qQ):Prop:=∃(t:qR) (vs:List qQ) (ns:qW),v=.ref t/\IsTup h t vs.toArray/\IntsAre vs ns/\ns.length=n/\∀x∈ns,0<=x/\x<1000
theorem JV.i{n:Nat}{h:Heap}{v:qQ}(n0:n≠0)(x:JV n h v):PQ h v:=by obtain⟨t,vs,ns,e,g,i,l,_⟩:=x;exact⟨t,vs,ns,e,g,i,λz=>n0 (by rw[<-l,z];rfl)⟩
theorem JV.at{n:Nat}{h:Heap}{v:qQ}(x:JV n h v)(k:∀t o,h.get? t=some o->o.cls=.type "tuple"->h'.get? t=some o):JV n h' v:=by obtain⟨t,vs,ns,e,⟨o,g,c,d⟩,i,ne⟩:=x;exact⟨t,vs,ns,e,⟨o,k t o g c,c,d⟩,i,ne⟩
theorem DA{h:Heap}{t:qR}{ns:qW}(g:IsTup h t vs.toArray)(i:IntsAre vs ns):CY h (.ref t)=BM 1000 ns:=by obtain⟨o,e,_,_,d⟩:=g;unfold CY;simp only[e,d];rw[i.nums]
theorem RL{g:Int}(hg:2<=g){a b:qW}(l:a.length=b.length)(ha:∀n∈a,0<=n/\n<g)(hb:∀n∈b,0<=n/\n<g):HT.B7 a b=decide (BM g a<BM g b):=by
 by_cases z:BM g a<BM g b
 ·rw[qH z];exact Er hg l ha hb z
 ·rw[qI z]
  have irr:∀a:qW,HT.B7 a a=false:=λa=>by
   induction a with
   |nil=>exact HT.DF
   |cons x a ih=>rw[HT.DX,qF rfl];exact ih
  have asy:∀{a b:qW},HT.B7 a b=true->HT.B7 b a=false:=by
   intro a
   induction a with
   |nil =>
    intro b h;cases b with
    |nil=>exact h▸(by rw[HT.DF]at h;cases h)
    |cons y b=>exact HT.Cn ..
   |cons x a ih =>
    intro b h;cases b with
    |nil=>rw[HT.Cn]at h;cases h
    |cons y b =>
     rw[HT.DX]at h⊢
     by_cases e:x=y
     ·rw[qF e]at h;rw[qF e.symm];exact ih h
     ·rw[qE e]at h;rw[qE (Ne.symm e)];have:=qN h;exact qI (by lia)
  by_cases y:BM g b<BM g a
  ·exact asy (Er hg l.symm hb ha y)
  ·have e:a=b:=by
    have e1:=EJ hg ha;have e2:=EJ hg hb;rw[show BM g a=BM g b by lia,l]at e1;exact e1.symm.trans e2
   rw[e];exact irr b
theorem KU{F:α->β->Prop}:∀{l₁:List α} {l₂:List β},Paired F l₁ l₂->∀b∈l₂,∃a∈l₁,F a b
 |_,_,.nil,_,h=>by cases h
 |_,_,.cons r t,b,h=>by
  rcases X3.mp h with rfl|h
  ·exact⟨_,X5,r⟩
  ·obtain⟨a,h1,h2⟩:=KU t b h;exact⟨a,Xw _ h1,h2⟩
theorem KW{F:α->β->Prop}{l l':List α}(p:l'.Perm l):∀{m:List β},Paired F l m->∃m',m'.Perm m/\Paired F l' m':=by
 induction p with
 |nil=>intro m h;exact⟨m,.refl _,h⟩
 |cons a _ ih =>
  intro m h;cases h with
  |cons r h =>
   obtain⟨m',p1,v1⟩:=ih h;exact⟨_::m',p1.cons _,.cons r v1⟩
 |swap a b l =>
  intro m h;cases h with
  |cons r h =>
   cases h with
   |cons r2 h=>exact⟨_,.swap ..,.cons r2 (.cons r h)⟩
 |trans _ _ ih1 ih2 =>
  intro m h;obtain⟨zs,p2,v2⟩:=ih2 h;obtain⟨ys,p1,v1⟩:=ih1 v2;exact⟨ys,p1.trans p2,v1⟩
theorem KY{F:α->β->Prop}:∀{l₁:List α} {l₂:List β},Paired F l₁ l₂->∀a∈l₁,∃b,F a b
 |_,_,.nil,_,h=>by cases h
 |_,_,.cons r t,a,h=>by
  rcases X3.mp h with rfl|h
  ·exact⟨_,r⟩
  ·exact KY t a h
section
variable{prog:qT}{w:qU}{A:Around}{s:qS}
theorem Pe{n:Nat}{b:Bool}{a₀:Array Keyed}(h:∀x∈a₀.toList,JV n s.heap x.1):Fs prog w A s (tuples' b) a₀ (λx=>CY s.heap x.1):=λx hx y hy E Q q=>by
 obtain⟨tx,vx,nx,ex,gx,ix,lx,bx⟩:=h x hx;obtain⟨ty,vy,ny,ey,gy,iy,ly,by_⟩:=h y hy
 have e3:(λx y:Keyed=>decide ((λx:Keyed=>CY s.heap x.1) x<(λx:Keyed=>CY s.heap x.1) y)) x y=HT.B7 nx ny:=by show decide (CY s.heap x.1<CY s.heap y.1)=_;rw[ex,ey,DA gx ix,DA gy iy,RL (by decide) (lx.trans ly.symm) bx by_]
 rw[e3]at q;rw[ex,ey];exact Nb b gx gy ix iy q
theorem KZ{m:Nat}(m0:m≠0){n:Nat}{P:Fin->qS->Prop}(ho:s.heap.get? a=some (seqObj "list" vs.toArray n))(hT:∀v∈vs,JV m s.heap v)(hz:vs.length<=100000)
  (h:∀out:Array qQ,out.toList.Perm vs->out.toList.Pairwise (λu v=>CY s.heap u<=CY s.heap v)->P (.done (.ret .none)) {s with heap:=sortedHeap s.heap a vs out}):wpAny (model prog w) A (Builtin.«list.sort» ⟨[.ref a],[]⟩) P E s:=by
 rw[list_sort_plain];have lt:=Xm ho;obtain⟨e1,ho1⟩:∃e1,(s.heap.update a (Obj.mapSeq λ_=>#[])).get? a=some (seqObj "list" #[] e1):=⟨_,get?_update_seq ho (λ_=>#[])⟩;refine qC (listItems_at ho rfl (qC (listUpdate_at ho rfl (qC (seqEpoch_at ho1 rfl (qC (wpAny_newTuple (qC (wpAny_newList (qO ?_))))))))))
 have up:∀t o,t≠a->s.heap.get? t=some o->(((s.heap.update a (Obj.mapSeq λ_=>#[])).push (seqObj "tuple" vs.toArray 0)).push (seqObj "list" #[] 0)).get? t=some o:=λt o ne g =>
  Xh _ (Xh _ (by rw[Yr _ _ _ _ ne];exact g))
 have hl:(((s.heap.update a (Obj.mapSeq λ_=>#[])).push (seqObj "tuple" vs.toArray 0)).push (seqObj "list" #[] 0)).get? a=some (seqObj "list" #[] e1):=Xh _ (Xh _ ho1);show wpAny (model prog w) A _ P E {s with heap:=((s.heap.update a (Obj.mapSeq λ_=>#[])).push (seqObj "tuple" vs.toArray 0)).push (seqObj "list" #[] 0)};dsimp only;have sz:vs.toArray.size=vs.length:=by simp
 have line:vs.length<=sizeLine+1:=by rw[sizeLine_eq];lia
 have hT6:∀v∈vs,JV m (((s.heap.update a (Obj.mapSeq λ_=>#[])).push (seqObj "tuple" vs.toArray 0)).push (seqObj "list" #[] 0)) v:=λv hv=>(hT v hv).at λt o g c=>up t o (λz=>by rw[z,ho]at g;cases g;exact qG (Value.type.inj c) (by decide)) g
 by_cases h2:vs.toArray.size<2
 ·rw[qF h2,qF h2];refine qC (qD ?_);rw[StateT.run_pure];refine qC (qD (qC (seqEpoch_at hl rfl (qC (listUpdate_at hl rfl ?_ (hsz2:=by rw[Array.size_map];show (pairsOf vs).size<=_;rw[pairsOf_size];exact line))))));simp only[bne_self_eq_false,Bool.false_eq_true,if_false]
  exact qD (h _ (by simp[List.map_snd_zip]) (by
   have l1:((pairsOf vs).map (·.2)).toList.length<2:=by rw[X0,Array.size_map,pairsOf_size];lia
   have one:∀(l:List qQ),l.length<2->l.Pairwise (λu v=>CY s.heap u<=CY s.heap v):=λl hl=>by
    rcases l with _|⟨x,_|⟨y,l⟩⟩
    ·exact .nil
    ·exact List.pairwise_singleton ..
    ·rw[YT,YT]at hl;lia
   exact one _ l1))
 ·rw[qE h2,qE h2];obtain⟨v₁,v₂,rest,rfl⟩:∃v₁ v₂ rest,vs=v₁::v₂::rest:=by rw[YS]at h2;exact RK (Z3 h2)
  refine qC (PR (λv hv=>(hT6 v hv).i m0) λb=>?_);obtain⟨h6,hh6⟩:∃h6,h6=((s.heap.update a (Obj.mapSeq λ_=>#[])).push (seqObj "tuple" (v₁::v₂::rest).toArray 0)).push (seqObj "list" #[] 0):=⟨_,rfl⟩;rw[<-hh6]at hT6 hl⊢
  have kk:∀v∈v₁::v₂::rest,CY h6 v=CY s.heap v:=λv hv=>by obtain⟨t,vs,ns,rfl,g,i,_⟩:=hT v hv;obtain⟨o,g1,c,d⟩:=id g;have g6:IsTup h6 t vs.toArray:=⟨o,by rw[hh6];exact up t o (λz=>by rw[z,ho]at g1;cases g1;exact qG (Value.type.inj c) (by decide)) g1,c,d⟩;rw[DA g i,DA g6 i]
  have pm:∀x∈(pairsOf (v₁::v₂::rest)).toList,x.1=x.2/\x.2∈v₁::v₂::rest:=λx hx=>by rw[pairsOf_toList]at hx;have z:=mem_zip_self hx;exact⟨z.1,by rw[<-z.1];exact z.2⟩
  refine qC (qM (Mi (s:={s with heap:=h6}) (k:=tuples' b) (a₀:=pairsOf (v₁::v₂::rest)) (κ:=λx=>CY h6 x.1) (st:=SortSt.mk' (tuples' b) (pairsOf (v₁::v₂::rest)) #[] 7 none)
   (Q:=λ_ t=>(arrOf t).toList.Perm (pairsOf (v₁::v₂::rest)).toList/\failedOf t=none/\Cw (λx=>CY h6 x.1) (arrOf t) 0 (pairsOf (v₁::v₂::rest)).size) (Pe λx hx=>by rw[(pm x hx).1];exact hT6 _ (pm x hx).2) ⟨rfl,rfl,rfl,rfl⟩ λys q t X p S=>⟨by rw[X.ar];exact p,X.fl,by rw[X.ar];exact S⟩) ?_ λ_ _ e=>e)
  rintro⟨⟨⟩,t⟩ s' ⟨rfl,hp,hf,hs⟩
  have pl:((arrOf t).map (·.2)).toList.Perm (v₁::v₂::rest):=by have z:=hp.map (·.2);rw[pairsOf_toList,List.map_snd_zip (Xi _)]at z;rw[Array.toList_map];exact z
  have ln:((arrOf t).map (·.2)).size<=sizeLine+1:=by have z:=pl.length_eq;rw[X0]at z;rw[z];exact line
  have so:((arrOf t).map (·.2)).toList.Pairwise (λu v=>CY s.heap u<=CY s.heap v):=by
   rw[Array.toList_map,ZC,List.pairwise_iff_getElem];intro i j hi hj hij;have sz2:(arrOf t).size=(pairsOf (v₁::v₂::rest)).size:=by have z:=hp.length_eq;simpa using z
   have z:=hs i j (Nat.zero_le _) (Nat.le_of_lt hij) (by rw[<-sz2];simpa using hj);rw[An (by simpa using hi),An (by simpa using hj)]at z;have m1:=pm _ (hp.mem_iff.mp (YY hi));have m2:=pm _ (hp.mem_iff.mp (YY hj));rw[<-kk _ m1.2,<-kk _ m2.2,<-m1.1,<-m2.1];simpa using z
  dsimp only;refine qC (seqEpoch_at hl rfl (qC (listUpdate_at hl rfl ?_ (hsz2:=ln))));rw[hf];simp only[bne_self_eq_false,Bool.false_eq_true,if_false];rw[hh6];exact qD (h _ pl so)
theorem Ni{m:Nat}(m0:m≠0)(hl:s.heap.IsList l vs.toArray)(hT:∀v∈vs,JV m s.heap v)(hz:vs.length<=100000)
  (h:∀out:Array qQ,out.toList.Perm vs->out.toList.Pairwise (λu v=>CY s.heap u<=CY s.heap v)->Q (.ref (s.heap.objs.size+1)) {s with heap:=sortedAll s.heap vs out}):wpAny (model prog w) A (call (.builtin "sorted") [.ref l]) Q E s:=by
 refine Calls.call_function_entry kind_sorted plain_sorted entry_sorted (args_sorted1 _) ?_;unfold Builtin.«sorted»;refine qC (m:=checkCount "sorted" 1 1 _) (qD (qC (collect_list hl (qC (wpAny_newList ?_)))));have sz:((s.heap.push (seqObj "list" #[] 0)).update s.heap.objs.size (Obj.mapSeq (·++vs.toArray))).objs.size=s.heap.objs.size+1:=by rw[Heap.size_update,size_push']
 have gL:(((s.heap.push (seqObj "list" #[] 0)).update s.heap.objs.size (Obj.mapSeq (·++vs.toArray))).push (seqObj "list" vs.toArray 0)).get? (s.heap.objs.size+1)=some (seqObj "list" vs.toArray 0):=by rw[<-sz];exact Xs _ rfl
 show wpAny _ _ _ _ _ {s with heap:=((s.heap.push (seqObj "list" #[] 0)).update s.heap.objs.size (Obj.mapSeq (·++vs.toArray))).push (seqObj "list" vs.toArray 0)};rw[sz];refine qC (qO (wpAny_call_entry slot_list_sort ⟨_,gL,rfl⟩ entry_list_sort (KZ m0 gL (λv hv=>(hT v hv).at λt o g _=>?_) hz λout p so=>⟨_,rfl,qD ⟨_,rfl,h out p (so.imp_of_mem λ{u v} hu hv z=>?_)⟩⟩) (args_list_sort _)))
 ·exact Xh _ (by rw[Yr _ _ _ _ (YA (Xm g))];exact Xh _ g)
 ·have kk:∀v∈vs,CY (((s.heap.push (seqObj "list" #[] 0)).update s.heap.objs.size (Obj.mapSeq (·++vs.toArray))).push (seqObj "list" vs.toArray 0)) v=CY s.heap v:=λv hv=>by
   obtain⟨t,vs',ns,rfl,g,i,_⟩:=hT v hv;obtain⟨o,g1,c,d⟩:=id g;rw[DA g i,DA (show IsTup _ t vs'.toArray from⟨o,Xh _ (by rw[Yr _ _ _ _ (YA (Xm g1))];exact Xh _ g1),c,d⟩) i]
  have z:=z;rw[show CY _ u=_ from kk u (p.mem_iff.mp hu),show CY _ v=_ from kk v (p.mem_iff.mp hv)]at z;exact z
end
noncomputable def Tg:qQ->qR
 |.ref t=>t
 |_=>0
theorem Lf:CJ X (.builtin "sorted") (λxs H Q=>∃(a:qR) (ts:List qR) (ws:List (qW)) (n:Nat),xs=[.ref a]/\Af X.K H a (ts.map V.ref)/\n≠0/\ts.length<=100000/\Paired (λt ns=>Aa X.K H t (ns.map V.int)/\ns.length=n/\∀x∈ns,0<=x/\x<1000) ts ws /\
  ∀D (ts':List qR) (ws':List (qW)),H D=none->ts'.Perm ts->ws'.Perm ws->Paired (λt ns=>Aa X.K H t (ns.map V.int)) ts' ws'->ws'.Pairwise (λu v=>BM 1000 u<=BM 1000 v)->Q (.ref D) (AT H D (.lst (ts'.map V.ref)))):=by
 intro a6 s σ H xs us Q I r h;obtain⟨a,ts,ws,n,rfl,ha,n0,l64,ht,q⟩:=h;obtain⟨u,rfl,ru⟩:=E4 r;cases ru;obtain⟨its,rv,pl,hz⟩:=I.list ha;have ln:=rv.length;rw[Xf]at ln
 have its_is:its=ts.map Value.ref:=by
  have go:∀{ts:List qR} {its:List qQ},Aq (ts.map V.ref) its->its=ts.map Value.ref:=by
   intro ts
   induction ts with
   |nil=>intro its h;cases h;rfl
   |cons t ts ih =>
    intro its h;cases h with
    |cons r h =>
     rw[ih h];have r:_=Value.ref t:=r;rw[r];rfl
  exact go rv
 have tup:∀{t:qR} {ns:qW},Aa X.K H t (ns.map V.int)->∃tv,IsTup s.heap t tv.toArray/\IntsAre tv ns:=λst=>by obtain⟨tv,rt,pt,_⟩:=I.tuple st;exact⟨tv,pt,Ch rt⟩
 have each:∀t∈ts,∃ns:qW,Aa X.K H t (ns.map V.int)/\ns.length=n/\∀x∈ns,0<=x/\x<1000:=λt h=>KY ht t h
 refine Ni n0 (vs:=its) pl.isList (λv hv=>?_) (by lia) λout p so=>?_
 ·rw[its_is]at hv;obtain⟨t,h1,rfl⟩:=Xy.mp hv;obtain⟨ns,st,l,b⟩:=each t h1;obtain⟨tv,pt,it⟩:=tup st;exact⟨t,tv,ns,rfl,pt,it,l,b⟩
 ·rw[its_is]at p
  obtain⟨ts',e1,p1⟩:∃ts':List qR,out.toList=ts'.map Value.ref/\ts'.Perm ts:=by
   refine⟨out.toList.map Tg,?_,?_⟩
   ·rw[Za];refine (List.map_id _).symm.trans (YW λv hv=>?_);obtain⟨t,_,rfl⟩:=Xy.mp (p.mem_iff.mp hv);rfl
   ·have z:=p.map Tg;rw[Za]at z;exact z.trans (by rw[show ts.map (Tg∘Value.ref)=ts from (YW λ_ _=>rfl).trans (List.map_id _)])
  obtain⟨ws',p2,hw⟩:∃ws',ws'.Perm ws/\Paired (λt ns=>Aa X.K H t (ns.map V.int)/\ns.length=n/\∀x∈ns,0<=x/\x<1000) ts' ws':=KW p1 ht;obtain⟨e,he⟩:=sortedAll_at s.heap its out
  have vz:Aq (ts'.map V.ref) out.toList:=by
   rw[e1]
   have go:∀ts:List qR,Aq (ts.map V.ref) (ts.map Value.ref):=λts=>by
    induction ts with
    |nil=>exact .nil
    |cons t ts ih=>exact .cons rfl ih
   exact go ts'
  refine⟨.ref (s.heap.objs.size+1),_,I.laid (a:=s.heap.objs.size+1) (o:=.lst (ts'.map V.ref)) (t':=s.toks) (λb o g=>sortedAll_old g) (ZD _) ⟨by rw[Xf,p1.length_eq];rw[Xf]at hz;exact hz,out.toList,e,vz,by rw[Array.toArray_toList];exact he⟩,rfl,q _ ts' ws' (I.hok.fresh (ZD _)) p1 p2 (Paired.mapP hw λ_ _ z=>z.1) ?_⟩;rw[e1,ZC]at so
  have go:∀{ts:List qR} {ws:List (qW)},Paired (λt ns=>Aa X.K H t (ns.map V.int)/\ns.length=n/\∀x∈ns,0<=x/\x<1000) ts ws->ts.Pairwise (λa b=>CY s.heap (.ref a)<=CY s.heap (.ref b))->ws.Pairwise (λu v=>BM 1000 u<=BM 1000 v):=by
   intro ts ws h1
   induction h1 with
   |nil=>intro _;exact .nil
   |cons r t ih =>
    intro h2;obtain⟨h3,h4⟩:=ZV.mp h2;refine ZV.mpr ⟨λw hw=>?_,ih h4⟩;obtain⟨b,hb,st,_⟩:=KU t w hw;have z:=h3 b hb;obtain⟨tv,pt,it⟩:=tup r.1;obtain⟨tv2,pt2,it2⟩:=tup st;rw[DA pt it,DA pt2 it2]at z;exact z
  exact go hw so
theorem Ka{K:qV}(h:X.K=K):CJ X (.builtin "sorted") (λxs H Q=>∃(a:qR) (ts:List qR) (ws:List (qW)) (n:Nat),xs=[.ref a]/\Af K H a (ts.map V.ref)/\n≠0/\ts.length<=100000/\Paired (λt ns=>Aa K H t (ns.map V.int)/\ns.length=n/\∀x∈ns,0<=x/\x<1000) ts ws /\
  ∀D (ts':List qR) (ws':List (qW)),H D=none->ts'.Perm ts->ws'.Perm ws->Paired (λt ns=>Aa K H t (ns.map V.int)) ts' ws'->ws'.Pairwise (λu v=>BM 1000 u<=BM 1000 v)->Q (.ref D) (AT H D (.lst (ts'.map V.ref)))):=h▸Lf
theorem Ic{g:Int}(hg:2<=g){m:Nat}(hl:(a7.length:Int)=g^m)(m1:1<=m):a7.length=a7.length/g.toNat*g.toNat:=by
 have z:a7.length%g.toNat=0:=by
  have e:g^m=g^(m-1)*g:=by rw[<-YH];congr 1;lia
  have:((a7.length%g.toNat:Nat):Int)=0:=by rw[YO,hl,e,YN (by lia)];exact Int.mul_emod_left ..
  lia
 have:=Y6 a7.length g.toNat;rw[z,Zn,ZP]at this;exact this.symm
structure N0(h:Nat)(S:qX->qX->Prop)(M:List (qX))(f:qX->Nat):Prop where
 nd:M.Nodup
 sub:∀p∈M,p∈Ax h
 low:∀p∈M,∀q,S q p->q∈M/\f q<f p
 top:∀p∈M,f p=0\/∃q,S q p/\q∈M/\f p=f q+1
 rest:∀p∈Ax h,p∉M->∃q,S q p/\q∈Ax h/\q∉M
 few:∀p∈M,f p<=100
theorem EC{h:Nat}(h9:h<=9):(Ax h).length<=100:=by have a:=FN h h;have b:=Yo h9 h9;unfold Ax;rw[YT];lia
variable{S:qX->qX->Prop}
theorem Md.rk{h:Nat}(h9:h<=9){A:List (qX)}(hA:∀p,p∈A↔p∈Ax h)(nA:A.Nodup)(hB:∀p∈Ax h,∀q,q∈B p↔S q p)(hS:∀p q,S q p->q∈Ax h)(m:Md A B M f):N0 h S M f where
 nd:=m.nd
 sub:=λp hp=>(hA p).mp (m.sub p hp)
 low:=λp hp q hq=>m.low p hp q ((hB p ((hA p).mp (m.sub p hp)) q).mpr hq)
 top:=λp hp=>(m.top p hp).imp id λ⟨q,h1,h2,h3⟩=>⟨q,(hB p ((hA p).mp (m.sub p hp)) q).mp h1,h2,h3⟩
 rest:=λp hp np=>by obtain⟨q,h1,h2⟩:=m.rest p ((hA p).mpr hp) np;have z:=(hB p hp q).mp h1;exact⟨q,z,hS p q z,h2⟩
 few:=λp hp=>by
  have a:=m.few p hp;have b:=nA.length_le_of_subset λq hq=>(hA q).mp hq
  have:=EC h9;lia
theorem N0.all{h:Nat}(m:N0 h S M f){rk:qX->Nat}(hr:∀p q,S p q->rk p<rk q):∀p∈Ax h,p∈M:=by
 suffices ∀(n:Nat) (p:qX),p∈Ax h->rk p<=n->p∈M from λp hp=>this _ p hp (Xi _)
 intro n
 induction n with
 |zero =>
  intro p hp hn
  by_cases z:p∈M
  ·exact z
  ·obtain⟨q,hq,_⟩:=m.rest p hp z;have:=hr q p hq;lia
 |succ n ih =>
  intro p hp hn
  by_cases z:p∈M
  ·exact z
  ·obtain⟨q,hq,qa,nq⟩:=m.rest p hp z;have:=hr q p hq;exact qG (ih q qa (by lia)) nq
theorem Mj{h:Nat}(hl:a7.length=h*G):q∈GJ G h (EY a7) p↔LW G h a7 p q:=by
 unfold GJ LW;rw[Xy];constructor
 ·intro hRq;refine byG λGq hGq=>?_;obtain⟨⟨a,b⟩,hx,rfl⟩:=hRq;refine hGq ?_;clear hGq Gq;obtain⟨h1,h2⟩:=YB.mp hx;refine byG λGq hGq=>?_;obtain⟨ha,hb,ne,e⟩:=HM.mp h1;refine hGq ?_;clear hGq Gq;exact⟨a,b,by lia,by lia,ne,e,(qN h2).symm,rfl⟩
 ·intro hRq;refine byG λGq hGq=>?_;obtain⟨a,b,ha,hb,ne,e,h1,h2⟩:=hRq;refine hGq ?_;clear hGq Gq;exact⟨(a,b),YB.mpr ⟨HM.mpr ⟨by lia,by lia,ne,e⟩,qH h1.symm⟩,h2.symm⟩
theorem FT{h:Nat}(h0:0<h)(s:LW G h a7 p q):p∈Ax h/\q∈Ax h:=by
 refine byG λGq hGq=>?_;obtain⟨a,b,ha,hb,ne,e,h1,h2⟩:=s;refine hGq ?_;clear hGq Gq;have c:∀{x:Nat},x<h*G->x/G<h:=λ{x} hx=>Yc (by rw[ZP];exact hx)
 rw[h1,h2];exact⟨JO (c ha) (c hb),JO (Yn _ h0) (Yn _ h0)⟩
theorem Lg[DecidableEq α]{M A:List α}(nM:M.Nodup)(sub:∀p∈M,p∈A)(le:A.length<=M.length):∀p∈A,p∈M:=λp hp=>by
 by_cases z:p∈M
 ·exact z
 ·have:=(Yd.mpr ⟨z,nM⟩).length_le_of_subset (l₂:=A) λx hx=>(X3.mp hx).elim (λe=>by rw[e];exact hp) (sub x)
  rw[YT]at this;lia
theorem DQ(nd:M.Nodup)(hp:p∈M):BN (Ae M (M.map λp=>V.int (f p:Int))) (A8 p)=some (.int (f p:Int)):=by obtain⟨i,hi⟩:=YC.mp hp;exact Bn nd hi (by rw[Xl,hi];rfl)
theorem Kb{i:Nat}{k:List BQ}{v:V}(h:(Ae M (M.map λp=>V.int (f p:Int)))[i]?=some (k,v)):∃a,M[i]?=some a/\k=A8 a/\v=.int (f a:Int):=by
 unfold Ae at h;rw[Z1,Xl]at h;cases ha:M[i]? with
 |none=>rw[ha]at h;simp at h
 |some a =>
  rw[ha]at h;simp at h;exact⟨a,rfl,h.1.symm,h.2.symm⟩
theorem Eu{K:qV}{ns:qW}(h:Aa K H a (ns.map V.int)):EU K H (.ref a) (.tuple (ns.map PyData.int)):=.tup h (Jx ns)
inductive HU(P:qT)(w:qU)(K:qV)(vs:List V)(H:Hp)(Q:VK)(z3_:XK):Prop
 |m (r:qR) (g lo:Int) (a7:qW) (m:Nat):vs=[.ref r]->Av H r g lo a7 m->g^(m-1)<=9->(∀d H' M f,AG H H'->H d=none->DW P w K H' d (Ae M (M.map λp=>V.int (f p:Int)))->N0 (a7.length/g.toNat) (LW g.toNat (a7.length/g.toNat) a7) M f->Q (.ref d) H')->HU P w K vs H Q z3_
end L2
namespace L2
open PySem PySem.Spec PyProof.Rows
variable{E:qQ->qS->Prop}{H H' H1 H2:Hp}{X:Cx}{a:qR}{an od:Option qR}{ae doc oc:qQ}{cl:List (Str×qR)}{name qual x:Str}{o:Obj}{osl:Array (Option qQ)}{params:Arguments}{pos:Pos}{ps:List Str}{scope:Scope}{sp:Sp}{st:Stmt}{vs:List qQ}{α β:Type}
def HV(mg:Str->Option qQ)(h:Heap):Prop:=∃bm ob,mg "__builtins__"=some (.ref bm)/\bm≠builtinsNs/\h.get? bm=some ob/\ob.cls=.type "module"/\ob.dict=some builtinsNs/\ob.data=.plain
def SM(ts:List qR)(H:Hp):Prop:=(∀b,H b=none\/(∃o xs,H b=some (.frz o (.lst xs)))\/(b∈ts/\H b=some (.tbl #[])))/\∀b∈ts,H b=some (.tbl #[])
def Pg(K:qV)(cts:List (qR×qR)):Prop:=∀q∈cts,PySem.W.codeHdIn K q.1 q.2=true/\K.lookup q.2=none
theorem Nj{P:qT}{w:qU}{K:qV}{mg mb:Str->Option qQ}{CX:QJ}{k:Nat}{fa:qR}{fd:FuncData}{sp:Sp}{s₁:qS}{ns:qW}{cts:List (qR×qR)}
  (KX:K.In s₁.heap) (hns:s₁.heap.Ns mainGlobals mg) (hb:s₁.heap.Ns builtinsNs mb) (hbb:∀x:Str,x≠"__name__"->mb x=bootBuiltins x) (hlim:s₁.heap.NoLimit) (hbm:HV mg s₁.heap) (hg:s₁.gens=#[])
  (hT:Pg K cts) (hT2:∀q∈cts,s₁.heap.get? q.2=some (PySem.W.tabObj #[]))
  (ha:s₁.heap.get? a=some {cls:=.type "list",data:=.seq vs.toArray}) (hi:IntsAre vs ns) (hl:ns.length<=sizeLine) (hr:Bg k callerA)
  (F:∀base:Heap,K.In base->base.Ns mainGlobals mg->HV mg base->Fc P w K mg base CX k fa fd [x] sp) (hbind:∀(s:qS) (u:qQ),BindsTo s fd ⟨[u],[]⟩ [(x,u)])
  (hsp:∀H:Hp,SM (cts.map (·.2)) H->Af K H a (ns.map V.int)->sp [.ref a] H (λv _=>v=.bl true) λ_ _ _=>False)
  (hCX:∀H e s',CX [] H s₁ (λ_ _ _=>False) e s'->False):
  codeAny (model P w) callerA (.call (.ref fa) ⟨[.ref a],[]⟩) (λr s'=>r=.ok (.ret (.bool true))/\OldK s₁.heap s'.heap/\s'.os=s₁.os/\AllBare s'.gens) s₁:=by
 have rv:=IP hi;have lenV:=hi.length
 have atT:∀b∈cts.map (·.2),s₁.heap.get? b=some (PySem.W.tabObj #[])/\K.lookup b=none/\isCodeTable s₁.heap b:=λb hb=>by obtain⟨q,hq,rfl⟩:=Xy.mp hb;exact⟨hT2 q hq,(hT q hq).2,((PySem.W.codeHd_of_K KX (hT q hq).1).tab (hT2 q hq)).isCodeTable⟩
 have aT:a∉cts.map (·.2):=λz=>by have e:=(atT a z).1;rw[ha]at e;cases e
 have core:∀H:Hp,SM (cts.map (·.2)) H->Af K H a (ns.map V.int)->Dk P w H s₁.heap->(∀b,H b≠none->b=a\/b∈cts.map (·.2))->(H a≠none->K.lookup a=none) ->
   codeAny (model P w) callerA (.call (.ref fa) ⟨[.ref a],[]⟩) (λr s'=>r=.ok (.ret (.bool true))/\OldK s₁.heap s'.heap/\s'.os=s₁.os/\AllBare s'.gens) s₁:=by
  intro H hO hS hok hA hK;have base_of:∀{b:qR} {o:Obj},s₁.heap.get? b=some o->H b=none->(IA s₁.heap H).get? b=some o:=λe n=>N4 e n
  have noA:∀{b:qR} {o:Obj},s₁.heap.get? b=some o->(∀xs n,o.data≠.seq xs n)->(∀xs,o.data≠.fields xs)->H b=none:=λ{b o} e d d2=>by
   cases q:H b with
   |none=>rfl
   |some u =>
    rcases hA b (by rw[q];simp) with e'|e'
    ·subst e';rw[ha]at e;cases e;exact (d _ _ rfl).elim
    ·rw[(atT b e').1]at e;cases e;exact (d2 _ rfl).elim
  have nsK:∀{b:qR} {m:Str->Option qQ},s₁.heap.Ns b m->(IA s₁.heap H).Ns b m:=λ{b m} ⟨o,es,ep,e,d,r⟩=>⟨o,es,ep,base_of e (noA e (λ_ _ z=>by rw[d]at z;cases z) (λ_ z=>by rw[d]at z;cases z)),d,r⟩
  have hKb:K.In (IA s₁.heap H):=λb o e=>base_of (KX b o e) (by
   cases q:H b with
   |none=>rfl
   |some u =>
    rcases hA b (by rw[q];simp) with e'|e'
    ·subst e';rw[hK (by rw[q];simp)]at e;cases e
    ·rw[(atT b e').2.1]at e;cases e)
  have hM:WU K mg (IA s₁.heap H):=⟨hKb,nsK hns,⟨mb,nsK hb,hbb⟩,let ⟨mc,h1,h2⟩:=hlim;⟨mc,nsK h1,h2⟩⟩
  have hB:HV mg (IA s₁.heap H):=by refine byG λGq hGq=>?_;obtain⟨bm,ob,b1,b2,b3,b4,b5,b6⟩:=hbm;refine hGq ?_;clear hGq Gq;exact⟨bm,ob,b1,b2,base_of b3 (noA b3 (λ_ _ z=>by rw[b6]at z;cases z) (λ_ z=>by rw[b6]at z;cases z)),b4,b5,b6⟩
  have e0:OG P w K mg (IA s₁.heap H) callerA [] s₁ H:=⟨rfl,hM,λb o e=>QS e,Nat.le_of_eq (M9 _ _),trivial,λb hb=>qG (show b∈([]:List qR) from hb) (by simp),hok,.of_eq hg⟩;refine codeAny_mono ((F _ hKb (nsK hns) hB).run callerA [] s₁ H ⟨[.ref a],[]⟩ [.ref a] [.ref a] _ _ hr e0 (hbind s₁ (.ref a)) (.cons rfl .nil) (hsp H hO hS)) λr s' h=>?_;cases r with
  |error e=>exact (hCX H e s' h).elim
  |ok fl =>
   cases fl with
   |next=>exact False.elim h
   |brk=>exact False.elim h
   |cont=>exact False.elim h
   |ret u =>
    refine byG λGq hGq=>?_;obtain⟨v,H',os,bare,un,hok',r',q⟩:=h;refine hGq ?_;clear hGq Gq;have q':v=.bl true:=q;subst q';obtain rfl:u=Value.bool true:=r'
    have keep:∀b o,s₁.heap.get? b=some o->b∉cts.map (·.2)->s'.heap.get? b=some o:=λb o e nb=>by
     cases q:H b with
     |none=>exact un.keep b o e q (by intro z;exact qG (show b∈([]:List qR) from z) (by simp)) (by simp)
     |some u =>
      rcases hO.1 b with z|⟨ob,xs,z⟩|⟨z,_⟩
      ·rw[q]at z;cases z
      ·have z2:=un.frzs b ob _ z;obtain⟨e1,_⟩:=hok b _ z;obtain⟨e2,_⟩:=hok' b _ z2;rw[e]at e1;cases e1;exact e2
      ·exact qG z nb
    have tabs:∀b∈cts.map (·.2),∃more,s'.heap.get? b=some {cls:=.none,data:=.fields ((#[]:Array qQ)++more)}:=λb hb=>by obtain⟨more,z⟩:=un.tbls b #[] (hO.2 b hb);exact⟨more,hok' b _ z⟩
    refine⟨rfl,⟨λb o e=>?_,λb o e=>?_⟩,os,bare⟩
    ·by_cases hb:b∈cts.map (·.2)
     ·obtain⟨more,z⟩:=tabs b hb;have e1:=(atT b hb).1;rw[e]at e1;cases e1;exact .inr (.inl ⟨(atT b hb).2.2,rfl,#[],more,rfl,z⟩)
     ·exact .inl (keep b o e hb)
    ·by_cases hb:b∈cts.map (·.2)
     ·obtain⟨more,z⟩:=tabs b hb;exact⟨_,z⟩
     ·exact⟨o,keep b o e hb⟩
 cases hk:K.lookup a with
 |some o =>
  have e:=KX a o hk;rw[ha]at e;cases e;refine core (λb=>if b∈cts.map (·.2) then some (.tbl #[]) else none) ⟨λb=>?_,λb hb=>qF hb⟩ (.inr ⟨_,vs.toArray,_,hk,rfl,rfl,rfl,by rw[List.size_toArray,lenV];exact hl,by simpa using rv⟩) (λb u z=>?_) (λb z=>?_) λz=>qG (qE aT) z
  ·by_cases hb:b∈cts.map (·.2)
   ·exact .inr (.inr ⟨hb,qF hb⟩)
   ·exact .inl (qE hb)
  ·by_cases hb:b∈cts.map (·.2)
   ·have z':=(qF hb).symm.trans z;cases z';exact (atT b hb).1
   ·have z':=(qE hb).symm.trans z;cases z'
  ·by_cases hb:b∈cts.map (·.2)
   ·exact .inr hb
   ·exact qG (qE hb) z
 |none =>
  have at1:∀b,b∉cts.map (·.2)->b=a->(if b∈cts.map (·.2) then some (HO.tbl #[]) else if b=a then some (.frz {cls:=.type "list",data:=.seq vs.toArray} (.lst (ns.map V.int))) else none)=some (.frz {cls:=.type "list",data:=.seq vs.toArray} (.lst (ns.map V.int))):=λb h1 h2=>by rw[qE h1,qF h2]
  have at2:∀b,b∉cts.map (·.2)->b≠a->(if b∈cts.map (·.2) then some (HO.tbl #[]) else if b=a then some (.frz {cls:=.type "list",data:=.seq vs.toArray} (.lst (ns.map V.int))) else none)=none:=λb h1 h2=>by rw[qE h1,qE h2]
  refine core (λb=>if b∈cts.map (·.2) then some (.tbl #[]) else if b=a then some (.frz {cls:=.type "list",data:=.seq vs.toArray} (.lst (ns.map V.int))) else none) ⟨λb=>?_,λb hb=>qF hb⟩ (.inl (.inr ⟨{cls:=.type "list",data:=.seq vs.toArray},at1 a aT rfl⟩)) (λb u z=>?_) (λb z=>?_) λ_=>hk
  ·by_cases hb:b∈cts.map (·.2)
   ·exact .inr (.inr ⟨hb,qF hb⟩)
   ·by_cases hba:b=a
    ·exact .inr (.inl ⟨_,_,at1 b hb hba⟩)
    ·exact .inl (at2 b hb hba)
  ·by_cases hb:b∈cts.map (·.2)
   ·have z':=(qF hb).symm.trans z;cases z';exact (atT b hb).1
   ·by_cases hba:b=a
    ·have z':=(at1 b hb hba).symm.trans z;cases z';subst hba;exact⟨ha,by rw[Xf];exact hl,vs,_,rv,ha⟩
    ·have z':=(at2 b hb hba).symm.trans z;cases z'
  ·by_cases hb:b∈cts.map (·.2)
   ·exact .inr hb
   ·by_cases hba:b=a
    ·exact .inl hba
    ·exact qG (at2 b hb hba) z
abbrev Ci:HO:=.ext λ_=>True
theorem Hg{P:qT}{w:qU}{h:Heap}(e:h.get? a=some o):Ag P w H h a (.frz o Ci):=⟨e,trivial,⟨o,e⟩,λ_ _ _ _=>trivial⟩
def Ph(oc:Obj)(q:Str):Prop:=∃vs t,oc.data=.fields vs/\vs[1]?=some (.str q t)
def Cb(pos:Pos)(q:Str)(P:qR)(H:Hp):Prop:=∃ps:Array qQ,H P=some (.tbl ps)/\TriplesOk ps.toList /\
 ∀cv,codeAmong pos ps.toList=some cv->∃c' oc,cv=.ref c'/\H c'=some (.frz oc Ci)/\Ph oc q
theorem Cb.same{q:Str}{P:qR}(t:Cb pos q P H)(e:AG H H'):Cb pos q P H':=by obtain⟨ps,h1,h2,h3⟩:=t;refine⟨ps,e _ _ h1,h2,λcv hc=>?_⟩;obtain⟨c',oc,h4,h5,h6⟩:=h3 cv hc;exact⟨c',oc,h4,e _ _ h5,h6⟩
theorem Cb.start{q:Str}{P:qR}(h:H P=some (.tbl #[])):Cb pos q P H:=⟨#[],h,trivial,λ_ z=>by cases z⟩
def DB(P:qR)(H H':Hp):Prop:=∀b o,b≠P->H b=some o->H' b=some o
theorem AG.t{P:qR}(e:AG H H'):DB P H H':=λb o _ h=>e b o h
theorem DB.trans{P:qR}(a:DB P H H1)(b:DB P H1 H2):DB P H H2:=λc o n h=>b c o n (a c o n h)
abbrev RM(q:Str)(params:Arguments)(body:Expr)(scope:Scope)(clos:List (Str×qR))(pm:qQ)(c':qR)(ctv:qQ):Obj:=PySem.W.kla_obj "<lambda>" q params body scope clos pm c' ctv
def SN(q:Str)(params:Arguments)(body:Expr)(scope:Scope)(clos:List (Str×qR))(f:qR)(H:Hp):Prop:=
 ∃pm c' ctv oc,H f=some (.frz (RM q params body scope clos pm c' ctv) Ci)/\H c'=some (.frz oc Ci)/\Ph oc q
def Ww(P:qR)(pos:Pos)(q:Str)(params:Arguments)(body:Expr)(scope:Scope)(clos:List (Str×qR)):TE:=λ_ H Q=>Cb pos q P H /\
 ∀f H',DB P H H'->Cb pos q P H'->H f=none->SN q params body scope clos f H'->Q (.ref f) H'
theorem Th{c P:qR}{body:Expr}{clos:List (Str×qR)}(hB:HV X.mg X.base)(hcode:X.env.code=.ref c)(hc:PySem.W.codeHdIn X.K c P=true)
  (hcl:closureFor scope X.env=pure clos) (hdef:defaultsOf params X.env=([],[])):PE X (.Lambda params body scope pos) (Ww P pos (X.env.qual++"<lambda>") params body scope clos):=by
 intro a6 s σ H Q I h;refine byG λGq hGq=>?_;obtain⟨⟨ps,hP,ht,hh⟩,hq⟩:=h;refine hGq ?_;clear hGq Gq;refine PySem.W.kla_eval hdef ?_;have hPh:s.heap.get? P=some (PySem.W.tabObj ps):=I.hok P _ hP;have hPl:P<s.heap.objs.size:=Xm hPh;have C:PySem.W.CodeHd s.heap c P:=PySem.W.codeHd_of_K I.kIn hc;have hgs:s.heap.Ns mainGlobals X.mg:=I.ok.mod.glob.keeps I.bk;refine byG λGq hGq=>?_;obtain⟨bm,ob,b1,b2,b3,b4,b5,b6⟩:=hB;refine hGq ?_;clear hGq Gq;have b3':=I.bk _ _ b3
 have hgP:mainGlobals≠P:=λq=>by refine byG λGq hGq=>?_;obtain⟨o,es,ep,e,hd,_⟩:=hgs;refine hGq ?_;clear hGq Gq;rw[q,hPh]at e;cases e;cases hd
 have hbP:bm≠P:=λq=>by rw[q,hPh]at b3';cases b3';cases b4
 have hbG:bm≠mainGlobals:=λq=>by refine byG λGq hGq=>?_;obtain⟨o,es,ep,e,hd,_⟩:=hgs;refine hGq ?_;clear hGq Gq;rw[q,e]at b3';cases b3';rw[hd]at b6;cases b6
 have BA:s.heap.BuiltinsAt X.mg P:=⟨bm,ob,b1,b2,hbG,hbP,b3',b4,b5,b6⟩;have nP:∀b,H b=none->b≠P:=λb e z=>by rw[z,hP]at e;cases e
 have fresh:∀b,s.heap.objs.size<=b->H b=none:=λb hb=>I.hok.fresh hb
 cases hca:codeAmong pos ps.toList with
 |none =>
  refine PySem.W.kla_makeFunction (mg:=X.mg) hcl I.ok.glob hgs hcode C hPh ht hca hgP BA λc' ctv h' tk hx hge hlt hrec htb=>?_;refine byG λGq hGq=>?_;obtain⟨c₂,oc,vs,t,e2,hoc,hd,hv⟩:=hrec;refine hGq ?_;clear hGq Gq;cases e2;have hsz:s.heap.objs.size<=h'.objs.size:=YG hge (Y9 hlt);obtain⟨f,hf⟩:∃f,f=h'.objs.size:=⟨_,rfl⟩;obtain⟨fo,hfo⟩:∃fo,fo=RM (X.env.qual++"<lambda>") params body scope clos ((X.mg "__name__").getD .none) c' ctv:=⟨_,rfl⟩;obtain⟨H',hH'⟩:∃H',H'=AT (AT (AT H P (.tbl (ps++#[rawInt pos.line,rawInt pos.col,.ref c']))) c' (.frz oc Ci)) f (.frz fo Ci):=⟨_,rfl⟩;have cf:c'≠f:=λz=>by rw[z,hf]at hlt;exact qG hlt (X8 _)
  have Pc:P≠c':=λz=>qG (Xn hPl hge) (by rw[<-z];exact X8 _)
  have Pf:P≠f:=λz=>qG (Xn hPl hsz) (by rw[<-hf,<-z];exact X8 _)
  have nf:H f=none:=fresh f (by rw[hf];exact hsz);have nc:H c'=none:=fresh c' hge;have oth:∀b,b≠P->b≠c'->b≠f->H' b=H b:=λb h1 h2 h3=>by rw[hH',AJ h3,AJ h2,AJ h1]
  have atP:H' P=some (.tbl (ps++#[rawInt pos.line,rawInt pos.col,.ref c'])):=by rw[hH',AJ Pf,AJ Pc];exact AE
  have atc:H' c'=some (.frz oc Ci):=by rw[hH',AJ cf];exact AE
  have atf:H' f=some (.frz fo Ci):=by rw[hH'];exact AE
  have keep:∀b o,b≠P->s.heap.get? b=some o->(h'.push fo).get? b=some o:=λb o hb e=>Xh _ (hx b o hb e)
  have trk:∀b u,H b=some u->b≠c'/\b≠f:=λb u e=>⟨λz=>(by rw[z,nc]at e;cases e),λz=>(by rw[z,nf]at e;cases e)⟩
  have sm:DB P H H':=λb o hb e=>by rw[oth b hb (trk b o e).1 (trk b o e).2];exact e
  have un:Un (Dq X.stack) [] H H' s.heap (h'.push fo):=by
   refine⟨λb o e n _ _=>keep b o (nP b n) e,λb o e n _ _=>⟨o.slots,keep b o (nP b n) e⟩,λb o e n _=>?_,λb o e _=>?_,λb xs e=>?_,λb o u e=>?_,λb qs e=>?_⟩
   ·have hl:=Xm e;rw[oth b (nP b n) (λz=>qG (Xn hl hge) (by rw[z];exact X8 _)) (λz=>qG (Xn hl hsz) (by rw[z,hf];exact X8 _))];exact n
   ·by_cases hb:b=P
    ·rw[hb];exact⟨_,Xh _ htb⟩
    ·exact⟨o,keep b o hb e⟩
   ·exact sm b _ (λz=>by rw[z,hP]at e;cases e) e
   ·exact sm b _ (λz=>by rw[z,hP]at e;cases e) e
   ·by_cases hb:b=P
    ·subst hb;rw[hP]at e;cases e;exact⟨_,atP⟩
    ·exact⟨#[],by rw[Array.append_empty];exact sm b _ hb e⟩
  have hok:Dk X.prog X.w H' (h'.push fo):=λb u e=>by
   by_cases hbf:b=f
   ·subst hbf;rw[atf]at e;cases e;exact Hg (by rw[hf];exact Xs _ (by rw[hfo];rfl))
   ·by_cases hbc:b=c'
    ·subst hbc;rw[atc]at e;cases e;exact Hg (Xh _ hoc)
    ·by_cases hb:b=P
     ·subst hb;rw[atP]at e;cases e;exact Xh _ htb
     ·rw[oth b hb hbc hbf]at e;refine (I.hok b u e).stay (λd o hd q=>keep d o ?_ q) (λd q=>?_) λd xs q=>?_
      ·rcases hd with z|z
       ·rw[z];exact hb
       ·intro y;rw[y,hP]at z;cases z
      ·exact sm d _ (λy=>by rw[y,hP]at q;cases q) q
      ·exact sm d _ (λy=>by rw[y,hP]at q;cases q) q
  have I':AR X a6 σ H' {s with heap:=h'.push fo,toks:=tk}:=I.call (g':=s.gens) (d':=s.drawn) (ch:=[]) un hok I.bare (λb z=>qG z (by simp));refine⟨.ref f,H',?_,by rw[hf];rfl,hq f H' sm ⟨_,atP,?_,λcv hcv=>?_⟩ nf ⟨(X.mg "__name__").getD .none,c',ctv,oc,by rw[atf,hfo],atc,vs,t,hd,hv⟩⟩
  ·subst hfo;exact I'
  ·rw[YE];exact TriplesOk_snoc _ _ _ _ ht
  ·rw[YE]at hcv;have e:=codeAmong_snoc (c:=.ref c') ps.toList ht hca;have hcv':codeAmong pos (ps.toList++[rawInt pos.line,rawInt pos.col,.ref c'])=some cv:=hcv;rw[e]at hcv';cases hcv';exact⟨c',oc,rfl,atc,vs,t,hd,hv⟩
 |some cv =>
  refine byG λGq hGq=>?_;obtain⟨c',oc,rfl,hc',co⟩:=hh cv hca;refine hGq ?_;clear hGq Gq;refine PySem.W.kla_makeFunctionHit (mg:=X.mg) hcl I.ok.glob hgs hcode C hPh ht hca BA λctv h' tk hk hsz=>?_;obtain⟨f,hf⟩:∃f,f=h'.objs.size:=⟨_,rfl⟩;obtain⟨fo,hfo⟩:∃fo,fo=RM (X.env.qual++"<lambda>") params body scope clos ((X.mg "__name__").getD .none) c' ctv:=⟨_,rfl⟩;have nf:H f=none:=fresh f (by rw[hf];exact hsz);have keep:∀b o,s.heap.get? b=some o->(h'.push fo).get? b=some o:=λb o e=>Xh _ (hk b o e)
  have sm:AG H (AT H f (.frz fo Ci)):=AG.new nf _;have hok:Dk X.prog X.w (AT H f (.frz fo Ci)) (h'.push fo):=I.hok.laid keep (by rw[hf];exact hsz) (Hg (by rw[hf];exact Xs _ (by rw[hfo];rfl)))
  have un:Un (Dq X.stack) [] H (AT H f (.frz fo Ci)) s.heap (h'.push fo):=by refine⟨λb o e n _ _=>keep b o e,λb o e n _ _=>⟨o.slots,keep b o e⟩,λb o e n _=>?_,λb o e _=>⟨o,keep b o e⟩,λb xs e=>sm _ _ e,λb o u e=>sm _ _ e,λb qs e=>⟨#[],by rw[Array.append_empty];exact sm _ _ e⟩⟩;rw[AJ (λz=>qG (Xn (Xm e) hsz) (by rw[z,hf];exact X8 _))];exact n
  have I':AR X a6 σ (AT H f (.frz fo Ci)) {s with heap:=h'.push fo,toks:=tk}:=I.call (g':=s.gens) (d':=s.drawn) (ch:=[]) un hok I.bare (λb z=>qG z (by simp));refine⟨.ref f,AT H f (.frz fo Ci),?_,by rw[hf];rfl,hq f _ sm.t (Cb.same ⟨ps,hP,ht,hh⟩ sm) nf ⟨(X.mg "__name__").getD .none,c',ctv,oc,by rw[AE,hfo],sm _ _ hc',co⟩⟩;subst hfo;exact I'
abbrev BU(cl:List (Str×qR)):List qR:=cl.map (·.2)
noncomputable def Ie(cl:List (Str×qR))(H:Hp):Hp:=λb=>if b∈BU cl then none else H b
noncomputable def VM(cl:List (Str×qR))(H H':Hp):Hp:=λb=>if b∈BU cl then H b else H' b
def DH(cl:List (Str×qR))(vs:List V)(H:Hp):Prop:=Paired (λ(p:Str×qR) (v:V)=>∃u o,A4 v u/\o.data=.cell (some u)/\H p.2=some (.frz o Ci)) cl vs
theorem Bo{b:qR}(h:b∉BU cl):Ie cl H b=H b:=qE h
theorem Hh{b:qR}(h:b∈BU cl):Ie cl H b=none:=qF h
theorem DC{b:qR}(h:b∉BU cl):VM cl H H' b=H' b:=qE h
theorem Lh{b:qR}(h:b∈BU cl):VM cl H H' b=H b:=qF h
theorem Paired.left{F:α->β->Prop}{l₁:List α}{l₂:List β}(p:Paired F l₁ l₂):∀a∈l₁,∃b,F a b:=by
 induction p with
 |nil=>intro _ h;cases h
 |cons r _ ih =>
  intro a h;rcases X3.mp h with rfl|h
  ·exact⟨_,r⟩
  ·exact ih a h
theorem Paired.at{F:α->β->Prop}{l₁:List α}{l₂:List β}(p:Paired F l₁ l₂):∀{i:Nat} {b:β},l₂[i]?=some b->∃a,l₁[i]?=some a/\F a b:=by
 induction p with
 |nil=>intro _ _ h;cases h
 |cons r _ ih =>
  intro i b h;cases i with
  |zero=>cases h;exact⟨_,rfl,r⟩
  |succ i=>exact ih h
theorem Paired.lens{F:α->β->Prop}{l₁:List α}{l₂:List β}(p:Paired F l₁ l₂):l₁.length=l₂.length:=by
 induction p with
 |nil=>rfl
 |cons _ _ ih=>exact qP Nat.succ ih
section
variable{vs:List V}
theorem DH.at(c:DH cl vs H){b:qR}(h:b∈BU cl):∃u o,o.data=.cell (some u)/\H b=some (.frz o Ci):=by obtain⟨p,hp,rfl⟩:=Xy.mp h;obtain⟨v,u,o,_,h1,h2⟩:=Paired.left c p hp;exact⟨u,o,h1,h2⟩
theorem DH.out(c:DH cl vs H){b:qR}{u:HO}(h:H b=some u)(n:∀o,u≠.frz o Ci):b∉BU cl:=λz=>by obtain⟨_,o,_,e⟩:=c.at z;rw[h]at e;exact n o (Option.some.inj e)
theorem Pi(h0:∀b∈BU cl,H b=none)(e:AG H H'):AG H (Ie cl H'):=λb o q=>by rw[Bo (λz=>by rw[h0 b z]at q;cases q)];exact e b o q
theorem Ct{b:qR}(h:H b=none):Ie cl H b=none:=by
 unfold Ie;split
 ·rfl
 ·exact h
theorem Pj(e:AG (Ie cl H) H'):AG H (VM cl H H'):=λb o q=>by
 by_cases hb:b∈BU cl
 ·rw[Lh hb];exact q
 ·rw[DC hb];exact e b o (by rw[Bo hb];exact q)
theorem Dk.unC{P:qT}{w:qU}{h:Heap}(x:Dk P w H h)(n:∀b∈BU cl,∀u,H b=some u->∃o,u=.frz o Ci):Dk P w (Ie cl H) h:=λb u e=>by
 have hb:b∉BU cl:=λz=>by rw[Hh z]at e;cases e
 rw[Bo hb]at e;refine (x b u e).stay (λ_ _ _ q=>q) (λc q=>?_) λc xs q=>?_
 ·rw[Bo (λz=>by obtain⟨o,y⟩:=n c z _ q;cases y)];exact q
 ·rw[Bo (λz=>by obtain⟨o,y⟩:=n c z _ q;cases y)];exact q
end
def At(σ:St)(is:List Nat)(vs:List V):Prop:=Paired (λ(i:Nat) (v:V)=>σ[i]?=some (some v)) is vs
theorem DI(cl:List (Str×qR)):∀(names:List (Str×NameKind)) (n:Nat) (ad:List (Str×qR)),cellsFrom n names (ad++cl)=cellsFrom n names ad++cl
 |[],_,_=>rfl
 | (name,kind)::r,n,ad=>by
  unfold cellsFrom;split
  ·exact DI cl r (n+1) ((name,n)::ad)
  ·exact DI cl r n ad
theorem CD:∀{l r:List (Str×α)},(l++r).lookup x=(l.lookup x).or (r.lookup x)
 |[],r=>by simp
 | (k,v)::l,r=>by
  rw[List.cons_append,ZS,ZS];split
  ·rfl
  ·exact CD
theorem Hi{f g:α->PUnit->Sem (ForInStep PUnit)}:∀{l:List α},(∀x∈l,f x ⟨⟩=g x ⟨⟩)->forIn l (⟨⟩:PUnit) f=forIn l (⟨⟩:PUnit) g
 |[],_=>by rw[List.forIn_nil,List.forIn_nil]
 |x::r,h=>by
  rw[List.forIn_cons,List.forIn_cons,h x X5];refine bind_congr λy=>?_;cases y with
  |done b=>rfl
  |yield b=>exact Hi λz hz=>h z (Xw _ hz)
theorem Li{e1 e2:Env}{v:qQ}(h1:e1.scope=e2.scope)(h2:e1.locals=e2.locals)(h3:e1.globals=e2.globals)(h4:e1.cells.lookup x=e2.cells.lookup x)(hk:e1.scope.kind=.function)(hx:e1.kindOf x=some .local\/e1.kindOf x=some .cell):storeName e1 x v=storeName e2 x v:=by
 have k2:e2.kindOf x=e1.kindOf x:=by unfold Env.kindOf;rw[h1]
 have c2:cellOf e1 x=cellOf e2 x:=by unfold cellOf;rw[h4]
 unfold storeName;rw[k2];have hk2:e2.scope.kind=.function:=by rw[<-h1];exact hk
 rcases hx with hx|hx<;>rw[hx]<;>simp[h1,h2,h3,c2,hk2]
theorem IE{M:Model}{A:Around}{s:qS}{globals:qR}{binds:List (Str×qQ)}{func:Option qR}{code:qQ}{builtins:qR}{Q:Env->qS->Prop}
  (hk:scope.kind=.function)
  (hkind:∀x∈binds,scope.names.lookup x.1=some .local\/(scope.names.lookup x.1=some .cell/\((cellsFrom (s.heap.objs.size+1) scope.names []).lookup x.1).isSome=true))
  (hout:∀x∈binds,∀c,(cellsFrom (s.heap.objs.size+1) scope.names []).lookup x.1=none->cl.lookup x.1≠some c)
  (hQ:∀s',InCallC s s.heap.objs.size (bindL (λx=>scope.names.lookup x) binds λ_=>none) (cellsFrom (s.heap.objs.size+1) scope.names []) (bindC (λx=>scope.names.lookup x) binds λ_=>none) s' ->
   Q (newEnv scope s.heap.objs.size globals (cellsFrom (s.heap.objs.size+1) scope.names []++cl) qual func code none builtins) s'):
  wpAny M A (newFunctionEnv scope globals cl binds qual func code none builtins) Q E s:=by
 simp only[newFunctionEnv,Option.isSome_none,Bool.false_eq_true,if_false];refine qC (wpAny_alloc ?_);refine qC (wpAny_layCells _ (λname kind cells=>by cases hkc:kind==NameKind.cell<;>simp[hkc]) _ _ _ _ ?_);have ok:=cellsFrom_ok scope.names (s.heap.push {cls:=.type "frame",data:=.dict #[]}) (s.heap.objs.size+1) [] ⟨λ_ _ hm=>(nomatch hm),List.Pairwise.nil⟩ (by rw[Y1];exact Xi _);rw[Y1]at ok;rw[show ({s with heap:=s.heap.push {cls:=.type "frame",data:=.dict #[]}}:qS).heap.objs.size=s.heap.objs.size+1 from Y1 ..];have ca:=DI cl scope.names (s.heap.objs.size+1) [];rw[List.nil_append]at ca;rw[ca]
 have env2:∀x∈binds,(cellsFrom (s.heap.objs.size+1) scope.names []++cl).lookup x.1=(cellsFrom (s.heap.objs.size+1) scope.names []).lookup x.1:=λx hx=>by
  rw[CD];cases e:(cellsFrom (s.heap.objs.size+1) scope.names []).lookup x.1 with
  |some c=>rfl
  |none =>
   cases e2:cl.lookup x.1 with
   |none=>rfl
   |some c=>exact qG e2 (hout x hx c e)
 refine qC ?_
 rw[Hi (g:=λ(x:Str×qQ) _=>(do storeName (newEnv scope s.heap.objs.size globals (cellsFrom (s.heap.objs.size+1) scope.names []) qual func code none builtins) x.1 x.2;pure (.yield ⟨⟩):Sem (ForInStep PUnit))) (λx hx=>by
  exact qP (λz:Sem Unit=>(do z;pure (ForInStep.yield PUnit.unit):Sem (ForInStep PUnit))) (Li (e1:=newEnv scope s.heap.objs.size globals (cellsFrom (s.heap.objs.size+1) scope.names []++cl) qual func code none builtins) (e2:=newEnv scope s.heap.objs.size globals (cellsFrom (s.heap.objs.size+1) scope.names []) qual func code none builtins) rfl rfl rfl (env2 x hx) hk (by
   rcases hkind x hx with z|z
   ·exact .inl z
   ·exact .inr z.1)))]
 exact wpAny_bindParams (s₀:=s) (env:=newEnv scope s.heap.objs.size globals (cellsFrom (s.heap.objs.size+1) scope.names []) qual func code none builtins)
  _ (λ_ _ _=>rfl) hk binds (λ_=>none) (λ_=>none) _ _
  ⟨⟨⟨_,_,rfl⟩,(Heap.Ns.new s.heap (.type "frame")).keeps (pushCells_keeps _ _),λb o e=>pushCells_keeps _ _ b o (Xh _ e),Xi _⟩,
   λn c hc=>(ok.empty n c (mem_of_lookup hc)).1,ok.apart,λn c hm=>(ok.empty n c hm).2⟩
  hkind λs' x=>qD (hQ s' x)
structure Kc(ps fns:List Str)(sc:Scope):Prop where
 kind:sc.kind=.function
 co:sc.isCoroutine=false
 gen:sc.isGenerator=false
 nd:(ps++fns).Nodup
 par:∀x∈ps,sc.names.lookup x=some .local\/sc.names.lookup x=some .cell
 fre:∀x∈fns,sc.names.lookup x=some .free
 all:∀y∈sc.names,y.2=.free->y.1∈fns
 own:∀y∈sc.names,y.2=.cell->y.1∉fns
noncomputable def Wc(P:qT)(w:qU)(K:qV)(mg:Str->Option qQ)(base:Heap)(N:List Str)(qual:Str)(scope:Scope)(f:qR)(cd:qQ)(cl:List (Str×qR))(A:Around)(outer:List Env)(s:qS)(H:Hp):Cx where
 prog:=P
 w:=w
 K:=K
 mg:=mg
 base:=base
 A:=A.deeper (PySem.W.envX qual scope s.heap.objs.size f cd (cellsFrom (s.heap.objs.size+1) scope.names []++cl))
 N:=N
 s₀:=s
 H₀:=Ie cl H
 env:=PySem.W.envX qual scope s.heap.objs.size f cd (cellsFrom (s.heap.objs.size+1) scope.names []++cl)
 outer:=outer
 stack:=PySem.W.envX qual scope s.heap.objs.size f cd (cellsFrom (s.heap.objs.size+1) scope.names []++cl)::outer
 ex:=[]
 calm:=true
 fn:=λx=>((cellsFrom (s.heap.objs.size+1) scope.names []).lookup x).isSome
 pn:=[]
 xe:=λ_ _=>False
theorem Fu{c:qR}:∀{names:List (Str×NameKind)} {n:Nat} {ad:List (Str×qR)},(cellsFrom n names ad).lookup x=some c->(∃k,(x,k)∈names/\k=.cell)\/ad.lookup x=some c
 |[],_,_,h=>.inr h
 | (name,kind)::r,n,ad,h=>by
  unfold cellsFrom at h
  split at h
  ·rename_i hk
   rcases Fu h with⟨k,h1,h2⟩|h
   ·exact .inl ⟨k,Xw _ h1,h2⟩
   ·rw[ZS]at h
    split at h
    ·rename_i hx
     exact .inl ⟨kind,by rw[beq_iff_eq.mp hx];exact X5,beq_iff_eq.mp hk⟩
    ·exact .inr h
  ·rcases Fu h with⟨k,h1,h2⟩|h
   ·exact .inl ⟨k,Xw _ h1,h2⟩
   ·exact .inr h
theorem CZ{c:α}:∀{l:List (Str×α)},(l.map (·.1)).Nodup->(x,c)∈l->l.lookup x=some c
 |[],_,h=>by cases h
 | (k,v)::r,nd,h=>by
  rw[ZS];rcases X3.mp h with e|h
  ·cases e;simp
  ·have:x≠k:=λz=>(Yd.mp nd).1 (by rw[<-z];exact Xy.mpr ⟨(x,c),h,rfl⟩)
   rw[beq_eq_false_iff_ne.mpr this];exact CZ (Yd.mp nd).2 h
theorem Ti{P:qT}{w:qU}{K:qV}{mg:Str->Option qQ}{base:Heap}{k:Nat}{f c':qR}{q:Str}{body:Expr}{pm ctv:qQ}{fns:List Str}
  (S:Kc ps fns scope) (hcl:cl.map (·.1)=fns) (hnd:(BU cl).Nodup) (len:∀vs H Q E,sp vs H Q E->vs.length=ps.length)
  (hbody:∀(A:Around) (outer:List Env) (s:qS) (H:Hp) (vs:List V) (Q:VK) (E:XK),Bg k (A.deeper (PySem.W.envX q scope s.heap.objs.size f (.ref c') (cellsFrom (s.heap.objs.size+1) scope.names []++cl)))->sp vs H Q E ->
   ∃Cd oc,H f=some (.frz (RM q params body scope cl pm c' ctv) Ci)/\H c'=some (.frz oc Ci)/\Ph oc q/\DH cl Cd H /\
   ∃t,PE (Wc P w K mg base (ps++fns) q scope f (.ref c') cl A outer s H) body t/\t ((vs++Cd).map some) (Ie cl H) (λv H'=>(∀b∈BU cl,H' b=none)->Q v (VM cl H H'))):
  Fc P w K mg base (IQ P w) (k+1) f (PySem.W.kla_fn "<lambda>" q params body scope cl pm (.ref c') ctv) ps sp:=by
 refine⟨len,λA outer s H args us vs Q E hr e0 hb r hsp=>?_⟩;have hl:=len _ _ _ _ hsp;have KX:K.In s.heap:=e0.mod.kin.keeps λb o e=>(e0.bs b o e).1
 have lim:s.heap.NoLimit:=e0.mod.nolimit.keeps λb o e=>(e0.bs b o e).1
 refine byG λGq hGq=>?_;obtain⟨Cd,oc,hf,hc',⟨cvs,ctk,hcd,hcv⟩,hck,t,ht,hq⟩:=hbody A outer s H vs Q E (hr.deeper _) hsp;refine hGq ?_;clear hGq Gq
 have hkind:∀y∈ps.zip us,scope.names.lookup y.1=some .local\/(scope.names.lookup y.1=some .cell/\((cellsFrom (s.heap.objs.size+1) scope.names []).lookup y.1).isSome=true):=λ⟨n,v⟩ hy=>by
  rcases S.par n (ZX hy).1 with q|q
  ·exact .inl q
  ·exact .inr ⟨q,Zu _ _ _ (.inl q)⟩
 have clin:∀{x:Str} {c:qR},cl.lookup x=some c->x∈fns/\c∈BU cl:=λ{x c} e=>by have m:=YV e;exact⟨by rw[<-hcl];exact Xy.mpr ⟨_,m,rfl⟩,Xy.mpr ⟨_,m,rfl⟩⟩
 have ndf:fns.Nodup:=(Yh.mp S.nd).2.1;have ndp:ps.Nodup:=(Yh.mp S.nd).1;have apart:∀x∈ps,x∉fns:=λx h1 h2=>(Yh.mp S.nd).2.2 x h1 x h2 rfl
 have old:∀b∈BU cl,∃u o,o.data=.cell (some u)/\H b=some (.frz o Ci)/\s.heap.get? b=some o:=λb hb=>by refine byG λGq hGq=>?_;obtain⟨u,o,h1,h2⟩:=hck.at hb;refine hGq ?_;clear hGq Gq;exact⟨u,o,h1,h2,(e0.hok b _ h2).1⟩
 refine PySem.W.kla_callFunE hr.depth (e0.hok f _ hf).1 rfl S.co S.gen rfl ⟨c',oc,cvs,ctk,rfl,(e0.hok c' _ hc').1,hcd,hcv⟩ (hb _ _ _ _ ?_);refine IE S.kind hkind (λy hy c _ z=>apart y.1 (ZX (a:=y.1) (b:=y.2) hy).1 (clin z).1) λs1 x=>?_;refine⟨lim.keeps x.toInCall.keep,PySem.W.kla_codeExpr ?_⟩;refine byG λGq hGq=>?_;obtain⟨h1,tk,rfl,hk⟩:=x.done;refine hGq ?_;clear hGq Gq;obtain⟨own,hown⟩:∃own,own=cellsFrom (s.heap.objs.size+1) scope.names []:=⟨_,rfl⟩
 have ownk:∀{y:Str} {c:qR},own.lookup y=some c->∃k,(y,k)∈scope.names/\k=.cell:=λ{y c} h=>by
  rw[hown]at h;rcases Fu h with z|z
  ·exact z
  ·cases z
 have noA:∀b:qR,b∉(Wc P w K mg base (ps++fns) q scope f (.ref c') cl A outer s H).ex:=λb z=>qG (show b∈([]:List qR) from z) (by simp)
 have lk:∀{y:Str} {c:qR},(own++cl).lookup y=some c->(own.lookup y=some c)\/(own.lookup y=none/\cl.lookup y=some c):=λ{y c} h=>by
  rw[CD]at h;cases e:own.lookup y with
  |some d=>rw[e]at h;left;exact h
  |none=>rw[e]at h;right;exact⟨rfl,h⟩
 have above:∀{y:Str} {c:qR},own.lookup y=some c->s.heap.objs.size<c:=λ{y c} h=>x.above y c (by rw[hown]at h;exact YV h)
 have ltc:∀b∈BU cl,b<s.heap.objs.size:=λb hb=>by refine byG λGq hGq=>?_;obtain⟨_,_,_,_,e⟩:=old b hb;refine hGq ?_;clear hGq Gq;exact Xm e
 have I:AR (Wc P w K mg base (ps++fns) q scope f (.ref c') cl A outer s H) [] ((vs++Cd).map some) (Ie cl H) {s with heap:=h1,toks:=tk}:=by
  refine⟨⟨e0.mod,S.kind,rfl,rfl,Xi _,λy z c h1 h2=>?_,λy hy=>?_,λy c h h2=>?_,λ_=>hr.hd,Around.frames_deeper e0.frames,.inr ⟨rfl,rfl⟩,λb z=>qG z (noA b),λb o e=>⟨(e0.bs b o e).1,Ct (e0.bs b o e).2⟩,e0.bsz,λb _ _=>noA b,λb z=>qG z (noA b),e0.funs,λb hb=>Ct (e0.frf b hb)⟩,
   rfl,e0.bare,Un.kept hk,⟨_,x.toInCall.ns,λi y v h1 h2 h3=>?_⟩,λy c h=>?_,Ct (e0.hok.fresh (Nat.le_refl _)),λy c h=>?_,λp hp=>qG (show p∈([]:List (qR×Obj)) from hp) (by simp),?_,?_⟩
  ·have h1:(own++cl).lookup y=some c:=by rw[hown];exact h1
   have h2:(own++cl).lookup z=some c:=by rw[hown];exact h2
   rcases lk h1 with a|⟨_,a⟩<;>rcases lk h2 with b|⟨_,b⟩
   ·rw[hown]at a b;exact name_of_addr x.apart (YV a) (YV b)
   ·exact qG (Nat.lt_trans (above a) (ltc c (clin b).2)) (X8 _)
   ·exact qG (Nat.lt_trans (above b) (ltc c (clin a).2)) (X8 _)
   ·refine name_of_addr ?_ (YV a) (YV b);have z:=hnd;unfold BU List.Nodup at z;rw[ZC]at z;exact z
  ·have hy:scope.names.lookup y=some .cell\/scope.names.lookup y=some .free:=hy;show ∃c,(cellsFrom (s.heap.objs.size+1) scope.names []++cl).lookup y=some c;rw[CD];rcases hy with hy|hy
   ·obtain⟨c,e⟩:=E5 (n:=s.heap.objs.size+1) hy;rw[e];exact⟨c,rfl⟩
   ·cases e:(cellsFrom (s.heap.objs.size+1) scope.names []).lookup y with
    |some c=>exact⟨c,rfl⟩
    |none =>
     have m:=S.all _ (YV hy) rfl;rw[<-hcl]at m;obtain⟨p,hp,rfl⟩:=Xy.mp m;exact⟨p.2,by rw[Option.none_or];exact CZ (by rw[hcl];exact ndf) hp⟩
  ·have h:((cellsFrom (s.heap.objs.size+1) scope.names []).lookup y).isSome=true:=h;have h2:(own++cl).lookup y=some c:=by rw[hown];exact h2
   rcases lk h2 with a|⟨a,_⟩
   ·exact Y9 (above a)
   ·rw[hown]at a;rw[a]at h;cases h
  ·have h1:(ps++fns)[i]?=some y:=h1;rw[Xl]at h2;cases e:(vs++Cd)[i]? with
   |none=>rw[e]at h2;cases h2
   |some v' =>
    rw[e]at h2;cases h2
    by_cases hi:i<vs.length
    ·rw[YQ hi]at e;rw[YQ (by lia)]at h1;obtain⟨u,hu,rv⟩:=r.get e;refine⟨u,rv,?_⟩;rcases S.par y (Xq h1) with k|k
     ·exact .inl ⟨k,Fd ndp h1 hu k⟩
     ·obtain⟨c,e⟩:=E5 (n:=s.heap.objs.size+1) k;refine .inr ⟨.inl k,c,?_,?_⟩
      ·show (cellsFrom (s.heap.objs.size+1) scope.names []++cl).lookup y=some c;rw[CD,e];rfl
      ·have q:=x.cell y c e;rw[Fe ndp h1 hu (by show scope.names.lookup y≠_;rw[k];decide)]at q;exact q
    ·rw[X9 (by lia)]at e;rw[X9 (by lia)]at h1;refine byG λGq hGq=>?_;obtain⟨p,hp,u,o,rv,hd,hH⟩:=Paired.at hck e;refine hGq ?_;clear hGq Gq;have hp1:p.1=y:=by rw[<-hcl,Xl,<-hl,hp]at h1;exact Option.some.inj h1
     have hy:=S.fre y (Xq h1);refine⟨u,rv,.inr ⟨.inr hy,p.2,?_,o,hk _ _ (e0.hok _ _ hH).1,hd⟩⟩;show (cellsFrom (s.heap.objs.size+1) scope.names []++cl).lookup y=some p.2;rw[CD];cases ee:(cellsFrom (s.heap.objs.size+1) scope.names []).lookup y with
     |none=>rw[Option.none_or];exact CZ (by rw[hcl];exact ndf) (by rw[<-hp1];exact Xq hp)
     |some c =>
      obtain⟨kk,m1,m2⟩:=ownk (y:=y) (c:=c) (by rw[hown];exact ee);exact qG (Xq h1) (S.own _ m1 m2)
  ·have h:(own++cl).lookup y=some c:=by rw[hown];exact h
   rcases lk h with a|⟨_,a⟩
   ·rw[hown]at a;exact⟨_,x.cell y c a⟩
   ·refine byG λGq hGq=>?_;obtain⟨u,o,hd,_,ho⟩:=old c (clin a).2;refine hGq ?_;clear hGq Gq;exact⟨some u,o,hk _ _ ho,hd⟩
  ·have h:(own++cl).lookup y=some c:=by rw[hown];exact h
   rcases lk h with a|⟨_,a⟩
   ·exact Ct (e0.hok.fresh (Y9 (above a)))
   ·exact Hh (clin a).2
  ·refine Dk.unC (e0.hok.kept hk) λb hb u e=>?_;refine byG λGq hGq=>?_;obtain⟨_,o,_,h2,_⟩:=old b hb;refine hGq ?_;clear hGq Gq;rw[h2]at e;cases e;exact⟨o,rfl⟩
  ·show ((vs++Cd).map some).length=(ps++fns).length;rw[Xf,Xt,Xt,hl,<-hcl,Xf,Paired.lens hck]
 refine qM (ht [] _ _ _ _ I hq) (λu s' hs=>?_) λe s' hs=>hs.elim
 refine byG λGq hGq=>?_;obtain⟨v,H',J,rv,qq⟩:=hs;refine hGq ?_;clear hGq Gq
 have frn:∀b∈Dq outer,b∉BU cl:=λb hb z=>by refine byG λGq hGq=>?_;obtain⟨_,_,_,h2,_⟩:=old b z;refine hGq ?_;clear hGq Gq;rw[e0.frf b hb]at h2;cases h2
 have nC:∀{b:qR} {u:HO},H b=some u->(∀o,u≠.frz o Ci)->b∉BU cl:=λh n=>hck.out h n
 have cz:∀b∈BU cl,H' b=none:=λb hb=>by refine byG λGq hGq=>?_;obtain⟨_,o,_,_,ho⟩:=old b hb;refine hGq ?_;clear hGq Gq;exact J.base.free b o ho (Hh hb) (noA b)
 refine⟨v,VM cl H H',J.os,J.bare,⟨λb o e n h1 h2=>J.base.keep b o e (Ct n) h1 h2,λb o e n h1 h2=>J.base.slot b o e (Ct n) h1 h2,λb o e n h2=>?_,J.base.there,λb xs e=>?_,λb o u e=>?_,λb qs e=>?_⟩,λb u e=>?_,rv,qq cz⟩
 ·have hb:b∉BU cl:=λz=>by
   refine byG λGq hGq=>?_;obtain⟨_,_,_,h2,_⟩:=old b z;refine hGq ?_;clear hGq Gq;rw[n]at h2;cases h2
  rw[DC hb];exact J.base.free b o e (Ct n) h2
 ·have hb:=nC e (by intro o z;cases z);rw[DC hb];exact J.base.tups b xs (by show Ie cl H b=_;rw[Bo hb];exact e)
 ·by_cases hb:b∈BU cl
  ·rw[Lh hb];exact e
  ·rw[DC hb];exact J.base.frzs b o u (by show Ie cl H b=_;rw[Bo hb];exact e)
 ·have hb:=nC e (by intro o z;cases z);rw[DC hb];exact J.base.tbls b qs (by show Ie cl H b=_;rw[Bo hb];exact e)
 ·by_cases hb:b∈BU cl
  ·rw[Lh hb]at e;refine byG λGq hGq=>?_;obtain⟨_,o,_,h2,ho⟩:=old b hb;refine hGq ?_;clear hGq Gq;rw[h2]at e;cases e;refine Hg (J.base.keep b o ho (Hh hb) (λz=>frn b z hb) (noA b))
  ·rw[DC hb]at e;refine (J.hok b u e).stay (λ_ _ _ q=>q) (λc q=>?_) λc xs q=>?_
   ·rw[DC (λz=>by rw[cz c z]at q;cases q)];exact q
   ·rw[DC (λz=>by rw[cz c z]at q;cases q)];exact q
structure Tj(K:qV)(x qual:Str)(st:Stmt)(f c Pt:qR)(fd:FuncData):Prop where
 ex:∃(oc:qQ) (od:Option qR) (kV doc pm:qQ) (an:Option qR) (ct:qQ) (osl:Array (Option qQ)),
  fd=PySem.W.fnOf x qual (C3 st) (BW st) (AI st) .none kV doc pm an (.ref c) ct/\K.lookup f=some ⟨oc,od,.func fd,osl⟩/\PySem.W.codeIn K (.ref c) qual=true
 kp:PySem.W.keepIn K (.ref f)=true
 hd:PySem.W.codeHdIn K c Pt=true
section
variable{P:qT}{w:qU}{K:qV}{mg:Str->Option qQ}{base:Heap}{f c Pt:qR}{N:List Str}{k:Nat}
theorem VN(D:∃fd,Tj K x qual st f c Pt fd)(S:AL N ps (AI st))(bd:Dw x qual st ps) (h:∀vs H Q E,sp vs H Q E->vs.length=ps.length /\
  ∀(A:Around) (outer:List Env) (s:qS),Bg k (A.deeper (envOfC qual (AI st) s.heap.objs.size f (.ref c))) ->
   ∃t,F6 (Dr (IQ P w) P w K mg base N qual (AI st) f (.ref c) A outer s H E) (BW st) t/\t {nx:=λ_ H'=>Q .non H',rt:=Q} (CK N vs) H):Ak P w K mg base (k+1) f ps sp:=by
 refine byG λGq hGq=>?_;obtain⟨fd,⟨oc,od,kV,doc,pm,an,ct,osl,rfl,lk,hcd⟩,kp,hd⟩:=D;refine hGq ?_;clear hGq Gq;exact⟨⟨_,Rp lk hcd S (λvs H Q E q=>(h vs H Q E q).1) λA outer s H vs Q E hr q=>(h vs H Q E q).2 A outer s hr,.all (bd kV doc pm an (.ref c) ct)⟩,kp⟩
def Ml(K:qV)(x:Str)(st:Stmt)(f c Pt:qR):Prop:=(∃fd,Tj K x x st f c Pt fd)/\PySem.W.nsIn K mainGlobals x=some (some (.ref f))
theorem RN{kV pm ct:qQ}(a:PySem.W.nsIn K mainGlobals x=some (some (.ref f)))
  (l:K.lookup f=some ⟨oc,od,.func (PySem.W.fnOf x x (C3 st) (BW st) (AI st) .none kV doc pm an (.ref c) ct),osl⟩) (e:PySem.W.codeIn K (.ref c) x=true) (k:PySem.W.keepIn K (.ref f)=true) (h:PySem.W.codeHdIn K c Pt=true):Ml K x st f c Pt:=
 ⟨⟨_,⟨⟨oc,od,kV,doc,pm,an,ct,osl,rfl,l,e⟩,k,h⟩⟩,a⟩
end
section
variable{P:qR}{q:Str}
theorem Cb.at(t:Cb pos q P H):∃ps,H P=some (.tbl ps):=by obtain⟨ps,h,_⟩:=t;exact⟨ps,h⟩
theorem DB.get(e:DB P H H')(t:Cb pos q P H){b:qR}{o:HO}(h:H b=some o)(n:∀ps,o≠.tbl ps):H' b=some o:=by obtain⟨ps,hp⟩:=t.at;exact e b o (λz=>by rw[z,hp]at h;cases h;exact n _ rfl) h
end
theorem Nk{K:qV}{q:Str}{body:Expr}{pm ct:qQ}
  (h:∀us:List qQ,us.length=ps.length->bindArgs (PySem.W.kla_fn name q params body scope cl pm ae ct) ⟨us,[]⟩=pure (ps.zip us)):F7 K (PySem.W.kla_fn name q params body scope cl pm ae ct) ps []:=.all h
theorem Mm{K:qV}:∀{ts:List qR},(∀P∈ts,∃c,PySem.W.codeHdIn K c P=true)->(∀P∈ts,K.lookup P=none)->∃cts:List (qR×qR),cts.map (·.2)=ts/\Pg K cts
 |[],_,_=>⟨[],rfl,λq hq=>qG hq X7⟩
 |P::ts,h1,h2=>by
  obtain⟨c,hc⟩:=h1 P X5;obtain⟨cts,e,h⟩:=Mm (λP hP=>h1 P (Xw _ hP)) λP hP=>h2 P (Xw _ hP)
  refine⟨(c,P)::cts,by rw[Yg,e],λq hq=>?_⟩;rcases X3.mp hq with z|z
  ·rw[z];exact⟨hc,h2 P X5⟩
  ·exact h q z
inductive JW(K:qV)(ts:List qR)(vs:List V)(H:Hp)(Q:VK)(z3_:XK):Prop
 |m (a:qR) (ns:qW):vs=[.ref a]->Af K H a (ns.map V.int)->ns.length<=63->(∀P∈ts,H P=some (.tbl #[]))->(∀H',Q (.bl true) H')->JW K ts vs H Q z3_
theorem Nl{l:PySem.W.OpenLaw}{n k:Nat}{q:qT}{loose:List Str}{XP:(Str->Option qQ)->Heap->Prop}{YP:qU->Heap->Prop}{d:DefRec}{K:Params->qV}{ts:List qR}
  (hn:l.most=some 63) (hdf:d.params.defaults=[]) (hr:Bg k callerA)
  (hY:∀(w:qU) (h:Heap),YP w h->(K w.params).In h/\∀P∈ts,h.get? P=some (PySem.W.tabObj #[])) (hT:∀w:qU,∀P∈ts,(K w.params).lookup P=none)
  (F:∀(w:qU) (mg:Str->Option qQ) (fa:qR) (h:Heap),(K w.params).In h->h.Ns mainGlobals mg->mg d.name=some (.ref fa) ->
   (∀P∈ts,∃c,PySem.W.codeHdIn (K w.params) c P=true)/\∃fd:FuncData,(∀(s:qS) (u:qQ),BindsTo s fd ⟨[u],[]⟩ [(x,u)]) /\
    ∀base:Heap,(K w.params).In base->base.Ns mainGlobals mg->HV mg base->Fc l.prog w (K w.params) mg base (IQ l.prog w) k fa fd [x] (JW (K w.params) ts)):
  PySem.W.WalkO q loose XP YP l.row.toRowW d [] (λf vs=>PySem.call f vs):=by
 refine Att.attach_call hn hdf λw s₀ s₁ mg mb fa o pm cd doc a vs ns G Y ho hd hcd hmg hobj hints hlen hg=>?_;obtain⟨KX,TX⟩:=hY w _ Y;refine byG λGq hGq=>?_;obtain⟨hc,fd,hb,hF⟩:=F w mg fa _ KX G.T.g hmg;refine hGq ?_;clear hGq Gq;obtain⟨cts,rfl,hT'⟩:=Mm hc (hT w);exact Nj KX G.T.g G.T.b G.T.builtins G.T.nolimit G.T.bmain hg hT' (λq hq=>TX _ (Xy.mpr ⟨q,hq,rfl⟩)) hobj hints (YG hlen (by decide)) hr hF hb (λH hO hS=>⟨a,ns,rfl,hS,hlen,hO.2,λ_=>rfl⟩) λH e s' ⟨_,_,_,_,_,_,_,_,z⟩=>z
end L2
namespace L2
open PySem PySem.Spec PyProof.Rows RW
variable{H H' HX:Hp}{d2 l:qR}{j:Nat}{ls ls2:List qR}{α β:Type}
noncomputable def Bl(A:qW)(vs:List V):List (BQ×V):=List.zipWith (λa v=>(Sum.inl a,v)) A vs
theorem Ig{A:qW}{vs:List V}(h:vs.length=A.length):(Bl A vs).length=A.length:=by unfold Bl;rw[List.length_zipWith,h,Nat.min_self]
theorem Pk{a b:Int}(h:a≠b):¬(Sum.inl a:BQ)=Sum.inl b:=λe=>h (Sum.inl.inj e)
theorem EQ:∀{A:qW} {vs:List V} {a:Int},a∉A->BN (Bl A vs) (Sum.inl a)=none
 |[],_,_,_=>rfl
 |_::_,[],_,_=>rfl
 |b::A,v::vs,a,h=>by show BN ((Sum.inl b,v)::Bl A vs) (Sum.inl a)=none;rw[CN (show ¬(Sum.inl b,v).1=Sum.inl a from Pk λe=>h (by rw[e];exact X5))];exact EQ λe=>h (Xw _ e)
theorem Fv:∀{A:qW} {vs:List V} {i:Nat} {a:Int} {v:V},A.Nodup->A[i]?=some a->vs[i]?=some v->BN (Bl A vs) (Sum.inl a)=some v
 |[],_,_,_,_,_,h,_=>by simp at h
 |_::_,[],_,_,_,_,_,h=>by simp at h
 |b::A,v::vs,0,a,w,nd,h1,h2=>by simp at h1 h2;subst h1 h2;exact DN rfl
 |b::A,v::vs,i+1,a,w,nd,h1,h2=>by simp at h1 h2;have nd':=Yd.mp nd;show BN ((Sum.inl b,v)::Bl A vs) (Sum.inl a)=some w;rw[CN (show ¬(Sum.inl b,v).1=Sum.inl a from Pk λe=>nd'.1 (by rw[e];exact Xq h1))];exact Fv nd'.2 h1 h2
theorem Pl{A:qW}{vs:List V}{a:Int}{v:V}(hl:vs.length=A.length)(h:a∉A):CV (Bl A vs) (Sum.inl a) v=Bl (A++[a]) (vs++[v]):=by rw[KC _ (EQ h)];unfold Bl;rw[List.zipWith_append hl.symm];rfl
theorem RO{A:qW}{vs:List V}{i:Nat}{k:BQ}{v:V}(h:(Bl A vs)[i]?=some (k,v)):∃a,A[i]?=some a/\vs[i]?=some v/\k=Sum.inl a:=by
 unfold Bl at h;rw[Z1]at h;cases ha:A[i]? with
 |none=>rw[ha]at h;simp at h
 |some a =>
  cases hl:vs[i]? with
  |none=>rw[ha,hl]at h;simp at h
  |some l =>
   rw[ha,hl]at h;simp at h;exact⟨a,rfl,by rw[h.2],h.1.symm⟩
theorem Pm{A:List α}{a:α}(h:a∈A):∃i:Nat,A[i]?=some a:=YC.mp h
theorem SO{A:List α}{ls:List β}(n:ls.length=A.length){i:Nat}{a:α}(h:A[i]?=some a):∃l,ls[i]?=some l:=
 ⟨ls[i]'(by rw[n];exact (Xg.mp h).1),Xj _⟩
theorem Pn{A:qW}{vs:List V}{a:Int}(n:vs.length=A.length)(nd:A.Nodup):(BN (Bl A vs) (Sum.inl a)).isSome=decide (a∈A):=by
 by_cases h:a∈A
 ·obtain⟨i,hi⟩:=Pm h;obtain⟨v,hv⟩:=SO n hi;rw[Fv nd hi hv,qH h];rfl
 ·rw[EQ h,qI h];rfl
structure FU(H:Hp)(ls:List qR)(A:qW)(F:Int->qW):Prop where
 n:ls.length=A.length
 nd:ls.Nodup
 e:∀(i:Nat) (a:Int) (l:qR),A[i]?=some a->ls[i]?=some l->H l=some (.lst ((F a).map V.int))
section
variable{A:qW}{F:Int->qW}
theorem FU.nil:FU H [] [] F:=⟨rfl,List.nodup_nil,λi a l z=>by simp at z⟩
theorem FU.same(e:AG H H')(g:FU H ls A F):FU H' ls A F:=⟨g.n,g.nd,λi a l h1 h2=>e _ _ (g.e i a l h1 h2)⟩
theorem FU.snoc(g:FU H ls A F){a:Int}(hl:l∉ls)(h:H l=some (.lst ((F a).map V.int))):FU H (ls++[l]) (A++[a]) F:=by
 refine⟨by rw[Xt,Xt,g.n];rfl,Yh.mpr ⟨g.nd,Yd.mpr ⟨X7,Y2⟩,λx hx y hy e=>hl (by rw[<-Xu.mp hy,<-e];exact hx)⟩,λi b k h1 h2=>?_⟩
 by_cases z:i<A.length
 ·rw[YQ z]at h1;rw[YQ (by rw[g.n];exact z)]at h2;exact g.e i b k h1 h2
 ·rw[X9 (by lia)]at h1;rw[X9 (by rw[g.n];lia),g.n]at h2;have z0:i-A.length=0:=by have:=(Xg.mp h1).1;simp at this;lia
  rw[z0]at h1 h2;cases h1;cases h2;exact h
theorem FU.out(g:FU H ls A F)(h:∀xs,H l≠some (.lst xs)):l∉ls:=λz=>by obtain⟨i,hi⟩:=Pm z;obtain⟨a,ha⟩:=SO g.n.symm hi;exact h _ (g.e i a l ha hi)
theorem FU.new(g:FU H ls A F)(h:H l=none):l∉ls:=g.out λxs z=>by rw[h]at z;cases z
theorem FU.keep(g:FU H ls A F)(nl:l∉ls)(v:HO):FU (AT H l v) ls A F:=
 ⟨g.n,g.nd,λi a k h1 h2=>by rw[AJ λe=>nl (by rw[<-e];exact Xq h2)];exact g.e i a k h1 h2⟩
theorem FU.congr{G:Int->qW}(g:FU H ls A F)(h:∀a∈A,G a=F a):FU H ls A G:=
 ⟨g.n,g.nd,λi a k h1 h2=>by rw[h a (Xq h1)];exact g.e i a k h1 h2⟩
theorem FU.push(g:FU H ls A F)(nd:A.Nodup){p0 x:Int}(hj:A[j]?=some p0)(hl:ls[j]?=some l):FU (AT H l (.lst ((F p0++[x]).map V.int))) ls A (λp=>if p0=p then F p++[x] else F p):=
 ⟨g.n,g.nd,λi a k h1 h2=>by
  by_cases e:p0=a
  ·subst e;have ij:i=j:=by have a1:=Xg.mp h1;have a2:=Xg.mp hj;exact (ZE (h₀:=a1.1) (h₁:=a2.1) nd).mp (by rw[a1.2,a2.2])
   subst ij;rw[hl]at h2;cases h2;rw[AE,qF rfl]
  ·have kl:k≠l:=λz=>by
    subst z;have b1:=Xg.mp h2;have b2:=Xg.mp hl;have ij:i=j:=(ZE (h₀:=b1.1) (h₁:=b2.1) g.nd).mp (by rw[b1.2,b2.2]);subst ij;rw[hj]at h1;exact e (Option.some.inj h1)
   rw[AJ kl,qE e];exact g.e i a k h1 h2⟩
end
theorem AhI.put{A2:qW}{B:Int->qW}{k:Int}(ln:∀l∈ls2,H l=none)(w0:HX d2=some (.dK (Bl A2 (ls2.map V.ref))))(g:FU HX ls2 A2 B)(hl:HX l=some (.lst []))(nl:l∉ls2)(h0:H l=none)(hk:k∉A2)(hB:B k=[]):
  (∀x∈ls2++[l],H x=none)/\AT HX d2 (.dK (CV (Bl A2 (ls2.map V.ref)) (Sum.inl k) (.ref l))) d2=some (.dK (Bl (A2++[k]) ((ls2++[l]).map V.ref)))/\FU (AT HX d2 (.dK (CV (Bl A2 (ls2.map V.ref)) (Sum.inl k) (.ref l)))) (ls2++[l]) (A2++[k]) B:=by
 have d2n:d2∉ls2:=g.out λxs z=>by rw[w0]at z;cases z
 refine⟨λx hx=>?_,by rw[AE,Pl (by rw[Xf];exact g.n) hk,Xp];rfl,(g.keep d2n _).snoc nl ?_⟩
 ·rcases Xr.mp hx with z|z
  ·exact ln x z
  ·rw[Xu.mp z];exact h0
 ·rw[AJ (Bu hl w0 λz=>by cases z),hB];exact hl
end L2
namespace L2
open PySem PySem.Spec PyProof.Rows
variable{D:Ez}{E:qQ->qS->Prop}{H:Hp}{X:Cx}{a:qR}{cl:List (Str×qR)}{es:List Expr}{fd:FuncData}{params:Arguments}{a6:List (qR×Obj)}{pos:Pos}{ps:List Str}{scope:Scope}{sp:Sp}{ta:TA}{us vs:List qQ}{α:Type}{σ:St}
theorem Tk{l:List α}(h:2<=l.length):∃x y r,l=x::y::r:=by
 rcases l with _|⟨x,_|⟨y,l⟩⟩
 ·exact qG h (by rw[aC];decide)
 ·exact qG h (by rw[YZ];decide)
 ·exact⟨_,_,_,rfl⟩
theorem B4:∀{vs:List qQ} {ns:qW},IntsAre vs ns->Aq (ns.map V.int) vs
 |_,_,.nil=>.nil
 |_,_,.cons n t h=>.cons ⟨t,rfl⟩ (B4 h)
theorem IF(a f:qR):Builtin.«list.sort» ⟨[.ref a],[(Str.ofString "key",.ref f)]⟩=(do
  let items <-Builtin.List.listItems (.ref a)
  Builtin.List.listUpdate (.ref a) λ_=>#[]
  let before <-seqEpoch a
  let held <-newTuple items.toList
  let keyStore <-newList []
  holding [held,keyStore] do
   rule "list.sort.key"
   for x in items do
    match <-(call (.ref f) [x]).attempt with
    |.ok k=>Builtin.List.listUpdate keyStore (·.push k)
    |.error e =>
     rule "list.sort.key-raised"
     let made <-Builtin.List.listItems keyStore
     Builtin.List.listUpdate keyStore λ_=>#[]
     letGo made.toList.reverse [e]
     Builtin.List.listUpdate (.ref a) λ_=>items;throw e
   let keys <-Builtin.List.listItems keyStore
   let kind <-if items.size<2 then pure general' else keyKind' keys
   let ((),s) <-(if items.size<2 then pure () else sortRuns').run (SortSt.mk' kind (keys.zip items) #[] 7 none)
   let sorted:=(arrOf s).map (·.2)
   Builtin.List.listUpdate keyStore λ_=>#[]
   letGo ((arrOf s).map (·.1)).toList (failedOf s).toList
   let touched:=(<-seqEpoch a) != before
   Builtin.List.listUpdate (.ref a) λ_=>sorted
   if let some e:=failedOf s then rule "list.sort.comparison-raised";throw e
   if touched then rule "list.sort.modified";raiseError "ValueError" "list modified during sort"
   ret .none):=by
 first|rfl|(fail "not by rfl")
theorem GK(a v:qQ):argsOk "sorted" ⟨[a],[(Str.ofString "key",v)]⟩:=by unfold argsOk;kernel_rfl
theorem Ev(a v:qQ):argsOk "list.sort" ⟨[a],[(Str.ofString "key",v)]⟩:=by unfold argsOk;kernel_rfl
theorem AR.adopt{s:qS}{o:HO}(I:AR X a6 σ H s)(f:CS X a6 H a)(hx:a∉X.ex)(hn:X.s₀.heap.objs.size<=a)(new:Ag X.prog X.w (AT H a o) s.heap a o):AR X a6 σ (AT H a o) s:=by
 refine byG λGq hGq=>?_;obtain⟨f0,f1,f2,f3,f4,f5⟩:=f;refine hGq ?_;clear hGq Gq;have ne:∀{b:qR} {u:HO},H b=some u->b≠a:=λ{b u} e z=>by rw[z,f0]at e;cases e
 have old:∀{b:qR} {u:Obj},X.s₀.heap.get? b=some u->b≠a:=λ{b u} e z=>qG (Xn (Xm e) hn) (by rw[z];exact X8 _)
 refine⟨I.ok,I.os,I.bare,⟨I.base.keep,I.base.slot,λb u e n h=>?_,I.base.there,λb xs e=>?_,λb u v e=>?_,λb ps e=>?_⟩,I.loc,I.cell,?_,λx c e=>?_,λp hp=>?_,λb u e=>?_,I.len⟩
 ·rw[AJ (old e)];exact I.base.free b u e n h
 ·have z:=I.base.tups b xs e;rw[AJ (ne z)];exact z
 ·have z:=I.base.frzs b u v e;rw[AJ (ne z)];exact z
 ·obtain⟨more,z⟩:=I.base.tbls b ps e;exact⟨more,by rw[AJ (ne z)];exact z⟩
 ·rw[AJ (Ne.symm f1)];exact I.free
 ·rw[AJ (f4 x c e)];exact I.freeC x c e
 ·obtain⟨p1,p2,p3⟩:=I.pin p hp;exact⟨p1,by rw[AJ (f5 p hp)];exact p2,p3⟩
 ·by_cases z:b=a
  ·subst z;rw[AE]at e;cases e;exact new
  ·rw[AJ z]at e;exact (I.hok b u e).stay (λ_ _ _ q=>q) (λc q=>by rw[AJ (ne q)];exact q) λc xs q=>by rw[AJ (ne q)];exact q
theorem Nm{k:Nat}{f:qR}{is:List Nat}{Cd:List V}{s:qS}{A:Around}{vs:List V}{Q':VK}{R:qQ->qS->Prop}
  (F:Fc X.prog X.w X.K X.mg X.base (IQ X.prog X.w) k f fd ps sp) (hb:F7 X.K fd ps []) (hr:Bg k A) (hA:A.frames=X.A.frames)
  (hcl:Paired (λ(i:Nat) (q:Str×qR)=>X.N[i]?=some q.1/\X.env.kindOf q.1=some .cell/\X.env.cells.lookup q.1=some q.2/\X.fn q.1=true) is cl) (hAt:At σ is Cd) (I:AR X a6 σ H s) (r:Aq vs us)
  (q:∀HC,AG H HC->(∀b∈BU cl,H b=none)->DH cl Cd HC->(∀b,b∉BU cl->HC b=H b)->sp vs HC Q' E0)
  (hR:∀v u H2 s2,A4 v u->AR X a6 σ (Ie cl H2) s2->Q' v H2->R u s2):wpAny (model X.prog X.w) A (call (.ref f) us) R E s:=by
 have each:∀{is:List Nat} {cl:List (Str×qR)} {Cd:List V},Paired (λ(i:Nat) (q:Str×qR)=>X.N[i]?=some q.1/\X.env.kindOf q.1=some .cell/\X.env.cells.lookup q.1=some q.2/\X.fn q.1=true) is cl->At σ is Cd ->
   Paired (λ(p:Str×qR) (v:V)=>∃u o,A4 v u/\o.data=.cell (some u)/\s.heap.get? p.2=some o/\X.s₀.heap.objs.size<=p.2/\H p.2=none/\X.env.locals≠p.2) cl Cd:=by
  intro is cl Cd h1 h2
  induction h1 generalizing Cd with
  |nil=>cases h2;exact .nil
  |cons a _ ih =>
   cases h2 with
   |cons b h2 =>
    refine .cons ?_ (ih h2);refine byG λGq hGq=>?_;obtain⟨n1,n2,n3,n4⟩:=a;refine hGq ?_;clear hGq Gq;obtain⟨m,hn,hl⟩:=I.loc;obtain⟨u,ru,l⟩:=hl _ _ _ n1 b (.inr (.inl n2));rcases l with⟨hk,_⟩|⟨_,c,hc,o,ho,hd⟩
    ·rw[n2]at hk;cases hk
    ·rw[n3]at hc;cases hc;exact⟨u,o,ru,hd,ho,I.ok.cab _ _ n4 n3,I.freeC _ _ n3,(I.cne _ _ n3).symm⟩
 have cells:=each hcl hAt
 have cin:∀b∈BU cl,∃u o,o.data=.cell (some u)/\s.heap.get? b=some o/\X.s₀.heap.objs.size<=b/\H b=none/\X.env.locals≠b:=λb hb=>by obtain⟨p,hp,rfl⟩:=Xy.mp hb;refine byG λGq hGq=>?_;obtain⟨v,u,o,_,h1,h2,h3,h4,h5⟩:=Paired.left cells p hp;refine hGq ?_;clear hGq Gq;exact⟨u,o,h1,h2,h3,h4,h5⟩
 obtain⟨HC,hH⟩:∃HC:Hp,HC=λb=>if b∈BU cl then (s.heap.get? b).map (λo=>HO.frz o Ci) else H b:=⟨_,rfl⟩
 have hin:∀b∈BU cl,∀o,s.heap.get? b=some o->HC b=some (.frz o Ci):=λb hb o e=>by rw[hH];show (if _ then _ else _)=_;rw[qF hb,e];rfl
 have hout:∀b,b∉BU cl->HC b=H b:=λb hb=>by rw[hH];exact qE hb
 have sm:AG H HC:=λb o q=>by rw[hout b (λz=>by obtain⟨_,_,_,_,_,n,_⟩:=cin b z;rw[n]at q;cases q)];exact q
 have ck:DH cl Cd HC:=by
  have go:∀{cl':List (Str×qR)} {fv:List V},Paired (λ(p:Str×qR) (v:V)=>∃u o,A4 v u/\o.data=.cell (some u)/\s.heap.get? p.2=some o/\X.s₀.heap.objs.size<=p.2/\H p.2=none/\X.env.locals≠p.2) cl' fv->(∀q∈cl',q.2∈BU cl)->DH cl' fv HC:=by
   intro cl' fv h1 h2
   induction h1 with
   |nil=>exact .nil
   |cons a _ ih =>
    refine byG λGq hGq=>?_;obtain⟨u,o,r1,r2,r3,_⟩:=a;refine hGq ?_;clear hGq Gq;exact .cons ⟨u,o,r1,r2,hin _ (h2 _ X5) o r3⟩ (ih λq hq=>h2 q (Xw _ hq))
  exact go cells λq hq=>Xy.mpr ⟨q,hq,rfl⟩
 have q1:=q HC sm (λb hb=>by obtain⟨_,_,_,_,_,n,_⟩:=cin b hb;exact n) ck hout;have hl:us.length=ps.length:=by rw[<-r.length];exact F.len _ _ _ _ q1
 have bd:=hb s us I.kIn (by rw[X6];exact hl);rw[X6]at bd
 have stk:∀b∈Dq X.stack,b∉BU cl:=λb hb z=>by
  refine byG λGq hGq=>?_;obtain⟨_,o,_,ho,hs,_,hL⟩:=cin b z;refine hGq ?_;clear hGq Gq;rcases X3.mp (I.stkSub b hb) with y|y
  ·exact hL y.symm
  ·refine byG λGq hGq=>?_;obtain⟨_,o',ho',_⟩:=I.ok.funs.mem y;refine hGq ?_;clear hGq Gq;exact qG (Xn (Xm ho') hs) (X8 _)
 have hok1:Dk X.prog X.w HC s.heap:=λb u e=>by
  by_cases hb:b∈BU cl
  ·refine byG λGq hGq=>?_;obtain⟨_,o,_,ho,_⟩:=cin b hb;refine hGq ?_;clear hGq Gq;rw[hin b hb o ho]at e;cases e;exact Hg ho
  ·rw[hout b hb]at e;exact (I.hok b u e).stay (λ_ _ _ q=>q) (λc q=>sm _ _ q) λc xs q=>sm _ _ q
 have e0:OG X.prog X.w X.K X.mg X.base A X.stack s HC:=by
  have e:=I.env0;refine⟨hA.trans e.frames,e.mod,λb o q=>⟨(e.bs b o q).1,?_⟩,e.bsz,e.funs,λb hb=>?_,hok1,e.bare⟩
  ·rw[hout b (λz=>by
    refine byG λGq hGq=>?_;obtain⟨_,_,_,_,hs,_⟩:=cin b z;refine hGq ?_;clear hGq Gq;exact qG (Xn (Xm q) (YG I.ok.bsz hs)) (X8 _))]
   exact (e.bs b o q).2
  ·rw[hout b (stk b hb)];exact e.frf b hb
 refine wpAny_call (codeAny_mono (F.run A X.stack s HC ⟨us,[]⟩ us vs _ E0 hr e0 bd r q1) λrs s2 hq=>?_);rcases rs with er|fl
 ·refine byG λGq hGq=>?_;obtain⟨_,_,_,_,_,_,_,_,z⟩:=hq;refine hGq ?_;clear hGq Gq;exact z.elim
 ·cases fl with
  |next=>exact False.elim hq
  |brk=>exact False.elim hq
  |cont=>exact False.elim hq
  |ret u =>
   refine byG λGq hGq=>?_;obtain⟨v,H2,os,bare,un,hok,rv,q2⟩:=hq;refine hGq ?_;clear hGq Gq
   have fz:∀b∈BU cl,∃o,s.heap.get? b=some o/\H2 b=some (.frz o Ci)/\s2.heap.get? b=some o:=λb hb=>by refine byG λGq hGq=>?_;obtain⟨_,o,_,ho,_⟩:=cin b hb;refine hGq ?_;clear hGq Gq;have z:=un.frzs b o _ (hin b hb o ho);exact⟨o,ho,z,(hok b _ z).1⟩
   have nC:∀{b:qR} {o:HO},H b=some o->b∉BU cl:=λ{b o} e z=>by refine byG λGq hGq=>?_;obtain⟨_,_,_,_,_,n,_⟩:=cin b z;refine hGq ?_;clear hGq Gq;rw[n]at e;cases e
   have un':Un (Dq X.stack) [] H (Ie cl H2) s.heap s2.heap:=by
    refine⟨λb o e n h1 h2=>?_,λb o e n h1 h2=>?_,λb o e n h2=>?_,un.there,λb xs e=>?_,λb o u e=>?_,λb qs e=>?_⟩
    ·by_cases hb:b∈BU cl
     ·refine byG λGq hGq=>?_;obtain⟨o',e1,_,e2⟩:=fz b hb;refine hGq ?_;clear hGq Gq;rw[e]at e1;cases e1;exact e2
     ·exact un.keep b o e (by rw[hout b hb];exact n) h1 h2
    ·exact un.slot b o e (by rw[hout b (stk b h1)];exact n) h1 h2
    ·by_cases hb:b∈BU cl
     ·exact Hh hb
     ·rw[Bo hb];exact un.free b o e (by rw[hout b hb];exact n) h2
    ·rw[Bo (nC e)];exact un.tups b xs (sm _ _ e)
    ·rw[Bo (nC e)];exact un.frzs b o u (sm _ _ e)
    ·rw[Bo (nC e)];exact un.tbls b qs (sm _ _ e)
   have hok':Dk X.prog X.w (Ie cl H2) s2.heap:=hok.unC λb hb u e=>by refine byG λGq hGq=>?_;obtain⟨o,_,z,_⟩:=fz b hb;refine hGq ?_;clear hGq Gq;rw[z]at e;cases e;exact⟨o,rfl⟩
   exact hR v u H2 s2 rv (I.call' (ch:=[]) os un' hok' bare (λb z=>qG z (by simp))) q2
def VO(P:qT)(w:qU)(K:qV)(mg:Str->Option qQ)(base:Heap)(k:Nat)(f:qR)(cl:List (Str×qR))(Cd:List V)(κ:Nat->Int)(n:Nat)(H:Hp):Prop:=∃fd ps sp,Fc P w K mg base (IQ P w) k f fd ps sp/\F7 K fd ps [] /\
 ∀x:Nat,x<n->∀(HA HC:Hp) (Q:VK),AG H HA->AG HA HC->DH cl Cd HC->(∀b,b∉BU cl->HC b=HA b)->(∀b∈BU cl,HA b=none)->(∀HE,AG HC HE->Q (.int (κ x)) HE)->sp [.int (x:Int)] HC Q E0
variable{κ:Nat->Int}
theorem Nn{P:qT}{w:qU}{K:qV}{mg:Str->Option qQ}{base:Heap}{k:Nat}{f:qR}{q:Str}{body:Expr}{n:Nat}{Cd:List V}{x1:Str}{fns:List Str}
  (la:SN q params body scope cl f H) (S:Kc [x1] fns scope) (hcl:cl.map (·.1)=fns) (hnd:(BU cl).Nodup) (hbind:∀(pm ae ct:qQ) (us:List qQ),us.length=1->bindArgs (PySem.W.kla_fn "<lambda>" q params body scope cl pm ae ct) ⟨us,[]⟩=pure ([x1].zip us))
  (hbody:∀(c':qR) (A:Around) (outer:List Env) (s:qS) (HC:Hp) (x:Nat),Bg k (A.deeper (PySem.W.envX q scope s.heap.objs.size f (.ref c') (cellsFrom (s.heap.objs.size+1) scope.names []++cl)))->x<n->AG H (Ie cl HC) ->
   ∃t,PE (Wc P w K mg base (x1::fns) q scope f (.ref c') cl A outer s HC) body t/\∀Q:VK,(∀H',AG (Ie cl HC) H'->Q (.int (κ x)) H')->t (some (.int (x:Int))::Cd.map some) (Ie cl HC) Q):
  VO P w K mg base (k+1) f cl Cd κ n H:=by
 refine byG λGq hGq=>?_;obtain⟨pm,c',ctv,oc,l1,l2,l3⟩:=la;refine hGq ?_;clear hGq Gq;refine⟨_,[x1],λvs HC QA _=>∃(x:Nat) (HA:Hp),vs=[.int (x:Int)]/\x<n/\AG H HA/\AG HA HC/\DH cl Cd HC/\(∀b,b∉BU cl->HC b=HA b)/\(∀b∈BU cl,HA b=none)/\∀HE,AG HC HE->QA (.int (κ x)) HE,Ti (q:=q) (params:=params) (body:=body) (scope:=scope) (cl:=cl) (fns:=fns) (pm:=pm) (ctv:=ctv) (c':=c') S hcl hnd ?_ ?_,Nk (hbind pm (.ref c') ctv),λx hx HA HC QA e1 e2 c o z q=>⟨x,HA,rfl,hx,e1,e2,c,o,z,q⟩⟩
 ·intro vs HA QA _ hRq;refine byG λGq hGq=>?_;obtain⟨x,_,rfl,_⟩:=hRq;refine hGq ?_;clear hGq Gq;rfl
 ·intro A outer s HC vs QA EA hr hRq;refine byG λGq hGq=>?_;obtain⟨x,HA,rfl,hx,e1,e2,ck,ho,hz,qA⟩:=hRq;refine hGq ?_;clear hGq Gq
  obtain⟨t,ht,hq⟩:=hbody c' A outer s HC x hr hx λb o h=>by
   have y:=e1 _ _ h;have nb:b∉BU cl:=λz=>by rw[hz b z]at y;cases y
   rw[Bo nb,ho b nb];exact y
  exact⟨Cd,oc,e2 _ _ (e1 _ _ l1),e2 _ _ (e1 _ _ l2),l3,ck,t,ht,hq _ λH' e cz=>qA _ (Pj e)⟩
theorem Hj{h:Heap}{xs:Array qQ}{n:Nat}(ho:h.get? a=some (seqObj "list" xs n))(g:Array qQ->Array qQ):∃e,(h.update a (Obj.mapSeq g)).get? a=some (seqObj "list" (g xs) e):=⟨_,get?_update_seq ho g⟩
section
variable{s:qS}{A:Around}
theorem Tl{f L ks:qR}{oL:Obj}{n:Nat}{R:PUnit->qS->Prop}{e:Nat}(I:AR X ((L,oL)::a6) σ H s)(hk:CS X ((L,oL)::a6) H ks)(hks:s.heap.get? ks=some (seqObj "list" #[] e))(hv:IntsAre vs (ET n))(hn:n<=1000)
  (hcall:∀(pins':List (qR×Obj)) (H':Hp) (s':qS) (x:Nat) (t:Tok) (R':qQ->qS->Prop),AR X pins' σ H' s'->AG H H'->x<n->(∀u H2 s2,A4 (.int (κ x)) u->AR X pins' σ H2 s2->AG H H2->R' u s2)->wpAny (model X.prog X.w) A (call (.ref f) [.int (x:Int) t]) R' (λ_ _=>False) s')
  (hR:∀H' s' keys e',AR X ((L,oL)::a6) σ H' s'->AG H H'->CS X ((L,oL)::a6) H' ks->s'.heap.get? ks=some (seqObj "list" keys e')->IntsAre keys.toList ((List.range n).map κ)->R ⟨⟩ s'):
  wpAny (model X.prog X.w) A (forIn vs PUnit.unit λx _=>do
    match <-(call (.ref f) [x]).attempt with
    |.ok k=>Builtin.List.listUpdate (.ref ks) (·.push k)
    |.error e =>
     rule "list.sort.key-raised"
     let made <-Builtin.List.listItems (.ref ks)
     Builtin.List.listUpdate (.ref ks) λ_=>#[]
     letGo made.toList.reverse [e]
     Builtin.List.listUpdate (.ref L) λ_=>vs.toArray;throw e
    pure (ForInStep.yield PUnit.unit)) R E s:=by
 have vl:vs.length=n:=by have:=hv.length;rw[this,Bx]
 refine wpAny_forIn_list _ (λrest _ s'=>∃(i:Nat) (H':Hp) (keys:Array qQ) (e':Nat),rest=vs.drop i/\i<=n/\AR X ((L,oL)::a6) σ H' s'/\AG H H'/\CS X ((L,oL)::a6) H' ks/\s'.heap.get? ks=some (seqObj "list" keys e')/\IntsAre keys.toList ((List.range i).map κ)) _ ?_ ?_ vs PUnit.unit ⟨0,H,#[],e,rfl,X4 _,I,AG.refl _,hk,hks,.nil⟩
 ·intro x rest _ s' hRq;refine byG λGq hGq=>?_;obtain⟨i,H',keys,e',hr,hi,I',hS,hk',hg,hK⟩:=hRq;refine hGq ?_;clear hGq Gq;have hlt:i<vs.length:=by apply Decidable.byContradiction;intro z;rw[List.drop_of_length_le (by lia)]at hr;cases hr
  obtain⟨t,ht⟩:∃t,vs[i]?=some (.int (i:Int) t):=by refine byG λGq hGq=>?_;obtain⟨u,hu,t,rt⟩:=(B4 hv).get (i:=i) (x:=.int (i:Int)) (by rw[Xl,Go (by lia)];rfl);refine hGq ?_;clear hGq Gq;exact⟨t,by rw[hu,rt]⟩
  have hx:x=.int (i:Int) t/\rest=vs.drop (i+1):=by
   rw[Zf hlt]at hr
   injection hr with h1 h2
   rw[Xj hlt]at ht;exact⟨h1.trans (Option.some.inj ht),h2⟩
  obtain⟨rfl,hr2⟩:=hx;refine byG λGq hGq=>?_;obtain⟨f0,f1,f2,f3,f4,f5⟩:=hk';refine hGq ?_;clear hGq Gq
  have Ip:AR X ((ks,seqObj "list" keys e')::(L,oL)::a6) σ H' s':=I'.pins_of λp hp=>by
   rcases X3.mp hp with z|z
   ·rw[z];exact⟨hg,f0,f1,f2,λv h=>by cases h⟩
   ·exact I'.pin p (Xv _ z)
  refine qC (wpAny_attempt (qM (hcall _ H' s' i t (λu s2=>A4 (.int (κ i)) u/\∃H2,AR X ((ks,seqObj "list" keys e')::(L,oL)::a6) σ H2 s2/\AG H H2) Ip hS (by lia) λu H2 s2 ru I2 hS2=>⟨ru,H2,I2,hS2⟩) ?_ λ_ _ z=>z.elim));intro u s2 hRq;refine byG λGq hGq=>?_;obtain⟨⟨t2,rfl⟩,H2,I2,hS2⟩:=hRq;refine hGq ?_;clear hGq Gq;refine byG λGq hGq=>?_;obtain⟨g2,n2,l2,x2,_⟩:=I2.pin _ (Xv _ X5);refine hGq ?_;clear hGq Gq;have I2':AR X ((L,oL)::a6) σ H2 s2:=I2.pins_of λp hp=>I2.pin p (Xv _ (Xw _ hp))
  have kl:keys.size=i:=by have z:=hK.length;rw[List.length_map,List.length_range]at z;simpa using z
  refine qC (listUpdate_at g2 rfl (qD ?_) (by rw[kl,sizeLine_eq];lia) (by rw[Array.size_push,kl,sizeLine_eq];lia));obtain⟨e3,g3⟩:=Hj g2 (λxs=>xs.push (.int (κ i) t2));refine⟨i+1,H2,_,e3,hr2,by lia,I2'.turned (t':=s2.toks) (λb o hb q=>by rw[Yr _ _ _ _ hb];exact q) n2 l2 f3 f4 f5,hS2,⟨n2,l2,x2,f3,f4,f5⟩,g3,?_⟩;rw[Array.toList_push,Yb,Xp];exact hK.append (.cons _ _ .nil)
 ·intro _ s' hRq;refine byG λGq hGq=>?_;obtain⟨i,H',keys,e',hr,hi,I',hS,hk',hg,hK⟩:=hRq;refine hGq ?_;clear hGq Gq;have:i=n:=by have z:=qP List.length hr;rw[Yp,aC]at z;lia
  subst this;exact hR H' s' keys e' I' hS hk' hg hK
theorem Ke{f L:qR}{n:Nat}{P:Fin->qS->Prop}{e:Nat}(I:AR X a6 σ H s)(hL:CS X a6 H L)(hg:s.heap.get? L=some (seqObj "list" vs.toArray e))(hv:IntsAre vs (ET n))(hn:n<=1000)
  (hcall:∀(pins':List (qR×Obj)) (H':Hp) (s':qS) (x:Nat) (t:Tok) (R':qQ->qS->Prop),AR X pins' σ H' s'->AG H H'->x<n->(∀u H2 s2,A4 (.int (κ x)) u->AR X pins' σ H2 s2->AG H H2->R' u s2)->wpAny (model X.prog X.w) A (call (.ref f) [.int (x:Int) t]) R' (λ_ _=>False) s')
  (hP:∀H' s' out ns e',AR X a6 σ H' s'->AG H H'->CS X a6 H' L->s'.heap.get? L=some (seqObj "list" out e')->IntsAre out.toList ns->ns.Perm (ET n)->P (.done (.ret .none)) s'):
  wpAny (model X.prog X.w) A (Builtin.«list.sort» ⟨[.ref L],[(Str.ofString "key",.ref f)]⟩) P E s:=by
 have vl:vs.length=n:=by have:=hv.length;rw[this,Bx]
 rw[IF];obtain⟨e1,g1⟩:=Hj hg (λ_=>#[]);refine qC (listItems_at hg rfl (qC (listUpdate_at hg rfl (qC (seqEpoch_at g1 rfl (qC (wpAny_newTuple (qC (wpAny_newList (qO ?_))) (by rw[vl,sizeLine_eq];lia))))) (by rw[YS,vl,sizeLine_eq];lia) (by rw[sizeLine_eq];decide))));refine byG λGq hGq=>?_;obtain⟨f0,f1,f2,f3,f4,f5⟩:=hL;refine hGq ?_;clear hGq Gq;have lt:=Xm hg;obtain⟨h3,hh3⟩:∃h3,h3=((s.heap.update L (Obj.mapSeq λ_=>#[])).push (seqObj "tuple" vs.toArray 0)).push (seqObj "list" #[] 0):=⟨_,rfl⟩;obtain⟨ks,hks⟩:∃ks,ks=((s.heap.update L (Obj.mapSeq λ_=>#[])).push (seqObj "tuple" vs.toArray 0)).objs.size:=⟨_,rfl⟩;have gL:h3.get? L=some (seqObj "list" #[] e1):=by rw[hh3];exact Xh _ (Xh _ g1)
 have gk:h3.get? ks=some (seqObj "list" #[] 0):=by rw[hh3,hks];exact Xs _ rfl
 have sk:s.heap.objs.size<=ks:=by rw[hks,size_push',Heap.size_update];exact ZD _
 have ko:∀b o,b≠L->s.heap.get? b=some o->h3.get? b=some o:=λb o hb q=>by rw[hh3];exact Xh _ (Xh _ (by rw[Yr _ _ _ _ hb];exact q))
 have I3:AR X a6 σ H {s with heap:=h3}:=I.turned (t':=s.toks) ko f0 f1 f3 f4 f5
 have I4:AR X ((L,seqObj "list" #[] e1)::a6) σ H {s with heap:=h3}:=I3.pins_of λp hp=>by
  rcases X3.mp hp with z|z
  ·rw[z];exact⟨gL,f0,f1,f2,λv h=>by cases h⟩
  ·exact I3.pin p (Xv _ z)
 have fk:CS X ((L,seqObj "list" #[] e1)::a6) H ks:=by
  refine byG λGq hGq=>?_;obtain⟨k0,k1,k2,k3,k4,k5⟩:=I.fpOk sk (I.hok.fresh sk);refine hGq ?_;clear hGq Gq;refine⟨k0,k1,k2,k3,k4,λp hp=>?_⟩;rcases Xr.mp hp with z|z
  ·exact k5 p (Yw _ z)
  ·rcases X3.mp z with y|y
   ·rw[y];exact YA (Xn lt sk)
   ·exact k5 p (Xv _ y)
 have kne:ks≠L:=λz=>fk.2.2.2.2.2 _ (Xv _ X5) z.symm
 show wpAny (model X.prog X.w) A _ P E {s with heap:=((s.heap.update L (Obj.mapSeq λ_=>#[])).push (seqObj "tuple" vs.toArray 0)).push (seqObj "list" #[] 0)};rw[<-hh3,<-hks];refine qC (wpAny_rule (qC ?_));rw[<-Array.forIn_toList];refine Tl I4 fk gk hv hn hcall λH5 s5 keys e5 I5 hS5 fk5 gk5 hK=>?_;have kl:keys.size=n:=by have z:=hK.length;rw[List.length_map,List.length_range]at z;simpa using z
 refine byG λGq hGq=>?_;obtain⟨gL5,nL5,lL5,xL5,_⟩:=I5.pin _ (Xv _ X5);refine hGq ?_;clear hGq Gq;have I5':AR X a6 σ H5 s5:=I5.pins_of λp hp=>I5.pin p (Xv _ (Xw _ hp))
 refine byG λGq hGq=>?_;obtain⟨n5,l5,x5,y5,c5,p5⟩:=fk5;refine hGq ?_;clear hGq Gq;refine qC (listItems_at gk5 rfl ?_)
 have fin:∀(st:SortSt),(arrOf st).toList.Perm (keys.zip vs.toArray).toList->failedOf st=none->wpAny (model X.prog X.w) A (do
   Builtin.List.listUpdate (.ref ks) λ_=>#[]
   letGo ((arrOf st).map (·.1)).toList (failedOf st).toList
   let touched:=(<-seqEpoch L) != e1
   Builtin.List.listUpdate (.ref L) λ_=>(arrOf st).map (·.2)
   if let some e:=failedOf st then rule "list.sort.comparison-raised";throw e
   if touched then rule "list.sort.modified";raiseError "ValueError" "list modified during sort"
   ret .none) P E s5:=λst hp hf=>by
  have pl:((arrOf st).map (·.2)).toList.Perm vs:=by have z:=hp.map (·.2);rw[Array.toList_zip,List.map_snd_zip (by simp[kl,vl])]at z;rw[Array.toList_map];exact z
  have al:((arrOf st).map (·.2)).size=n:=by have z:=pl.length_eq;rw[vl]at z;simpa using z
  refine qC (listUpdate_at gk5 rfl (qC (wpAny_letGo ?_)) (by rw[kl,sizeLine_eq];lia) (by rw[sizeLine_eq];decide));have I6:AR X a6 σ H5 {s5 with heap:=s5.heap.update ks (Obj.mapSeq λ_=>#[])}:=I5'.turned (t':=s5.toks) (λb o hb q=>by rw[Yr _ _ _ _ hb];exact q) n5 l5 y5 c5 λp hp=>p5 p ((Xr.mp hp).elim (Yw _) λz=>Xv _ (Xw _ z))
  have gL6:(s5.heap.update ks (Obj.mapSeq λ_=>#[])).get? L=some (seqObj "list" #[] e1):=by rw[Yr _ _ _ _ (Ne.symm kne)];exact gL5
  refine qC (seqEpoch_at gL6 rfl (qC (listUpdate_at gL6 rfl ?_ (by rw[sizeLine_eq];decide) (by rw[al,sizeLine_eq];lia))));rw[hf];simp only[bne_self_eq_false,Bool.false_eq_true,if_false];obtain⟨e7,g7⟩:=Hj gL6 (λ_=>(arrOf st).map (·.2));have I7:AR X a6 σ H5 {s5 with heap:=(s5.heap.update ks (Obj.mapSeq λ_=>#[])).update L (Obj.mapSeq λ_=>(arrOf st).map (·.2))}:=I6.turned (t':=s5.toks) (λb o hb q=>by rw[Yr _ _ _ _ hb];exact q) nL5 f1 f3 f4 f5
  obtain⟨ns,hns,pn⟩:∃ns,IntsAre ((arrOf st).map (·.2)).toList ns/\ns.Perm (ET n):=by
   obtain⟨zs,pz,vz⟩:=Nd pl (B4 hv);refine⟨zs.map λv=>match v with|.int a=>a|_=>0,?_,?_⟩
   ·refine Ch ?_;rw[Za,show zs.map (V.int∘λv=>match v with|.int a=>a|_=>0)=zs from ?_]
    ·exact vz
    ·refine (YW λv hv=>?_).trans (List.map_id _);obtain⟨a,_,rfl⟩:=Xy.mp (pz.mem_iff.mp hv);rfl
   ·have z:=pz.map λv=>match v with|.int a=>a|_=>(0:Int)
    rw[Za]at z;exact z.trans (by rw[show (ET n).map ((λv=>match v with|V.int a=>a|_=>(0:Int))∘V.int)=ET n from (YW λ_ _=>rfl).trans (List.map_id _)])
  exact qD (hP H5 _ _ ns e7 I7 hS5 ⟨nL5,f1,f2,f3,f4,f5⟩ g7 hns pn)
 by_cases h2:vs.toArray.size<2
 ·rw[qF h2,qF h2];refine qC (qD ?_);dsimp only;rw[StateT.run_pure];exact qC (qD (fin _ (.refl _) rfl))
 ·rw[qE h2,qE h2];rw[YS,vl]at h2
  obtain⟨v₁,v₂,rest,hke⟩:∃v₁ v₂ rest,keys.toList=v₁::v₂::rest:=by
   have kl2:keys.toList.length=n:=by rw[X0];exact kl
   exact Tk (by lia)
  have hka:keys=(v₁::v₂::rest).toArray:=by rw[<-hke]
  have kk:keyKind' keys=pure oneType':=by rw[hka];exact keyKind_ints (by rw[<-hke];exact hK)
  rw[kk];refine qC (qD ?_);obtain⟨a₀,ea⟩:∃a₀,a₀=keys.zip vs.toArray:=⟨_,rfl⟩;rw[<-ea]at fin⊢
  refine qC (qM (Mi (k:=oneType') (a₀:=a₀) (κ:=λx=>numOf x.1) (st:=SortSt.mk' oneType' a₀ #[] 7 none)
   (Q:=λ_ t=>(arrOf t).toList.Perm a₀.toList/\failedOf t=none) (Pd λx hx=>?_) ⟨rfl,rfl,rfl,rfl⟩ λys q t X p S=>⟨by rw[X.ar];exact p,X.fl⟩) ?_ λ_ _ e=>e)
  ·rw[ea,Array.toList_zip]at hx;exact hK.all x.1 (ZX (show (x.1,x.2)∈_ from hx)).1
  ·rintro⟨⟨⟩,t⟩ s' ⟨rfl,hp,hf⟩;exact fin t hp hf
end
noncomputable def Tn(x:Str):Str:=x++".<locals>."++"<lambda>"
def RP(P:qT)(w:qU)(K:qV)(mg:Str->Option qQ)(base:Heap)(k:Nat)(cl:List (Str×qR))(is:List Nat)(ta tl:TA):TE:=λσ H Q=>ta σ H λvs H1=>∃n:Nat,vs=[.int (n:Int)]/\n<=1000/\tl σ H1 λws H2=>∃(f:qR) (Cd:List V) (κ:Nat->Int),ws=[.ref f]/\At σ is Cd/\VO P w K mg base k f cl Cd κ n H2 /\
 ∀(D:qR) (zs:qW) (H':Hp),AG H2 H'->H2 D=none->H' D=some (.lst (zs.map V.int))->zs.Perm (ET n)->Q (.ref D) H'
theorem No{k:Nat}{l v:Expr}{tl:TA}{p1 p2 pos1 pos2 kpos:Pos}{is:List Nat}(hc:X.calm=true)(hx:X.ex=[])(hr:Bg (k+2) X.A)(hg:Gl X "range")(hm:X.mg "range"=none)(hg2:Gl X "sorted")(hm2:X.mg "sorted"=none)(ha:PA X [l] ta)(hk:PK X [⟨some "key",v,kpos⟩] tl)
  (hcl:Paired (λ(i:Nat) (q:Str×qR)=>X.N[i]?=some q.1/\X.env.kindOf q.1=some .cell/\X.env.cells.lookup q.1=some q.2/\X.fn q.1=true) is cl)
  (hs:starEach [l] X.env=[(false,eval l X.env)]:=by rfl)
  (hs1:backTo pos2 (starEach [.Call (.Name "range" p1) [l] [] pos1] X.env)=(false,eval (.Call (.Name "range" p1) [l] [] pos1) X.env)::backTo pos2 (starEach [] X.env):=by rfl) (hs2:(backTo pos2 (starEach [.Call (.Name "range" p1) [l] [] pos1] X.env)).any (·.1)=false:=by rfl) (hall:(backToKw pos2 (keywordEach [⟨some "key",v,kpos⟩] X.env)).all (·.1.isSome)=true:=by rfl) (hks:(backToKw pos2 (keywordEach [⟨some "key",v,kpos⟩] X.env)).filterMap (·.1)=[Str.ofString "key"]:=by rfl)
  (hkw:(backToKw pos2 (keywordEach [⟨some "key",v,kpos⟩] X.env)).any (·.1.isNone)=false:=by rfl):
  PE X (.Call (.Name "sorted" p2) [.Call (.Name "range" p1) [l] [] pos1] [⟨some "key",v,kpos⟩] pos2) (RP X.prog X.w X.K X.mg X.base k cl is ta tl):=by
 intro a6 s σ H Q I h;refine wpAny_Call_Name_kw (Ck I hg2 hm2 PyProof.Rows.boot_sorted ?_);refine callWith_kw ?_ hs1 hs2 hall hkw;rw[hs1];refine Calls.spliced_cons (Call_ (Ck I hg hm boot_range (YU (BJ (ha pos1 a6 s σ H _ I h) λus s1 z9=>?_) hs rfl)));obtain⟨vs,H1,I1,r1,q1⟩:=z9;refine byG λGq hGq=>?_;obtain⟨n,e,n1,q⟩:=q1;refine hGq ?_;clear hGq Gq;subst e;cases r1 with
 |cons r rr =>
  cases rr;obtain⟨t,rfl⟩:=r;refine call_range_1 (Calls.spliced_nil ?_);have sm:Builtin.Range.small 0 (n:Int) 1=true:=small_one (by lia) (by lia) (by lia) (by lia);obtain⟨ro,hro⟩:∃ro:Obj,ro={cls:=.type "range",data:=.fields #[.int 0 s1.toks,.int (n:Int) t,.int 1 (s1.toks+1)]}:=⟨_,rfl⟩;rw[<-hro];obtain⟨a,ha0⟩:∃a,a=s1.heap.objs.size:=⟨_,rfl⟩;have I1':AR X a6 σ H1 {s1 with heap:=s1.heap.push ro,toks:=s1.toks+1+1}:=I1.kept (t':=s1.toks+1+1) λb o z=>Xh _ z
  have ga:(s1.heap.push ro).get? a=some ro:=by rw[ha0,hro];exact Xs _ rfl
  refine byG λGq hGq=>?_;obtain⟨b0,b1,b2,b3,b4,b5⟩:=I1.fpOk (aH ha0.symm) (I1.hok.fresh (aH ha0.symm));refine hGq ?_;clear hGq Gq
  have Ip:AR X ((a,ro)::a6) σ H1 {s1 with heap:=s1.heap.push ro,toks:=s1.toks+1+1}:=I1'.pins_of λp hp=>by
   rcases X3.mp hp with z|z
   ·rw[z];exact⟨ga,b0,b1,b2,λv h=>by rw[hro]at h;cases h⟩
   ·exact I1'.pin p (Xv _ z)
  refine BJ (hk pos2 _ _ σ H1 _ Ip q) λws s2 z9=>?_;obtain⟨zs,H2,I2p,rz,f,Cd,κ,hz,hAt,hF,qf⟩:=z9;subst hz;obtain⟨u,rfl,ru⟩:=E4 rz;obtain rfl:u=Value.ref f:=ru;rw[hks];obtain⟨ga2,_⟩:=I2p.pin _ (Xv _ X5);have I2:AR X a6 σ H2 s2:=I2p.pins_of λp hp=>I2p.pin p (Xv _ (Xw _ hp))
  rw[<-ha0];show wpAny _ _ (call (.builtin "sorted") [.ref a] [(Str.ofString "key",.ref f)]) _ _ _;refine call_function_entry_kw kind_sorted plain_sorted entry_sorted (GK _ _) ?_;unfold Builtin.«sorted»
  have ir:IsRange s2.heap a 0 (n:Int) 1 s1.toks t (s1.toks+1):=by have z:=ga2;rw[hro]at z;exact z
  refine qC (m:=checkCount "sorted" 1 1 _) (qD (qC (collect_rng (A:=X.A.in1) (I.ok.hd hc) ir sm (n:=n) (by rw[rangeSize_one];split<;>lia) (by lia) λh3 tk ad k3 hacc=>?_)))
  have hv:IntsAre ad.toList (ET n):=Ch (ME (by rw[Xf,Bx,X0,hacc.1]) λi x u e1 e2=>by
   have hi:i<n:=by have z:=(Xg.mp e1).1;rw[Xf,Bx]at z;exact z
   rw[Xl,Go hi]at e1;cases e1;obtain⟨t',z⟩:=hacc.2 i u (by simpa using e2);exact⟨t',by rw[z,YJ,Int.mul_one]⟩)
  refine qC (wpAny_newList ?_ (by rw[X0,hacc.1,sizeLine_eq];lia));have gL:(h3.push (seqObj "list" ad.toList.toArray 0)).get? h3.objs.size=some (seqObj "list" ad.toList.toArray 0):=Xs _ rfl;obtain⟨L,hL0⟩:∃L,L=h3.objs.size:=⟨_,rfl⟩;have I3:AR X a6 σ H2 {s2 with heap:=h3,toks:=tk}:=I2.kept (t':=tk) k3;have I4:AR X a6 σ H2 {s2 with heap:=h3.push (seqObj "list" ad.toList.toArray 0),toks:=tk}:=I3.kept (t':=tk) λb o z=>Xh _ z
  have fL:CS X a6 H2 L:=I3.fpOk (aH hL0.symm) (I3.hok.fresh (aH hL0.symm));have nL:X.s₀.heap.objs.size<=L:=by rw[hL0];exact I3.sz
  rw[<-hL0]at gL;show wpAny _ _ (holding [.ref h3.objs.size] (call (.builtin "list.sort") [.ref h3.objs.size] [(Str.ofString "key",.ref f)]) >>= _) _ _ {s2 with heap:=h3.push (seqObj "list" ad.toList.toArray 0),toks:=tk};rw[<-hL0];refine byG λGq hGq=>?_;obtain⟨fd,ps,sp,F,hb,hsp⟩:=hF;refine hGq ?_;clear hGq Gq;refine qC (qO (wpAny_call_entry_kw slot_list_sort ⟨_,gL,rfl⟩ entry_list_sort (Ke (A:=X.A.in1.in1) (κ:=κ) (n:=n) I4 fL gL hv n1 (λpins' H' s' x t' R' I' hS hx hR'=>?_) λH' s' out ns e' I' hS fL' gL' hns hp=>⟨_,rfl,qD ⟨_,rfl,?_⟩⟩) (Ev _ _)))
  ·have rm:Bg k X.A.in1.in1:=Bg.in1 (Bg.in1 hr);refine Nm F hb rm rfl hcl hAt I' (vs:=[.int (x:Int)]) (.cons ⟨t',rfl⟩ .nil) (Q':=λv HE=>v=.int (κ x)/\AG H2 (Ie cl HE)) (λHC e1 hn ck ho=>hsp x hx H' HC _ hS e1 ck ho hn λHE eE=>⟨rfl,hS.trans (Pi hn (e1.trans eE))⟩) ?_;rintro v u HE s3 rv I3' ⟨rfl,hE⟩;exact hR' u _ s3 rv I3' hE
  ·have z:=hns.length;rw[hp.length_eq,Bx,X0]at z;have nx:L∉X.ex:=by rw[hx];exact X7
   refine⟨.ref L,AT H' L (.lst (ns.map V.int)),I'.adopt fL' nx nL ⟨by rw[Xf,hp.length_eq,Bx,sizeLine_eq];lia,out.toList,e',B4 hns,by rw[Array.toArray_toList];exact gL'⟩,rfl,qf L ns _ (hS.into fL.1) fL.1 AE hp⟩
noncomputable def Po:Expr->Option Int
 |.Constant (.int i) _ _=>some i
 |_=>none
noncomputable def Fw:List Expr->Option (qW)
 |[]=>some []
 |e::es=>(Po e).bind λi=>(Fw es).map (i::·)
def VP(ns:qW):TA:=λ_ H Q=>Q (ns.map V.int) H
theorem Pp{e:Expr}{i:Int}(h:Po e=some i):∃j pos,e=.Constant (.int i) j pos:=by
 cases e with
 |Constant c j pos =>
  cases c with
  |int k=>cases h;exact⟨_,_,rfl⟩
  |_=>cases h
 |_=>cases h
theorem RQ:∀{ns:qW},Fw es=some ns->PA X es (VP ns):=by
 induction es with
 |nil =>
  intro ns h;cases h;exact AD
 |cons e es ih =>
  intro ns h;obtain⟨i,h0,h⟩:=Option.bind_eq_some_iff.mp (show (Po e).bind _=some ns from h);obtain⟨j,pos,rfl⟩:=Pp h0;obtain⟨ms,h1,rfl⟩:=Xz.mp h;intro p a6 s σ H Q I hq;exact AA (X:=X) (e:=.Constant (.int i) j pos) (AC (X:=X)) (ih h1) (by rfl) p a6 s σ H Q I hq
def To(ns:qW):TE:=λ_ H Q=>ns.length<=sizeLine/\∀p,H p=none->Q (.ref p) (AT H p (.lst (ns.map V.int)))
theorem RS{ns:qW}(h:Fw es=some ns):PE X (.List es pos) (To ns):=λa6 s σ H Q I hq =>
 Aw (RQ h) a6 s σ H Q I (by show (ns.map V.int).length<=sizeLine/\_;rw[Xf];exact hq)
theorem VQ{ss:List Stmt}(h:∃t,FG X ss t/\t D σ H):∃t,F6 X ss t/\t D σ H:=by obtain⟨t,a,b⟩:=h;exact⟨t,FG.out a,b⟩
theorem Np:Ec X (compareOp .IsNot) (λx y H Q=>∃b c:Bool,x=.bl b/\y=.bl c/\Q (.bl (!decide (b=c))) H):=by
 intro a6 s σ H x y v u Q I rx ry h;refine byG λGq hGq=>?_;obtain⟨b,c,rfl,rfl,q⟩:=h;refine hGq ?_;clear hGq Gq;cases rx;cases ry;have e:compareOp .IsNot (.bool b) (.bool c)=pure (.bool (!decide (b=c))):=by cases b<;>cases c<;>rfl
 rw[e];exact qD ⟨.bl _,H,I,rfl,q⟩
end L2
namespace L2
open PySem PySem.Spec PyProof.Rows RW
variable{G j mf:Nat}{H H':Hp}{M:List (qX)}{S:qX->qX->Prop}{X:Cx}{a:qR}{f:qX->Nat}{lf low':Int}{p q:qX}{st:Stmt}{a7 tf:qW}
def Tp:TS:=λ_ _ _=>False
theorem Dm:PS X st Tp:=λ_ _ _ _ _ _ h=>h.elim
inductive FV(K:qV)(vs:List V)(H:Hp)(Q:VK)(z3_:XK):Prop
 |m (a:qR) (xs:List V) (g:Int):vs=[.ref a,.int g]->Af K H a xs->(∀x∈xs,Kd H x)->(match B8 g xs with|none=>∀H',AG H H'->Q .non H'|some _=>False)->FV K vs H Q z3_
inductive ED(K:qV)(vs:List V)(H:Hp)(Q:VK)(z3_:XK):Prop
 |m (a:qR) (xs:List V) (g:Int) (m:Nat):vs=[.ref a,.int g,.int ((m:Nat):Int)]->Af K H a xs->(∀x∈xs,Kd H x)->(match D1 g m xs with|none=>∀H',AG H H'->Q .non H'|some _=>False)->ED K vs H Q z3_
inductive Fx(K:qV)(vs:List V)(H:Hp)(Q:VK)(z3_:XK):Prop
 |m (a:qR) (xs:List V) (g:Int):vs=[.ref a,.int g]->2<=g->g<=9->Af K H a xs->(∀x∈xs,Kd H x)->(match B8 g xs with|none=>∀ns:qW,xs=ns.map V.int->∀H',AG H H'->Q (.int (BM g ns)) H'|some _=>False)->Fx K vs H Q z3_
inductive JX(K:qV)(vs:List V)(H:Hp)(Q:VK)(z3_:XK):Prop
 |m (r a:qR) (g lo:Int) (a7:qW) (m:Nat) (xs:List V):vs=[.ref r,.ref a]->2<=g->g<=9->BV H r g lo a7->(a7.length:Int)=g^m->Af K H a xs->(∀x∈xs,Kd H x)->(match D1 g m xs with|none=>∀ns:qW,xs=ns.map V.int->∀H',AG H H'->Q (.int (a7.getD (BM g ns).toNat 0)) H'|some _=>False)->JX K vs H Q z3_
inductive JY(vs:List V)(H:Hp)(Q:VK)(z3_:XK):Prop
 |m (n g m:Int):vs=[.int n,.int g,.int m]->2<=g->g<=9->0<=m->m<=300->((n<0\/g^m.toNat<=n)->False)->(0<=n->n<g^m.toNat->∀r H',Qw H H' r (RW.Cy g n m.toNat).reverse->Q (.ref r) H')->JY vs H Q z3_
inductive JZ(vs:List V)(H:Hp)(Q:VK)(z3_:XK):Prop
 |m (g lo:Int):vs=[.int g,.int lo]->2<=g->g<=9->Q .non H->JZ vs H Q z3_
inductive Lj(vs:List V)(H:Hp)(Q:VK)(z3_:XK):Prop
 |m (g:Int) (a:qR) (a7:qW) (m:Nat):vs=[.int g,.ref a]->2<=g->g<=9->1<=m->(a7.length:Int)=g^m->g^m<=256->(∀n∈a7,0<=n/\n<g)->H a=some (.lst (a7.map V.int))->(∀H',AG H H'->Q .non H')->Lj vs H Q z3_
inductive Ja(vs:List V)(H:Hp)(Q:VK)(z3_:XK):Prop
 |m (g lo:Int) (a:qR) (a7:qW) (m:Nat):vs=[.int g,.int lo,.ref a]->2<=g->g<=9->1<=m->(a7.length:Int)=g^m->g^m<=256->(∀n∈a7,0<=n/\n<g)->H a=some (.lst (a7.map V.int))->(∀r' H',AG H H'->BV H' r' g lo a7->Q (.ref r') H')->Ja vs H Q z3_
theorem Lk{g lo:Int}{m:Nat}{Q:VK}{E:XK}(g2:2<=g)(g9:g<=9)(m1:1<=m)(len:(a7.length:Int)=g^m)(sz:g^m<=256)(tb:∀n∈a7,0<=n/\n<g)(hs:H a=some (.lst (a7.map V.int))\/False)
  (q:∀r' H',AG H H'->BV H' r' g lo a7->Q (.ref r') H'):Ja [.int g,.int lo,.ref a] H Q E:=by
 obtain hs|z:=hs
 ·exact⟨g,lo,a,a7,m,rfl,g2,g9,m1,len,sz,tb,hs,q⟩
 ·exact z.elim
noncomputable def EZ(k g s h t:Nat):Nat:=
 if k=1 then h/s*s+t%s
 else if k=2 then (if h=g-1\/t≠g-1 then h else (h+s)%(g-1))
 else if k=4 then (s/16*h+s%16*t)%g
 else if k=5 then (h/4+t/2)%2*4+(h/2+t)%2*2+h%2
 else if h<2 then (h+if t=3 then 1 else 0)%2 else if h<g-1/\t=g-1 then 2+(h-1)%(g-3) else h
noncomputable def Ca(k g s d a:Nat):Nat:=
 if k=3 then
  if s%2=0 then (a/4%2+if a/8%2=s/2/\a/2%2=1-s/2/\a%2=s/2 then 1 else 0)%2
  else (a/2%2+if a/8%2=s/2/\a/4%2=1-s/2/\a%2=s/2 then 1 else 0)%2
 else if d=0 then EZ k g s (a/g) (a%g) else EZ k g s (a%g) (a/g)
structure Bd where
 k:Nat
 g:Nat
 s:Nat
 d:Nat
 h:Nat
 R:Nat
 e:Nat
 top:Nat
 ch:List (qX)
noncomputable def Ll (n:Nat) (f:Nat->Bool):Bool:=Nat.rec true (λi r=>cond (f i) r false) n
noncomputable def RT (n:Nat) (f:Nat->Bool):Bool:=Nat.rec false (λi r=>cond (f i) true r) n
theorem Di{f:Nat->Bool}:∀{n:Nat},Ll n f=true->∀i,i<n->f i=true
 |n+1,h,i,hi=>by
  have h:cond (f n) (Ll n f) false=true:=h;cases e:f n with
  |false=>rw[e]at h;cases h
  |true =>
   rw[e]at h;rcases Nat.lt_succ_iff_lt_or_eq.mp hi with z|z
   ·exact Di h i z
   ·rw[z];exact e
theorem Jb{f:Nat->Bool}:∀{n:Nat},RT n f=true->∃i,i<n/\f i=true
 |0,h=>by cases h
 |n+1,h=>by
  have h:cond (f n) true (RT n f)=true:=h;cases e:f n with
  |true=>exact⟨n,Nat.lt_succ_self n,e⟩
  |false =>
   rw[e]at h;obtain⟨i,hi,z⟩:=Jb h;exact⟨i,Zz hi,z⟩
noncomputable def Bd.tab (c:Bd):Nat:=Nat.rec 0 (λi r=>Nat.lor r (Nat.shiftLeft (Ca c.k c.g c.s c.d i) (4*i))) (c.h*c.g)
noncomputable def Bd.t (c:Bd) (a:Nat):Nat:=Nat.land (Nat.shiftRight c.tab (4*a)) 15
noncomputable def Bd.r (c:Bd) (x y:Nat):Nat:=cond (Nat.beq x y) c.e (Nat.land (Nat.shiftRight c.R (3*(x*c.h+y))) 7)
noncomputable def Bd.on (c:Bd):List (qX)->Bool
 |[]=>true
 |[_]=>true
 |p::q::l=>Nat.beq (p.1%c.h) (q.1/c.g)&&Nat.beq (p.2%c.h) (q.2/c.g)&&c.on (q::l)
noncomputable def Bd.ok (c:Bd):Bool:=
 Ll (c.h*c.g) (λa=>Nat.beq (c.t a) (Ca c.k c.g c.s c.d a)&&Nat.blt (c.t a) c.g) &&
 RT (c.h*c.g) (λa=>!(Nat.beq (c.t a) (c.t (a%c.h))))&&RT (c.h*c.g) (λa=>!(Nat.beq (c.t a) (c.t (a/c.g*c.g)))) &&
 Ll (c.h*c.g) (λa=>Ll (c.h*c.g) λb=>Nat.beq a b||!(Nat.beq (c.t a) (c.t b))||Nat.blt (c.r (a/c.g) (b/c.g)) (c.r (a%c.h) (b%c.h))) &&
 Ll c.h (λx=>Ll c.h λy=>Nat.ble (c.r x y) c.top)&&Nat.ble c.e c.top &&
 c.ch.all (λp=>Nat.blt p.1 (c.h*c.g)&&Nat.blt p.2 (c.h*c.g)&&!(Nat.beq p.1 p.2)&&Nat.beq (c.t p.1) (c.t p.2))&&c.on c.ch
noncomputable def Dj:List Bd:=[
 ⟨1,4,2,0,4,0x10002400080,1,2,[]⟩,
 ⟨1,4,2,1,4,0x80400002010,1,2,[]⟩,
 ⟨1,6,2,0,6,0x10400082400402002410002080,1,2,[]⟩,
 ⟨1,6,2,1,6,0x80010000002000400000080010,1,2,[]⟩,
 ⟨1,6,3,0,6,0x2000010000090000080000400,1,2,[]⟩,
 ⟨1,6,3,1,6,0x90010400480000012002080090,1,2,[]⟩,
 ⟨1,8,2,0,8,0x10410002082400410080082410010082002410400082080,1,2,[]⟩,
 ⟨1,8,2,1,8,0x80000400000002000010000000080000400000002000010,1,2,[]⟩,
 ⟨1,8,4,0,8,0x400000080000010000002400000080000010000002000,1,2,[]⟩,
 ⟨1,8,4,1,8,0x92000412000482000490000000092000412000482000490,1,2,[]⟩,
 ⟨1,9,3,0,9,0x10080000402000010090000400400010010000480400002010000080400,1,2,[]⟩,
 ⟨1,9,3,1,9,0x480000410000090000000012000010400002400000000480000410000090,1,2,[]⟩,
 ⟨2,3,1,0,3,0x490288,0,2,[]⟩,
 ⟨2,3,1,1,3,0x208,2,2,[]⟩,
 ⟨2,4,1,0,4,0x92409441448,0,2,[]⟩,
 ⟨2,4,1,1,4,0x9041048,2,2,[]⟩,
 ⟨2,4,2,0,4,0x92409441448,0,2,[]⟩,
 ⟨2,4,2,1,4,0x9041048,2,2,[]⟩,
 ⟨2,5,1,0,5,0x49240928825120a248,0,2,[]⟩,
 ⟨2,5,1,1,5,0x8208200208208,2,2,[]⟩,
 ⟨2,5,2,0,5,0x49240928825120a248,0,2,[]⟩,
 ⟨2,5,2,1,5,0x1000041000040,2,2,[]⟩,
 ⟨2,5,3,0,5,0x49240928825120a248,0,2,[]⟩,
 ⟨2,5,3,1,5,0x8208200208208,2,2,[]⟩,
 ⟨2,6,1,0,6,0x92490249441251209449051248,0,2,[]⟩,
 ⟨2,6,1,1,6,0x201041000208001041008,2,2,[]⟩,
 ⟨2,6,2,0,6,0x92490249441251209449051248,0,2,[]⟩,
 ⟨2,6,2,1,6,0x48000241001048000240,2,2,[]⟩,
 ⟨2,6,3,0,6,0x92490249441251209449051248,0,2,[]⟩,
 ⟨2,6,3,1,6,0x48000241001048000240,2,2,[]⟩,
 ⟨2,6,4,0,6,0x92490249441251209449051248,0,2,[]⟩,
 ⟨2,6,4,1,6,0x201041000208001041008,2,2,[]⟩,
 ⟨2,7,1,0,7,0x49249024928824944824a248251248289248,0,2,[]⟩,
 ⟨2,7,1,1,7,0x200208200008200008200008208008,2,2,[]⟩,
 ⟨2,7,2,0,7,0x49249024928824944824a248251248289248,0,2,[]⟩,
 ⟨2,7,2,1,7,0x41000041040040040041040001040,2,2,[]⟩,
 ⟨2,7,3,0,7,0x49249024928824944824a248251248289248,0,2,[]⟩,
 ⟨2,7,3,1,7,0x8000008000008200000200000200,2,2,[]⟩,
 ⟨2,7,4,0,7,0x49249024928824944824a248251248289248,0,2,[]⟩,
 ⟨2,7,4,1,7,0x41000041040040040041040001040,2,2,[]⟩,
 ⟨2,7,5,0,7,0x49249024928824944824a248251248289248,0,2,[]⟩,
 ⟨2,7,5,1,7,0x200208200008200008200008208008,2,2,[]⟩,
 ⟨4,9,19,0,9,0x48a45241229149048a44a41229229048a48a41225229049148a412452290,0,2,[]⟩,
 ⟨4,9,19,1,9,0x8040000201000008048000200200008008000240200001008000040200,2,2,[]⟩,
 ⟨4,9,22,0,9,0x48a45241229149048a44a41229229048a48a41225229049148a412452290,0,2,[]⟩,
 ⟨4,9,22,1,9,0x8040000201000008048000200200008008000240200001008000040200,2,2,[]⟩,
 ⟨4,9,35,0,9,0x48a45241229149048a44a41229229048a48a41225229049148a412452290,0,2,[]⟩,
 ⟨4,9,35,1,9,0x8040000201000008048000200200008008000240200001008000040200,2,2,[]⟩,
 ⟨4,9,38,0,9,0x48a45241229149048a44a41229229048a48a41225229049148a412452290,0,2,[]⟩,
 ⟨4,9,38,1,9,0x8040000201000008048000200200008008000240200001008000040200,2,2,[]⟩,
 ⟨4,9,67,0,9,0x48a45241229149048a44a41229229048a48a41225229049148a412452290,0,2,[]⟩,
 ⟨4,9,67,1,9,0x8040000201000008048000200200008008000240200001008000040200,2,2,[]⟩,
 ⟨4,9,70,0,9,0x48a45241229149048a44a41229229048a48a41225229049148a412452290,0,2,[]⟩,
 ⟨4,9,70,1,9,0x8040000201000008048000200200008008000240200001008000040200,2,2,[]⟩,
 ⟨4,9,83,0,9,0x48a45241229149048a44a41229229048a48a41225229049148a412452290,0,2,[]⟩,
 ⟨4,9,83,1,9,0x8040000201000008048000200200008008000240200001008000040200,2,2,[]⟩,
 ⟨4,9,86,0,9,0x48a45241229149048a44a41229229048a48a41225229049148a412452290,0,2,[]⟩,
 ⟨4,9,86,1,9,0x8040000201000008048000200200008008000240200001008000040200,2,2,[]⟩,
 ⟨4,9,115,0,9,0x48a45241229149048a44a41229229048a48a41225229049148a412452290,0,2,[]⟩,
 ⟨4,9,115,1,9,0x8040000201000008048000200200008008000240200001008000040200,2,2,[]⟩,
 ⟨4,9,118,0,9,0x48a45241229149048a44a41229229048a48a41225229049148a412452290,0,2,[]⟩,
 ⟨4,9,118,1,9,0x8040000201000008048000200200008008000240200001008000040200,2,2,[]⟩,
 ⟨4,9,131,0,9,0x48a45241229149048a44a41229229048a48a41225229049148a412452290,0,2,[]⟩,
 ⟨4,9,131,1,9,0x8040000201000008048000200200008008000240200001008000040200,2,2,[]⟩,
 ⟨4,9,134,0,9,0x48a45241229149048a44a41229229048a48a41225229049148a412452290,0,2,[]⟩,
 ⟨4,9,134,1,9,0x8040000201000008048000200200008008000240200001008000040200,2,2,[]⟩,
 ⟨4,8,18,0,8,0xd32d361a65a4c34cb6986992d30d365a61a4cb4c3699698,0,3,[(0,4),(0,34),(0,19)]⟩,
 ⟨4,8,18,1,8,0x8408001081200210040042408008081001210200042040,3,3,[(0,14),(0,52),(0,32)]⟩,
 ⟨4,8,20,0,8,0x8a28a41145128228a45045128a08a45141128a282451450,0,2,[]⟩,
 ⟨4,8,20,1,8,0x200000040000008000001200000040000008000001000,2,2,[]⟩,
 ⟨4,8,22,0,8,0xd32d361a65a4c34cb6986992d30d365a61a4cb4c3699698,0,3,[(0,4),(0,34),(0,17)]⟩,
 ⟨4,8,22,1,8,0x8408001081200210040042408008081001210200042040,3,3,[(0,10),(0,20),(0,32)]⟩,
 ⟨4,8,50,0,8,0xd32d361a65a4c34cb6986992d30d365a61a4cb4c3699698,0,3,[(0,4),(0,34),(0,17)]⟩,
 ⟨4,8,50,1,8,0x8408001081200210040042408008081001210200042040,3,3,[(0,10),(0,20),(0,32)]⟩,
 ⟨4,8,52,0,8,0x8a28a41145128228a45045128a08a45141128a282451450,0,2,[]⟩,
 ⟨4,8,52,1,8,0x200000040000008000001200000040000008000001000,2,2,[]⟩,
 ⟨4,8,54,0,8,0xd32d361a65a4c34cb6986992d30d365a61a4cb4c3699698,0,3,[(0,4),(0,34),(0,19)]⟩,
 ⟨4,8,54,1,8,0x8408001081200210040042408008081001210200042040,3,3,[(0,14),(0,52),(0,32)]⟩,
 ⟨4,8,82,0,8,0xd32d361a65a4c34cb6986992d30d365a61a4cb4c3699698,0,3,[(0,4),(0,34),(0,19)]⟩,
 ⟨4,8,82,1,8,0x8408001081200210040042408008081001210200042040,3,3,[(0,14),(0,52),(0,32)]⟩,
 ⟨4,8,84,0,8,0x8a28a41145128228a45045128a08a45141128a282451450,0,2,[]⟩,
 ⟨4,8,84,1,8,0x200000040000008000001200000040000008000001000,2,2,[]⟩,
 ⟨4,8,86,0,8,0xd32d361a65a4c34cb6986992d30d365a61a4cb4c3699698,0,3,[(0,4),(0,34),(0,17)]⟩,
 ⟨4,8,86,1,8,0x8408001081200210040042408008081001210200042040,3,3,[(0,10),(0,20),(0,32)]⟩,
 ⟨4,8,114,0,8,0xd32d361a65a4c34cb6986992d30d365a61a4cb4c3699698,0,3,[(0,4),(0,34),(0,17)]⟩,
 ⟨4,8,114,1,8,0x8408001081200210040042408008081001210200042040,3,3,[(0,10),(0,20),(0,32)]⟩,
 ⟨4,8,116,0,8,0x8a28a41145128228a45045128a08a45141128a282451450,0,2,[]⟩,
 ⟨4,8,116,1,8,0x200000040000008000001200000040000008000001000,2,2,[]⟩,
 ⟨4,8,118,0,8,0xd32d361a65a4c34cb6986992d30d365a61a4cb4c3699698,0,3,[(0,4),(0,34),(0,19)]⟩,
 ⟨4,8,118,1,8,0x8408001081200210040042408008081001210200042040,3,3,[(0,14),(0,52),(0,32)]⟩,
 ⟨4,4,18,0,4,0x8a411282450,0,2,[]⟩,
 ⟨4,4,18,1,4,0x8001200040,2,2,[]⟩,
 ⟨4,4,50,0,4,0x8a411282450,0,2,[]⟩,
 ⟨4,4,50,1,4,0x8001200040,2,2,[]⟩,
 ⟨5,8,0,0,8,0xd32d361a65a4c34cb6986992d30d365a61a4cb4c3699698,0,3,[(0,4),(0,34),(0,17)]⟩,
 ⟨5,8,0,1,8,0x8408001081200210040042408008081001210200042040,3,3,[(0,10),(0,20),(0,32)]⟩,
 ⟨6,5,0,0,5,0x6db6124d025a20b448,0,3,[]⟩,
 ⟨6,5,0,1,5,0x8008000010010,3,3,[]⟩,
 ⟨6,6,0,0,6,0xdb6d8449682499409651059448,0,3,[]⟩,
 ⟨6,6,0,1,6,0x240041001200000080010,3,3,[]⟩,
 ⟨6,7,0,0,7,0x6db6d82892c84496904932502592882c9448,0,3,[(0,1),(2,10),(20,21)]⟩,
 ⟨6,7,0,1,7,0x208008200008200208000000400010,3,3,[(3,44),(21,15),(0,7)]⟩,
 ⟨3,2,0,0,8,0xf6140636a6dd83180d981801400e4a76624140903140918,2,6,[]⟩,
 ⟨3,2,1,0,8,0x146240a3225218501bca825b241140241a0009b00509b028,4,6,[]⟩,
 ⟨3,2,2,0,8,0xe4028624028903d8d9180280300f6030636b4dd83028d98,2,6,[]⟩,
 ⟨3,2,3,0,8,0x1406d0a006d00052090282096c91566c0a30489585009c28,4,6,[]⟩]
theorem Pq:∀c∈Dj,c.ok=true:=by decide +kernel
structure SQ(g h:Nat)(T:Nat->Nat)(top:Nat):Prop where
 lt:∀a,a<h*g->T a<g
 first:∃a,a<h*g/\T a≠T (a%h)
 last:∃a,a<h*g/\T a≠T (a/g*g)
 rise:∃rk:qX->Nat,(∀a b,a<h*g->b<h*g->a≠b->T a=T b->rk (C9 (a/g,b/g))<rk (C9 (a%h,b%h)))/\∀p,rk p<=top
theorem Bd.fam{c:Bd}(hc:c.ok=true)(h0:0<c.h):SQ c.g c.h (Ca c.k c.g c.s c.d) c.top:=by
 unfold Bd.ok at hc;simp only[Bool.and_eq_true]at hc;obtain⟨⟨⟨⟨⟨⟨⟨c1,c2⟩,c3⟩,c4⟩,c5⟩,c6⟩,c7⟩,c8⟩:=hc
 have eT:∀a,a<c.h*c.g->c.t a=Ca c.k c.g c.s c.d a/\c.t a<c.g:=λa ha=>by have z:=Di c1 a ha;rw[Yy]at z;exact⟨Nat.eq_of_beq_eq_true z.1,by simpa [Nat.blt_eq] using z.2⟩
 have nb:∀{x y:Nat},(!(Nat.beq x y))=true->x≠y:=λ{x y} z e=>by rw[e,Nat.beq_refl]at z;cases z
 refine⟨λa ha=>by rw[<-(eT a ha).1];exact (eT a ha).2,?_,?_,?_⟩
 ·obtain⟨a,ha,z⟩:=Jb c2;exact⟨a,ha,by rw[<-(eT a ha).1,<-(eT (a%c.h) (ZG (Nat.mod_le ..) ha)).1];exact nb z⟩
 ·obtain⟨a,ha,z⟩:=Jb c3;exact⟨a,ha,by rw[<-(eT a ha).1,<-(eT (a/c.g*c.g) (ZG (Nat.div_mul_le_self ..) ha)).1];exact nb z⟩
 ·have rr:∀x y,x<c.h->y<c.h->(λp:Nat×Nat=>if p.1<c.h/\p.2<c.h then c.r p.1 p.2 else 0) (C9 (x,y))=c.r x y:=λx y hx hy=>by
   by_cases e:x=y
   ·subst e;rw[Cp];show (if 0<c.h/\0<c.h then c.r 0 0 else 0)=_;rw[qF ⟨h0,h0⟩];unfold Bd.r;rw[Nat.beq_refl,Nat.beq_refl];rfl
   ·have:C9 (x,y)=(x,y):=qE e;rw[this];exact qF ⟨hx,hy⟩
  refine⟨λp=>if p.1<c.h/\p.2<c.h then c.r p.1 p.2 else 0,λa b ha hb ne e=>?_,λp=>?_⟩
  ·have dv:∀{a:Nat},a<c.h*c.g->a/c.g<c.h:=λ{a} ha=>Yc (by rw[ZP];exact ha)
   rw[rr _ _ (dv ha) (dv hb),rr _ _ (Yn _ h0) (Yn _ h0)];have z:=Di (Di c4 a ha) b hb;rw[Bool.or_eq_true,Bool.or_eq_true]at z;rcases z with (z|z)|z
   ·exact qG (Yf z) ne
   ·exact qG (by rw[(eT a ha).1,(eT b hb).1];exact e) (nb z)
   ·simpa [Nat.blt_eq] using z
  ·show (if p.1<c.h/\p.2<c.h then c.r p.1 p.2 else 0)<=c.top;split
   ·rename_i hp
    exact Nat.le_of_ble_eq_true (Di (Di c5 p.1 hp.1) p.2 hp.2)
   ·exact X4 _
def RU(g h:Nat)(T:Nat->Nat)(n:Nat)(al bl:Nat->Nat):Prop:=(∀i,i<n->al i<h*g/\bl i<h*g/\al i≠bl i/\T (al i)=T (bl i))/\∀i,i+1<n->al i%h=al (i+1)/g/\bl i%h=bl (i+1)/g
theorem Bd.way{c:Bd}(hc:c.ok=true):RU c.g c.h (Ca c.k c.g c.s c.d) c.ch.length (λi=>(c.ch.getD i (0,0)).1) (λi=>(c.ch.getD i (0,0)).2):=by
 unfold Bd.ok at hc;simp only[Bool.and_eq_true]at hc;refine byG λGq hGq=>?_;obtain⟨⟨⟨⟨⟨⟨⟨c1,c2⟩,c3⟩,c4⟩,c5⟩,c6⟩,c7⟩,c8⟩:=hc;refine hGq ?_;clear hGq Gq
 have eT:∀a,a<c.h*c.g->c.t a=Ca c.k c.g c.s c.d a:=λa ha=>by have z:=Di c1 a ha;rw[Yy]at z;exact Yf z.1
 refine⟨λi hi=>?_,λi hi=>?_⟩
 ·have m:c.ch.getD i (0,0)∈c.ch:=by rw[Xk,Xj hi];exact YY hi
  have z:=Zg.mp c7 _ m;simp only[Bool.and_eq_true]at z;refine byG λGq hGq=>?_;obtain⟨⟨⟨z1,z2⟩,z3⟩,z4⟩:=z;refine hGq ?_;clear hGq Gq;have l1:(c.ch.getD i (0,0)).1<c.h*c.g:=by simpa [Nat.blt_eq] using z1
  have l2:(c.ch.getD i (0,0)).2<c.h*c.g:=by simpa [Nat.blt_eq] using z2
  exact⟨l1,l2,(λ(e:(c.ch.getD i (0,0)).1=(c.ch.getD i (0,0)).2)=>by rw[e,Nat.beq_refl]at z3;cases z3),by rw[<-eT _ l1,<-eT _ l2];exact Yf z4⟩
 ·have go:∀(l:List (qX)),c.on l=true->∀i,i+1<l.length->(l.getD i (0,0)).1%c.h=(l.getD (i+1) (0,0)).1/c.g/\(l.getD i (0,0)).2%c.h=(l.getD (i+1) (0,0)).2/c.g:=by
   intro l
   induction l with
   |nil=>intro _ i hi;simp at hi
   |cons p l ih =>
    intro h i hi;cases l with
    |nil=>simp at hi
    |cons q l =>
     have h:(Nat.beq (p.1%c.h) (q.1/c.g)&&Nat.beq (p.2%c.h) (q.2/c.g)&&c.on (q::l))=true:=h;simp only[Bool.and_eq_true]at h;cases i with
     |zero=>exact⟨Yf h.1.1,Yf h.1.2⟩
     |succ i=>exact ih h.2 i (by simpa using hi)
  exact go c.ch c8 i hi
structure Lm(g:Nat)(ν:Nat->Int):Prop where
 lt:∀x,x<g->0<=ν x/\ν x<(g:Int)
 inj:∀x y,x<g->y<g->ν x=ν y->x=y
noncomputable def BH(n:Nat)(ν:Nat->Int)(T:Nat->Nat):qW:=(List.range n).map λa=>ν (T a)
theorem Br(n:Nat)(ν:Nat->Int)(T:Nat->Nat):(BH n ν T).length=n:=by unfold BH;rw[List.length_map,List.length_range]
variable{ν:Nat->Int}
theorem Bf{n:Nat}{T:Nat->Nat}{a:Nat}(h:a<n):(BH n ν T).getD a 0=ν (T a):=Az h
section
variable{g h:Nat}{T:Nat->Nat}{top:Nat}
theorem RV(f:∀a,a<h*g->T a<g)(n:Lm g ν):∀x∈BH (h*g) ν T,0<=x/\x<(g:Int):=λx hx=>by unfold BH at hx;obtain⟨a,ha,rfl⟩:=Xy.mp hx;exact n.lt _ (f a (X1.mp ha))
theorem SQ.stp(f:SQ g h T top)(n:Lm g ν)(g0:0<g)(s:LW g ((BH (h*g) ν T).length/g) (BH (h*g) ν T) p q):∃a b,a<h*g/\b<h*g/\a≠b/\T a=T b/\p=C9 (a/g,b/g)/\q=C9 (a%h,b%h):=by
 have hh:(BH (h*g) ν T).length/g=h:=by rw[Br,Zq _ g0]
 rw[hh]at s;refine byG λGq hGq=>?_;obtain⟨a,b,ha,hb,ne,e,h1,h2⟩:=s;refine hGq ?_;clear hGq Gq;rw[Bf ha,Bf hb]at e;exact⟨a,b,ha,hb,ne,n.inj _ _ (f.lt a ha) (f.lt b hb) e,h1,h2⟩
theorem SQ.rises(f:SQ g h T top)(n:Lm g ν)(g0:0<g):∃rk:qX->Nat,RE g ((BH (h*g) ν T).length/g) (BH (h*g) ν T) rk/\∀p,rk p<=top:=by obtain⟨rk,h1,h2⟩:=f.rise;refine⟨rk,λp q s=>?_,h2⟩;obtain⟨a,b,ha,hb,ne,e,rfl,rfl⟩:=f.stp n g0 s;exact h1 a b ha hb ne e
theorem RU.stps{k:Nat}{al bl:Nat->Nat}(w:RU g h T k al bl)(g0:0<g)(i:Nat)(hi:i<k):LW g ((BH (h*g) ν T).length/g) (BH (h*g) ν T) (C9 (al i/g,bl i/g)) (C9 (al i%h,bl i%h)):=by
 have hh:(BH (h*g) ν T).length/g=h:=by rw[Br,Zq _ g0]
 rw[hh];refine byG λGq hGq=>?_;obtain⟨h1,h2,h3,h4⟩:=w.1 i hi;refine hGq ?_;clear hGq Gq;exact⟨al i,bl i,h1,h2,h3,by rw[Bf h1,Bf h2,h4],rfl,rfl⟩
end
structure Fy(g:Int)(a7:qW)(m:Nat)(tw:Bool)(d:Int)(tf:qW)(mf top:Nat):Prop where
 g2:2<=g
 g9:g<=9
 m1:1<=m
 m4:m<=4
 m3:3<=g->m<=2
 len:(a7.length:Int)=g^m
 sz:g^m<=256
 nd:g^(m-1)<=9
 tb:∀n∈a7,0<=n/\n<g
 tfl:(tf.length:Int)=g^mf
 mf2:2<=mf
 al:∀lo,CU g (lo+d) tf mf lo a7 m
 fr:∀lo lo' tab' m',(tab'.length:Int)=g^m'->CU g lo a7 m lo' tab' m'->B1 g lo' tab' m' (lo+d) tf mf
 sm:g^(mf-1)<=9
 rise:∃rk:qX->Nat,RE g.toNat (tf.length/g.toNat) tf rk/\∀p,rk p<=top
 thin:tw=false->g^(top+2-mf)<=256/\mf<=top+2
 wide:tw=true->∃(q:Nat->qX) (n:Nat),(q 0=(0,0)\/q n=(0,0))/\(∀i,i<n->LW g.toNat (tf.length/g.toNat) tf (q i) (q (i+1)))/\256<g^(n+2-mf)/\mf<=n+2
theorem Jc{g:Int}{w:Int}{k k':Nat}(hk:k<a7.length)(e:(k:Int)-(k:Int)/w%g*w=(k':Int))(ne:a7.getD k 0≠a7.getD k' 0):A1 g a7 w=true:=by unfold A1;rw[List.any_eq_true];refine⟨k,X1.mpr hk,?_⟩;rw[e,Xo,qI ne];rfl
section
variable{h:Nat}{T:Nat->Nat}{top:Nat}
theorem SQ.cnt(f:SQ G h T top)(n:Lm G ν)(G2:2<=G)(h0:0<h):A1 (G:Int) (BH (h*G) ν T) (h:Int)=true/\A1 (G:Int) (BH (h*G) ν T) 1=true:=by
 refine⟨?_,?_⟩
 ·obtain⟨a,ha,ne⟩:=f.first;have hb:a%h<h*G:=ZG (Nat.mod_le ..) ha;refine Jc (k:=a) (k':=a%h) (by rw[Br];exact ha) ?_ (by rw[Bf ha,Bf hb];exact λz=>ne (n.inj _ _ (f.lt a ha) (f.lt _ hb) z));have e1:(a:Int)/(h:Int)%(G:Int)*(h:Int)=((a/h*h:Nat):Int):=by rw[<-Yq,<-YO,Yx (Yc ha),ZM]
  rw[e1];have:=Y6 a h;rw[ZP]at this;lia
 ·obtain⟨a,ha,ne⟩:=f.last;have hb:a/G*G<h*G:=ZG (Nat.div_mul_le_self ..) ha;refine Jc (k:=a) (k':=a/G*G) (by rw[Br];exact ha) ?_ (by rw[Bf ha,Bf hb];exact λz=>ne (n.inj _ _ (f.lt a ha) (f.lt _ hb) z));have e1:(a:Int)/1%(G:Int)*1=((a%G:Nat):Int):=by rw[Int.ediv_one,Int.mul_one,YO]
  rw[e1];have:=Y6 a G;rw[ZP]at this;lia
theorem Pr(f:SQ G h T top)(n:Lm G ν)(G2:2<=G)(G9:G<=9){m:Nat}(m2:2<=m)(m4:m<=4)(m3:3<=G->m<=2)(hh:h=G^(m-1))(h9:h<=9){tw:Bool}(thin:tw=false->(G:Int)^(top+2-m)<=256/\m<=top+2)
  (wide:tw=true->∃al bl k,RU G h T k al bl/\0<k/\(al 0/G=bl 0/G\/al (k-1)%h=bl (k-1)%h)/\256<(G:Int)^(k+2-m)/\m<=k+2):
  Fy (G:Int) (BH (h*G) ν T) m tw 0 (BH (h*G) ν T) m top:=by
 have hp:h*G=G^m:=by rw[hh,<-Nat.pow_succ];congr 1;lia
 have h0:0<h:=by rw[hh];exact Nat.pow_pos (by lia)
 have len:((BH (h*G) ν T).length:Int)=(G:Int)^m:=by rw[Br,hp,ZN]
 have hi:(G:Int)^(m-1)=(h:Int):=by rw[hh,ZN]
 have g2:(2:Int)<=(G:Int):=by lia
 obtain⟨c0,c1⟩:=f.cnt n G2 h0;rw[<-hi]at c0;have gn:(G:Int).toNat=G:=Xo G;refine⟨g2,by lia,by lia,m4,λz=>m3 (by lia),len,?_,by rw[hi];lia,RV f.lt n,len,m2,λlo x hx=>by rw[ZA],λlo lo' tab' m' hl' al=>by rw[ZA];exact HI g2 hl' len al m2 c0 c1,by rw[hi];lia,?_,thin,λz=>?_⟩
 ·have:=Yo h9 G9;rw[<-ZN,<-hp];lia
 ·rw[gn];exact f.rises n (by lia)
 ·refine byG λGq hGq=>?_;obtain⟨al,bl,k,w,k0,ends,big,le⟩:=wide z;refine hGq ?_;clear hGq Gq;rw[gn];have st:=λi hi=>w.stps (ν:=ν) (show 0<G by lia) i hi
  refine⟨λi=>if i<k then C9 (al i/G,bl i/G) else C9 (al (k-1)%h,bl (k-1)%h),k,?_,λi hi=>?_,big,le⟩
  ·rcases ends with z|z
   ·left
    show (if 0<k then C9 (al 0/G,bl 0/G) else _)=_;rw[qF k0,z,Cp]
   ·right
    show (if k<k then _ else C9 (al (k-1)%h,bl (k-1)%h))=_;rw[qE (X8 _),z,Cp]
  ·show LW _ _ _ (if i<k then C9 (al i/G,bl i/G) else _) (if i+1<k then C9 (al (i+1)/G,bl (i+1)/G) else C9 (al (k-1)%h,bl (k-1)%h));rw[qF hi]
   by_cases y:i+1<k
   ·rw[qF y];have e:=w.2 i y;rw[<-e.1,<-e.2];exact st i hi
   ·rw[qE y,show k-1=i by lia];exact st i hi
theorem Ps(n:Lm G ν)(G2:2<=G)(x:Int):∃rk:qX->Nat,RE G ((Dd (G:Int) x (BH G ν id) 1 x 2).length/G) (Dd (G:Int) x (BH G ν id) 1 x 2) rk/\∀p,rk p<=1:=by
 have e:=LN (g:=(G:Int)) (by lia) (G:=G) rfl x (BH G ν id);rw[e,Xf,YF,Zq _ (by lia)];refine⟨λp=>if p=(0,0) then 0 else 1,?_,λp=>by dsimp only;split<;>lia⟩;rintro p q ⟨a,b,ha,hb,ne,ee,rfl,rfl⟩;rw[Az ha,Az hb]at ee;have da:a/G<G:=Yc ha;have db:b/G<G:=Yc hb;rw[Bf da,Bf db]at ee;have e2:a/G=b/G:=n.inj _ _ da db ee;have e3:a%G≠b%G:=λz=>ne (by rw[<-Y6 a G,<-Y6 b G,e2,z])
 rw[e2,Cp];show (if ((0,0):qX)=(0,0) then 0 else 1)<(if C9 (a%G,b%G)=(0,0) then 0 else 1);rw[qF rfl,show C9 (a%G,b%G)=(a%G,b%G) from qE e3,qE (λz=>e3 (by injection z with z1 z2;lia))];exact Nat.zero_lt_one
theorem Hk(n:Lm G ν)(G2:2<=G)(G9:G<=9){m:Nat}(m1:1<=m)(m2:m<=2)(len:(a7.length:Int)=(G:Int)^m)(tb:∀n∈a7,0<=n/\n<(G:Int)){d:Int}(al:∀lo,CU (G:Int) (lo+d) (BH G ν id) 1 lo a7 m):Fy (G:Int) a7 m false d (Dd (G:Int) 0 (BH G ν id) 1 0 2) 2 1:=by
 have g2:(2:Int)<=(G:Int):=by lia
 have l1:((BH G ν id).length:Int)=(G:Int)^1:=by rw[Br,YH,Ya,ZI]
 have bw:∀x,Dd (G:Int) x (BH G ν id) 1 x 2=Dd (G:Int) 0 (BH G ν id) 1 0 2:=λx=>by rw[LN g2 rfl,LN g2 rfl]
 have p2:(G:Int)^2=((G*G:Nat):Int):=by rw[show (2:Nat)=0+1+1 from rfl,YH,YH,Ya,ZI,ZM]
 have p1:(G:Int)^1=(G:Int):=by rw[YH,Ya,ZI]
 have gg:=Yo G9 G9
 have c1:A1 (G:Int) (BH G ν id) 1=true:=by refine Jc (k:=1) (k':=0) (by rw[Br];lia) ?_ (by rw[Bf (by lia),Bf (by lia)];exact λz=>qG (n.inj 1 0 (by lia) (by lia) z) (by decide));rw[Int.ediv_one,Int.mul_one,Ym (by decide) (by lia)];rfl
 have tfl:((Dd (G:Int) 0 (BH G ν id) 1 0 2).length:Int)=(G:Int)^2:=Ba g2 ..;have mm:m=1\/m=2:=by lia
 refine⟨g2,by lia,m1,by lia,λ_=>m2,len,?_,?_,tb,tfl,Xi _,λlo=>?_,λlo lo' tab' m' hl' al'=>?_,?_,?_,λ_=>?_,λz=>nomatch z⟩
 ·rcases mm with rfl|rfl
  ·rw[p1];lia
  ·rw[p2];lia
 ·rcases mm with rfl|rfl
  ·rw[ZH,Ya];decide
  ·rw[show 2-1=1 from rfl,p1];lia
 ·intro x hx;rw[<-bw (lo+d),KA g2 l1 (Yz _) (by lia) hx];exact al lo x hx
 ·rw[<-bw (lo+d)];exact NU g2 hl' l1 (λx hx=>(al lo x hx).trans (al' x hx)) c1
 ·rw[show 2-1=1 from rfl,p1];lia
 ·rw[Xo];exact Ps n G2 0
 ·rw[show 1+2-2=1 from rfl,p1];lia
end
theorem Nq{g:Int}(hg:2<=g){lo:Int}{m:Nat}(tb:∀n∈a7,0<=n/\n<g)(fw:B1 g lo a7 m lf tf mf):∀n∈tf,0<=n/\n<g:=by
 obtain⟨low,M,_,_,⟨_,_,rfl⟩|⟨_,_,rfl⟩⟩:=fw
 ·exact G6 hg _ (G6 hg _ tb _ _ _) _ _ _
 ·exact G6 hg _ tb _ _ _
def Fz(g:Int)(tf:qW)(mf:Nat):Prop:=g^(mf-1)<=9/\∀rk,¬RE g.toNat (tf.length/g.toNat) tf rk
noncomputable def Nr(c:Int):Nat->Int
 |0=>c%2147483647+48271
 |k+1=>(Nr c k*48271+(k:Int)*(k:Int)+11)%2147483647
noncomputable def IG(c:Int)(m:Nat):qW:=(List.range m).map λk=>Nr c (k+1)/7
theorem Hl(c:Int)(m:Nat):(IG c m).length=m:=by unfold IG;rw[List.length_map,List.length_range]
theorem Mn(c:Int)(m:Nat):∀x∈IG c m,0<=x/\x<2147483647:=λx hx=>by unfold IG at hx;obtain⟨k,_,rfl⟩:=Xy.mp hx;show 0<=(Nr c k*48271+(k:Int)*(k:Int)+11)%2147483647/7/\(Nr c k*48271+(k:Int)*(k:Int)+11)%2147483647/7<2147483647;generalize Nr c k*48271+(k:Int)*(k:Int)+11=u;lia
inductive Jd(vs:List V)(H:Hp)(Q:VK)(z3_:XK):Prop
 |m (c m:Int):vs=[.int c,.int m]->0<=m->m<=300->(∀(r:qR) (H':Hp),AG H H'->H r=none->H' r=some (.lst ((IG c m.toNat).map V.int))->Q (.ref r) H')->Jd vs H Q z3_
abbrev xn(l:qW)(i:Nat):Nat:=(l.getD i 0).toNat
noncomputable def Ds(k G:Nat)(l:qW):Nat:=
 if k=1 then (if G=9\/(G=6/\xn l 10%2=1) then 3 else if G=8/\xn l 10%2=1 then 4 else 2)
 else if k=2 then 1+xn l 10%(G-2)
 else if k=3 then xn l 10%2+2*(xn l 11%2)
 else if k=4 then (if G=9 then (1+xn l 10%2+xn l 11%3*3)*16+xn l 12%3*3 else (1+xn l 10%4*2)%G*16+xn l 12%(G/2)*2)
 else 0
noncomputable def IH(k:Nat)(l:qW):Nat:=if k=3 then 0 else xn l 14%2
noncomputable def Cu(k G:Nat)(l:qW)(a:Nat):Nat:=if k=0 then a else if k=4 then (Ca 4 G (Ds 4 G l) (IH 4 l) a+xn l 13)%G else Ca k G (Ds k G l) (IH k l) a
def KG(k G:Nat):Prop:=(k=0/\2<=G/\G<=9)\/(k=1/\(G=4\/G=6\/G=8\/G=9))\/(k=2/\3<=G/\G<=7)\/(k=3/\G=2)\/(k=4/\(G=4\/G=8\/G=9))\/(k=5/\G=8)\/(k=6/\5<=G/\G<=7)
noncomputable def mK(k:Nat):Nat:=if k=0 then 1 else if k=3 then 4 else 2
noncomputable def SR(k G:Nat)(l:qW):Bool:=decide (k=5\/(k=6/\G=7)\/(k=4/\G=8/\xn l 12%2=1))
noncomputable def Bd.tw(c:Bd):Bool:=decide (c.k=5\/(c.k=6/\c.g=7)\/(c.k=4/\c.g=8/\c.s%16%4=2))
noncomputable def Bd.fits(c:Bd):Bool:=decide (c.h=(if c.k=3 then 8 else c.g)/\2<=c.g/\c.g<=9/\(c.k=3->c.g=2) /\
 (if c.tw=true then c.ch.length=3/\((c.ch.getD 0 (0,0)).1/c.g=(c.ch.getD 0 (0,0)).2/c.g\/(c.ch.getD 2 (0,0)).1%c.h=(c.ch.getD 2 (0,0)).2%c.h)/\256<c.g^3/\c.k≠3 else c.g^(c.top+2-(if c.k=3 then 4 else 2))<=256/\(if c.k=3 then 4 else 2)<=c.top+2))
theorem Ih:∀c∈Dj,c.fits=true:=by decide +kernel
theorem Ii{c:Bd}(hc:c∈Dj)(n:Lm c.g ν):Fy (c.g:Int) (BH (c.h*c.g) ν (Ca c.k c.g c.s c.d)) (if c.k=3 then 4 else 2) c.tw 0 (BH (c.h*c.g) ν (Ca c.k c.g c.s c.d)) (if c.k=3 then 4 else 2) c.top:=by
 have f:=qN (Ih c hc);obtain⟨f1,f2,f3,f4,f5⟩:=f;have ok:=Pq c hc;have h0:0<c.h:=by rw[f1];split<;>lia
 have m2:2<=(if c.k=3 then 4 else 2):=by split<;>lia
 have hh:c.h=c.g^((if c.k=3 then 4 else 2)-1):=by
  rw[f1];split
  ·rename_i z;rw[f4 z]
  ·exact (Nat.pow_one c.g).symm
 have m3:3<=c.g->(if c.k=3 then 4 else 2)<=2:=λz=>by
  split
  ·rename_i y
   have:=f4 y;lia
  ·lia
 refine Pr (Bd.fam ok h0) n f2 f3 m2 (by split<;>lia) m3 hh (by rw[f1];split<;>lia) (λz=>?_) λz=>?_
 ·rw[qE (by rw[z];exact Xx)]at f5;refine⟨?_,f5.2⟩;have:=f5.1;rw[<-ZN];lia
 ·rw[qF z]at f5;obtain⟨c1,c2,c3,c4⟩:=f5;refine⟨_,_,c.ch.length,Bd.way ok,by lia,?_,?_,by rw[qE c4];lia⟩
  ·rw[c1];exact c2
  ·rw[c1,qE c4];show 256<(c.g:Int)^3;rw[<-ZN];lia
noncomputable def Je(k G s d:Nat):Bool:=Dj.any λc=>Nat.beq c.k k&&Nat.beq c.g G&&Nat.beq c.s s&&Nat.beq c.d d
theorem DD{k s d:Nat}(e:Je k G s d=true):∃c∈Dj,c.k=k/\c.g=G/\c.s=s/\c.d=d:=by obtain⟨c,hc,z⟩:=List.any_eq_true.mp e;simp only[Bool.and_eq_true]at z;exact⟨c,hc,Yf z.1.1.1,Yf z.1.1.2,Yf z.1.2,Yf z.2⟩
theorem RX{k:Nat}(h:KG k G)(k0:k≠0)(l:qW)(p0:k=4->Ds 4 G l%16≠0):∃c∈Dj,c.k=k/\c.g=G/\c.s=Ds k G l/\c.d=IH k l:=by
 have md:∀{n m:Nat},0<m->n%m<m:=λh=>Yn _ h
 rcases h with⟨rfl,_⟩|⟨rfl,h⟩|⟨rfl,h⟩|⟨rfl,rfl⟩|⟨rfl,h⟩|⟨rfl,rfl⟩|⟨rfl,h⟩
 ·exact qG rfl k0
 ·have z:∀G∈[4,6,8,9],∀a<2,∀d<2,Je 1 G (if G=9\/(G=6/\a=1) then 3 else if G=8/\a=1 then 4 else 2) d=true:=by decide +kernel
  exact DD (z G (by rcases h with rfl|rfl|rfl|rfl<;>decide) _ (md (by decide)) _ (md (by decide)))
 ·have z:∀G<8,3<=G->∀r<G-2,∀d<2,Je 2 G (1+r) d=true:=by decide +kernel
  exact DD (z G (by lia) h.1 _ (md (by lia)) _ (md (by decide)))
 ·have z:∀a<2,∀b<2,Je 3 2 (a+2*b) 0=true:=by decide +kernel
  exact DD (z _ (md (by decide)) _ (md (by decide)))
 ·have p0:=p0 rfl;rcases h with rfl|rfl|rfl
  ·have z:∀a<4,∀t<2,∀d<2,((1+a*2)%4*16+t*2)%16≠0->Je 4 4 ((1+a*2)%4*16+t*2) d=true:=by decide +kernel
   exact DD (z _ (md (by decide)) _ (md (by decide)) _ (md (by decide)) p0)
  ·have z:∀a<4,∀t<4,∀d<2,((1+a*2)%8*16+t*2)%16≠0->Je 4 8 ((1+a*2)%8*16+t*2) d=true:=by decide +kernel
   exact DD (z _ (md (by decide)) _ (md (by decide)) _ (md (by decide)) p0)
  ·have z:∀a<2,∀b<3,∀t<3,∀d<2,((1+a+b*3)*16+t*3)%16≠0->Je 4 9 ((1+a+b*3)*16+t*3) d=true:=by decide +kernel
   exact DD (z _ (md (by decide)) _ (md (by decide)) _ (md (by decide)) _ (md (by decide)) p0)
 ·have z:∀d<2,Je 5 8 0 d=true:=by decide +kernel
  exact DD (z _ (md (by decide)))
 ·have z:∀G<8,5<=G->∀d<2,Je 6 G 0 d=true:=by decide +kernel
  exact DD (z G (by lia) h.1 _ (md (by decide)))
theorem Ew{n:Nat}{ν':Nat->Int}{T T':Nat->Nat}(h:∀a,a<n->ν (T a)=ν' (T' a)):BH n ν T=BH n ν' T':=YW λa ha=>h a (X1.mp ha)
theorem RY(g a b:Int):BM g [a,b]=a*g+b:=by rw[show[a,b]=[a]++[b] from rfl,Gr,JH]
theorem Pu(G2:2<=G){f:Nat->Nat}{x:Int->Int}(hx:MP (G:Int) x)(lo:Int):IV (G:Int) lo (BH (G^2) ν f) 2 x=ν (f ((x lo).toNat*G+(x (lo+1)).toNat)):=by
 have a:=hx lo;have b:=hx (lo+1)
 have e:EV x lo 2=[x lo,x (lo+1)]:=by show[x (lo+((0:Nat):Int)),x (lo+((1:Nat):Int))]=_;rw[show lo+((0:Nat):Int)=lo by lia];rfl
 have e2:(x lo*(G:Int)+x (lo+1)).toNat=(x lo).toNat*G+(x (lo+1)).toNat:=by
  have z:x lo*(G:Int)+x (lo+1)=(((x lo).toNat*G+(x (lo+1)).toNat:Nat):Int):=by rw[aD,ZM,YN a.1,YN b.1]
  rw[z,Xo]
 have lt:(x lo).toNat*G+(x (lo+1)).toNat<G^2:=by have:=Z9 G (show (x lo).toNat+1<=G by lia);rw[Nat.succ_mul]at this;rw[Nat.pow_two];lia
 unfold IV;rw[e,RY,e2,Bf lt]
theorem Pw{x:Int->Int}(hx:MP (G:Int) x)(lo:Int):IV (G:Int) lo (BH G ν id) 1 x=ν (x lo).toNat:=by
 have a:=hx lo
 have e:EV x lo 1=[x lo]:=by show[x (lo+((0:Nat):Int))]=_;rw[show lo+((0:Nat):Int)=lo by lia]
 unfold IV;rw[e,JH,Bf (by lia)];rfl
theorem RZ{u:Nat}(h:(G=4/\(u=1\/u=3))\/(G=8/\(u=1\/u=3\/u=5\/u=7))\/(G=9/\(u=1\/u=2\/u=4\/u=5\/u=7\/u=8))):∀x y,x<G->y<G->u*x%G=u*y%G->x=y:=by
 rcases h with⟨rfl,h⟩|⟨rfl,h⟩|⟨rfl,h⟩
 ·rcases h with rfl|rfl<;>lia
 ·rcases h with rfl|rfl|rfl|rfl<;>lia
 ·rcases h with rfl|rfl|rfl|rfl|rfl|rfl<;>lia
theorem Mo(G0:0<G)(n:Lm G ν)(c:Nat):Lm G λv=>ν ((v+c)%G):=by
 refine⟨λx _=>n.lt _ (Yn _ G0),λx y hx hy e=>?_⟩;have z:=n.inj _ _ (Yn _ G0) (Yn _ G0) e;have c1:=Yn c G0;rw[Nat.add_mod x c,Nat.add_mod y c,Yx hx,Yx hy]at z;generalize c%G=r at z c1
 have f:∀x,x<G->(x+r)%G=if x+r<G then x+r else x+r-G:=λx hx=>by
  split
  ·exact Yx ‹_›
  ·rw[Nat.mod_eq_sub_mod (by lia),Yx (by lia)]
 rw[f x hx,f y hy]at z
 split at z<;>split at z<;>lia
theorem Ij:∀c∈Dj,decide (c.k<=4->(c.k=4->c.g≠8)->c.top+2<=2*if c.k=3 then 4 else 2)=true:=by decide +kernel
theorem Tq{k:Nat}(h:KG k G)(l:qW)(n:Lm G ν):∃d tf mf top,Fy (G:Int) (BH (G^mK k) ν (Cu k G l)) (mK k) (SR k G l) d tf mf top/\(k<=4->(k=4->G≠8)->top+2<=mf+mf):=by
 have G2:2<=G:=by unfold KG at h;lia
 have G9:G<=9:=by unfold KG at h;lia
 by_cases k0:k=0
 ·subst k0;have e:BH (G^mK 0) ν (Cu 0 G l)=BH G ν id:=by rw[show G^mK 0=G from Nat.pow_one G];exact Ew λa _=>rfl
  have z:=Hk (G:=G) n G2 G9 (a7:=BH G ν id) (m:=1) (Xi _) (by decide) (by rw[Br,YH,Ya,ZI]) (λx hx=>by unfold BH at hx;obtain⟨a,ha,rfl⟩:=Xy.mp hx;exact n.lt _ (X1.mp ha)) (d:=0) (λlo x hx=>by rw[ZA])
  exact⟨_,_,_,_,by rw[e];exact z,λ_ _=>by decide⟩
 by_cases p0:k=4/\Ds 4 G l%16=0
 ·obtain⟨rfl,p0⟩:=p0;have hG:G=4\/G=8\/G=9:=by unfold KG at h;lia
  obtain⟨u,hu⟩:∃u,u=Ds 4 G l/16:=⟨_,rfl⟩
  have uo:(G=4/\(u=1\/u=3))\/(G=8/\(u=1\/u=3\/u=5\/u=7))\/(G=9/\(u=1\/u=2\/u=4\/u=5\/u=7\/u=8)):=by
   have dv:∀{A t:Nat},t<16->u=(A*16+t)/16->u=A:=λh1 h2=>by lia
   rcases hG with rfl|rfl|rfl
   ·have e:=dv (t:=xn l 12%2*2) (by lia) hu;have z:∀r<4,(1+r*2)%4=1\/(1+r*2)%4=3:=by decide
    rw[e];exact .inl ⟨rfl,z _ (Yn _ (by decide))⟩
   ·have e:=dv (t:=xn l 12%4*2) (by lia) hu;have z:∀r<4,(1+r*2)%8=1\/(1+r*2)%8=3\/(1+r*2)%8=5\/(1+r*2)%8=7:=by decide
    rw[e];exact .inr (.inl ⟨rfl,z _ (Yn _ (by decide))⟩)
   ·have e:=dv (t:=xn l 12%3*3) (by lia) hu;have z:∀r<2,∀q<3,1+r+q*3=1\/1+r+q*3=2\/1+r+q*3=4\/1+r+q*3=5\/1+r+q*3=7\/1+r+q*3=8:=by decide
    rw[e];exact .inr (.inr ⟨rfl,z _ (Yn _ (by decide)) _ (Yn _ (by decide))⟩)
  have tw:SR 4 G l=false:=by
   unfold SR;refine qI λz=>?_;rcases z with z|⟨z,_⟩|⟨_,rfl,z⟩
   ·lia
   ·lia
   ·have p:Ds 4 8 l=(1+xn l 10%4*2)%8*16+xn l 12%4*2:=rfl;rw[p,Nat.mul_add_mod_self_right]at p0;clear p hu uo h hG n;lia
  have nu:Lm G λv=>ν ((u*v%G+xn l 13)%G):=by have na:=Mo (show 0<G by lia) n (xn l 13);exact⟨λx _=>na.lt _ (Yn _ (by lia)),λx y hx hy e=>RZ uo x y hx hy (na.inj _ _ (Yn _ (by lia)) (Yn _ (by lia)) e)⟩
  have tl:((BH (G^2) ν (Cu 4 G l)).length:Int)=(G:Int)^2:=by rw[Br,ZN]
  have tv:∀a,Cu 4 G l a=((if IH 4 l=0 then u*(a/G) else u*(a%G))%G+xn l 13)%G:=λa=>by
   show (Ca 4 G (Ds 4 G l) (IH 4 l) a+xn l 13)%G=_;unfold Ca EZ;simp only[show ¬(4:Nat)=3 by decide,show ¬(4:Nat)=1 by decide,show ¬(4:Nat)=2 by decide,if_false,if_true];rw[p0,<-hu]
   by_cases c:IH 4 l=0
   ·rw[qF c,qF c,Nat.zero_mul,Zn]
   ·rw[qE c,qE c,Nat.zero_mul,Zn]
  have tb:∀x∈BH (G^2) ν (Cu 4 G l),0<=x/\x<(G:Int):=λx hx=>by unfold BH at hx;obtain⟨a,ha,rfl⟩:=Xy.mp hx;rw[tv];exact n.lt _ (Yn _ (by lia))
  rw[tw];clear uo hG hu p0 h tw k0
  by_cases c:IH 4 l=0
  ·refine⟨0,_,_,_,Hk nu G2 G9 (m:=2) (by decide) (Xi _) tl tb (λlo x hx=>?_),λ_ _=>by decide⟩;have a:=hx lo;have b:=hx (lo+1);rw[ZA,Pw hx,Pu G2 hx,tv,qF c,O9 (G:=G) (u:=(x lo).toNat) (by lia)]
  ·refine⟨1,_,_,_,Hk nu G2 G9 (m:=2) (by decide) (Xi _) tl tb (λlo x hx=>?_),λ_ _=>by decide⟩;have a:=hx lo;have b:=hx (lo+1);rw[Pw hx,Pu G2 hx,tv,qE c,show ((x lo).toNat*G+(x (lo+1)).toNat)%G=(x (lo+1)).toNat by rw[Nat.add_comm,Nat.add_mul_mod_self_right,Yx (by lia)]]
 ·obtain⟨c,hc,rfl,rfl,e3,e4⟩:=RX h k0 l λe z=>p0 ⟨e,z⟩
  have fit:=qN (Ih c hc);have mm:mK c.k=if c.k=3 then 4 else 2:=by unfold mK;rw[qE k0]
  have hp:c.h*c.g=c.g^mK c.k:=by
   rw[mm,fit.1];split
   ·rename_i z;rw[fit.2.2.2.1 z]
   ·exact (Nat.pow_two c.g).symm
  have tw:c.tw=SR c.k c.g l:=by
   unfold Bd.tw SR;refine decide_eq_decide.mpr (or_congr Iff.rfl (or_congr Iff.rfl (and_congr_right λy1=>and_congr_right λy2=>?_)));have p:Ds c.k c.g l=(1+xn l 10%4*2)%8*16+xn l 12%4*2:=by rw[y1,y2];rfl
   rw[e3,p,Nat.mul_add_mod_self_right];generalize xn l 12=t;clear p y1 y2 hp mm fit;lia
  by_cases k4:c.k=4
  ·have na:=Mo (show 0<c.g by lia) n (xn l 13);have z:=Ii hc na;rw[hp,tw,<-mm]at z;have e:BH (c.g^mK c.k) ν (Cu c.k c.g l)=BH (c.g^mK c.k) (λv=>ν ((v+xn l 13)%c.g)) (Ca c.k c.g c.s c.d):=Ew λa _=>by show ν (Cu c.k c.g l a)=ν ((Ca c.k c.g c.s c.d a+xn l 13)%c.g);unfold Cu;rw[qE k0,qF k4,e3,e4,k4]
   rw[e];exact⟨_,_,_,_,z,λa b=>by rw[mm];have:=qN (Ij c hc) a b;lia⟩
  ·have z:=Ii hc n;rw[hp,tw,<-mm]at z;have e:BH (c.g^mK c.k) ν (Cu c.k c.g l)=BH (c.g^mK c.k) ν (Ca c.k c.g c.s c.d):=Ew λa _=>by unfold Cu;rw[qE k0,qE k4,e3,e4]
   rw[e];exact⟨_,_,_,_,z,λa b=>by rw[mm];have:=qN (Ij c hc) a b;lia⟩
theorem Px{k:Nat}(h:KG k G)(l:qW)(n:Lm G ν):∃d tf mf top,Fy (G:Int) (BH (G^mK k) ν (Cu k G l)) (mK k) (SR k G l) d tf mf top:=by obtain⟨d,tf,mf,top,z,_⟩:=Tq h l n;exact⟨d,tf,mf,top,z⟩
def QO(H:Hp)(p:qR)(l:qW):Prop:=H p=some (.lst (l.map V.int))/\l.length=15/\∀x∈l,0<=x/\x<2147483647
theorem QO.same{p:qR}{l:qW}(e:AG H H')(x:QO H p l):QO H' p l:=⟨e _ _ x.1,x.2⟩
theorem QO.at{p:qR}{l:qW}(x:QO H p l){i:Nat}(hi:i<15):Kt (l.map V.int) ((i:Nat):Int)=some (.int ((xn l i:Nat):Int)):=by
 have hl:i<l.length:=by rw[x.2.1];exact hi
 have b:=x.2.2 (l.getD i 0) (by rw[Xk,Xj hl];exact YY hl);rw[D0 hl,YN b.1]
inductive DE(k:Nat)(vs:List V)(H:Hp)(Q:VK)(z3_:XK):Prop
 |m (G:Nat) (p:qR) (l:qW) (h t:Nat):vs=[.int (G:Int),.ref p,.int (h:Int),.int (t:Int)]->KG k G->QO H p l->h<G->t<G->(∀H',AG H H'->Q (.int ((if k=4 then (EZ 4 G (Ds 4 G l) h t+xn l 13)%G else EZ k G (Ds k G l) h t:Nat):Int)) H')->DE k vs H Q z3_
inductive F0(vs:List V)(H:Hp)(Q:VK)(z3_:XK):Prop
 |m (h t:Nat):vs=[.int (h:Int),.int (t:Int)]->Q (.int ((EZ 5 8 0 h t:Nat):Int)) H->F0 vs H Q z3_
inductive Hm(vs:List V)(H:Hp)(Q:VK)(z3_:XK):Prop
 |m (G h t:Nat):vs=[.int (G:Int),.int (h:Int),.int (t:Int)]->5<=G->G<=7->h<G->t<G->Q (.int ((EZ 6 G 0 h t:Nat):Int)) H->Hm vs H Q z3_
inductive Ho(vs:List V)(H:Hp)(Q:VK)(z3_:XK):Prop
 |m (p a:qR) (l:qW) (n:Nat):vs=[.ref p,.ref a]->QO H p l->H a=some (.lst ((BD 2 (n:Int) 4).map V.int))->(∀H',AG H H'->Q (.int ((Ca 3 2 (Ds 3 2 l) 0 n:Nat):Int)) H')->Ho vs H Q z3_
inductive Hq(vs:List V)(H:Hp)(Q:VK)(z3_:XK):Prop
 |m (k G:Nat) (p a:qR) (l:qW) (n:Nat):vs=[.int (k:Int),.int (G:Int),.ref p,.ref a]->KG k G->QO H p l->H a=some (.lst ((BD (G:Int) (n:Int) (mK k)).map V.int))->n<G^mK k->(∀H',AG H H'->Q (.int ((Cu k G l n:Nat):Int)) H')->Hq vs H Q z3_
noncomputable def Mp(c:Int):Nat:=([0,1,1,2,2,3,4,5,6,6,3,4,6,1]:List Nat).getD (c%14).toNat 0
noncomputable def gF(c:Int):Nat:=if Mp c=0 then (2+c/14%8).toNat else if Mp c=1 then ([4,4,6,4,4,8,6,9]:List Nat).getD (c/14%8).toNat 0 else if Mp c=2 then ([3,4,5,3,4,3,6,7]:List Nat).getD (c/14%8).toNat 0 else if Mp c=3 then 2 else if Mp c=4 then ([4,4,8,9]:List Nat).getD (c/14%4).toNat 0 else if Mp c=5 then 8 else ([5,6,5,7]:List Nat).getD (c/14%4).toNat 0
theorem Py(c:Int):Mp c<=6:=by
 unfold Mp;have h:(c%14).toNat<14:=by lia
 generalize (c%14).toNat=i at h;have z:∀i<14,([0,1,1,2,2,3,4,5,6,6,3,4,6,1]:List Nat).getD i 0<=6:=by decide
 exact z i h
theorem Xe(c:Int):KG (Mp c) (gF c):=by
 have k6:=Py c;have a8:(c/14%8).toNat<8:=by lia
 have a4:(c/14%4).toNat<4:=by lia
 unfold KG gF;generalize Mp c=k at *;generalize (c/14%8).toNat=i at *;generalize (c/14%4).toNat=j at *;obtain rfl|rfl|rfl|rfl|rfl|rfl|rfl:k=0\/k=1\/k=2\/k=3\/k=4\/k=5\/k=6:=by lia
 ·left
  refine⟨rfl,?_⟩;rw[qF rfl];lia
 ·have z:∀i<8,([4,4,6,4,4,8,6,9]:List Nat).getD i 0=4\/([4,4,6,4,4,8,6,9]:List Nat).getD i 0=6\/([4,4,6,4,4,8,6,9]:List Nat).getD i 0=8\/([4,4,6,4,4,8,6,9]:List Nat).getD i 0=9:=by decide
  exact .inr (.inl ⟨rfl,z i a8⟩)
 ·have z:∀i<8,3<=([3,4,5,3,4,3,6,7]:List Nat).getD i 0/\([3,4,5,3,4,3,6,7]:List Nat).getD i 0<=7:=by decide
  exact .inr (.inr (.inl ⟨rfl,z i a8⟩))
 ·exact .inr (.inr (.inr (.inl ⟨rfl,rfl⟩)))
 ·have z:∀i<4,([4,4,8,9]:List Nat).getD i 0=4\/([4,4,8,9]:List Nat).getD i 0=8\/([4,4,8,9]:List Nat).getD i 0=9:=by decide
  exact .inr (.inr (.inr (.inr (.inl ⟨rfl,z j a4⟩))))
 ·exact .inr (.inr (.inr (.inr (.inr (.inl ⟨rfl,rfl⟩)))))
 ·have z:∀i<4,5<=([5,6,5,7]:List Nat).getD i 0/\([5,6,5,7]:List Nat).getD i 0<=7:=by decide
  exact .inr (.inr (.inr (.inr (.inr (.inr ⟨rfl,z j a4⟩)))))
noncomputable def Xa(c c2:Int):Bool:=SR (Mp c) (gF c) (IG c2 15)
theorem Pz{zs:qW}(p:zs.Perm (ET G)):Lm G λv=>zs.getD v 0:=by
 have hl:zs.length=G:=by rw[p.length_eq,Bx]
 have nd:(ET G).Nodup:=by unfold ET;rw[List.Nodup,ZC];exact (List.nodup_range (n:=G)).imp λh e=>h (by lia)
 have ndz:zs.Nodup:=p.nodup_iff.mpr nd;refine⟨λx hx=>?_,λx y hx hy e=>?_⟩
 ·have hx':x<zs.length:=by lia
  have m:zs.getD x 0∈ET G:=p.mem_iff.mp (by rw[Xk,Xj hx'];exact YY hx');obtain⟨i,hi⟩:=YC.mp m;have il:i<G:=by have:=(Xg.mp hi).1;rwa [Bx]at this
  rw[Go il]at hi;have:=Option.some.inj hi;lia
 ·have hx':x<zs.length:=by lia
  have hy':y<zs.length:=by lia
  have e:zs.getD x 0=zs.getD y 0:=e;rw[Xk,Xk,Xj hx',Xj hy']at e;exact (ZE ndz).mp e
theorem Ra{k:Nat}(h:KG k G)(l:qW){n:Nat}(hn:n<G^mK k):Cu k G l n<G:=by
 have na:Lm G λv=>(v:Int):=⟨λx hx=>by lia,λx y _ _ e=>by lia⟩
 obtain⟨d,tf,mf,top,c⟩:=Px h l na;have z:=c.tb ((BH (G^mK k) (λv=>(v:Int)) (Cu k G l)).getD n 0) (by rw[Xk,Xj (by rw[Br];exact hn)];exact YY _);rw[Bf hn]at z;lia
theorem N0.le{h:Nat}{M':List (qX)}{f':qX->Nat}(r:N0 h S M f)(r':N0 h S M' f')(all':∀p∈Ax h,p∈M'):∀(n:Nat) (p:qX),p∈M->f p<=n->f p<=f' p:=by
 intro n
 induction n with
 |zero=>intro p _ hn;lia
 |succ n ih =>
  intro p hp hn;rcases r.top p hp with z|⟨q,s,hq,z⟩
  ·lia
  ·have a:=ih q hq (by lia);have b:=(r'.low p (all' p (r.sub p hp)) q s).2;lia
theorem N0.uniq{h:Nat}{M':List (qX)}{f':qX->Nat}(r:N0 h S M f)(r':N0 h S M' f')(all:∀p∈Ax h,p∈M)(all':∀p∈Ax h,p∈M')(p:qX)(hp:p∈Ax h):f p=f' p:=
 Nat.le_antisymm (r.le r' all' _ p (all p hp) (Xi _)) (r'.le r all _ p (all' p hp) (Xi _))
noncomputable def Cz(h:Nat):List (qX):=(List.range h).flatMap (HJ h)
theorem CP{h:Nat}:p∈Cz h↔p.1<h/\p.2<h/\p.1≠p.2:=by
 unfold Cz HJ;rw[Zi];constructor
 ·rintro⟨n,hn,hp⟩;obtain⟨o,ho,rfl⟩:=Xy.mp hp;obtain⟨h1,h2⟩:=YB.mp ho;exact⟨X1.mp hn,X1.mp h1,λe=>qN h2 e.symm⟩
 ·rintro⟨h1,h2,h3⟩;exact⟨p.1,X1.mpr h1,Xy.mpr ⟨p.2,YB.mpr ⟨X1.mpr h2,qH λe=>h3 e.symm⟩,rfl⟩⟩
theorem Jf(h:Nat):(Cz h).Pairwise λp q=>p.1<q.1\/(p.1=q.1/\p.2<q.2):=by
 unfold Cz;refine List.pairwise_flatMap.mpr ⟨λn _=>?_,List.Pairwise.imp (R:=(·<·)) (λ{a b} lt x hx y hy=>?_) ZU⟩
 ·unfold HJ;rw[ZC];exact (List.Pairwise.filter _ ZU).imp λz=>.inr ⟨rfl,z⟩
 ·unfold HJ at hx hy;obtain⟨_,_,rfl⟩:=Xy.mp hx;obtain⟨_,_,rfl⟩:=Xy.mp hy;exact .inl lt
theorem Ex(h:Nat):(Cz h).Nodup:=(Jf h).imp λ{a b} z e=>by rw[e]at z;lia
noncomputable def Nt(f:qX->Nat)(p:qX):qW:=[(p.1:Int),(p.2:Int),((f p:Nat):Int)]
theorem Rb(a b c:Int):BM 1000 [a,b,c]=(a*1000+b)*1000+c:=by show ((0*1000+a)*1000+b)*1000+c=_;rw[ZZ,YJ]
theorem P0{h:Nat}{ws:List (qW)}(h9:h<=9)(few:∀p∈M,f p<=100)(nd:M.Nodup)(sub:∀p∈M,p∈Ax h)(all:∀p∈Ax h,p∈M)(hp:ws.Perm ((M.filter λp=>decide (p≠(0,0))).map (Nt f)))(so:ws.Pairwise λu v=>BM 1000 u<=BM 1000 v):ws=(Cz h).map (Nt f):=by
 have ma:∀p,p∈Cz h↔p∈M/\p≠(0,0):=λp=>by
  rw[CP];constructor
  ·rintro⟨h1,h2,h3⟩;exact⟨all p (Cq.mpr (.inr ⟨h1,h2,h3⟩)),λe=>by rw[e]at h3;exact h3 rfl⟩
  ·rintro⟨h1,h2⟩;rcases Cq.mp (sub p h1) with z|z
   ·exact qG z h2
   ·exact z
 have pm:(M.filter λp=>decide (p≠(0,0))).Perm (Cz h):=(List.perm_ext_iff_of_nodup (nd.filter _) (Ex h)).mpr λp=>by rw[YB,ma,decide_eq_true_eq]
 refine List.Perm.eq_of_pairwise (le:=λu v=>BM 1000 u<=BM 1000 v) (λa b ha hb le ge=>?_) so ?_ (hp.trans (pm.map _))
 ·obtain⟨p,pp,rfl⟩:=Xy.mp (hp.mem_iff.mp ha);obtain⟨q,qq,rfl⟩:=Xy.mp hb;have z1:=pm.mem_iff.mp pp;have z2:=few p ((ma p).mp z1).1;have y2:=few q ((ma q).mp qq).1;have z3:=CP.mp z1;have y3:=CP.mp qq;unfold Nt at le ge;rw[Rb,Rb]at le ge;have e:p=q:=Prod.ext (by lia) (by lia);rw[e]
 ·rw[ZC];refine (List.Pairwise.and_mem.mp (Jf h)).imp λ{p q} ⟨hp,hq,z⟩=>?_;have p2:=few p ((ma p).mp hp).1;have q2:=few q ((ma q).mp hq).1;have p3:=CP.mp hp;have q3:=CP.mp hq;unfold Nt;rw[Rb,Rb];lia
theorem Wx(p q:qX):PyData.eqv (.tuple (([(p.1:Int),(p.2:Int)]).map PyData.int)) (.tuple (([(q.1:Int),(q.2:Int)]).map PyData.int))=decide (p=q):=by
 by_cases e:p=q
 ·rw[e,Qu,qH rfl]
 ·rw[qI e,Bool.eq_false_iff];intro h;have z:=(Op [(p.1:Int),(p.2:Int)] [(q.1:Int),(q.2:Int)]).mp h
  injection z with z1 z2
  injection z2 with z2 _
  exact e (Prod.ext (by lia) (by lia))
theorem Mq{g:Int}(hg:2<=g){lo low:Int}{m:Nat}(hl:(a7.length:Int)=g^m)(hc:∀j,j<m->A1 g a7 (g^(m-1-j))=true->lo+(j:Int)=low/\low'=low):Dd g low (Dd g lo a7 m low 1) 1 low 2=Dd g lo a7 m low' 2:=by refine LF hg (Ba hg _ _ _ _ _) (Ba hg _ _ _ _ _) λw hw hb=>?_;have e1:=D5 hg low (Dd g lo a7 m low 1) 1 low hb;have e2:=D5 hg lo a7 m low' hb;rw[hw]at e1 e2;rw[e1,e2];have b1:=Ep hg hb (low-low) 1;have e3:=D5 hg lo a7 m low b1;rw[CH]at e3;rw[e3];refine G5 hg hl (Ep hg b1 _ _) (Ep hg hb _ _) (CH ..) (CH ..) λj hj hcj=>?_;obtain⟨a,b⟩:=hc j hj hcj;rw[FD _ _ hj,FD _ _ hj,show lo-low+(j:Int)=((0:Nat):Int) by lia,show lo-low'+(j:Int)=((0:Nat):Int) by lia,Fk (by rw[CH];decide),Fk (by lia),FD _ _ (by decide),Int.sub_self,show (0:Int)+((0:Nat):Int)=((0:Nat):Int) from rfl,Fk (by lia)]
theorem Nu{g:Int}(hg:2<=g){lo:Int}{m:Nat}(hl:(a7.length:Int)=g^m)(fw:B1 g lo a7 m lf tf mf){l:List Nat}(e:((List.range m).filter λj=>A1 g a7 (g^(m-1-j)))=l):
  (l=[]->mf=2/\tf=Dd g lo a7 m lo 2)/\(l≠[]->mf=max 2 (l.getD (l.length-1) 0-l.getD 0 0+1)/\tf=Dd g lo a7 m (lo+((l.getD 0 0:Nat):Int)) mf/\l.getD 0 0<=l.getD (l.length-1) 0/\l.getD (l.length-1) 0<m):=by
 obtain⟨low,M,n,e1,z⟩:=fw;refine⟨λh=>?_,λh=>?_⟩
 ·have cl:BC g lo a7 m=[]:=by unfold BC;rw[e,h];rfl
  obtain⟨rfl,rfl⟩:=n.uniq (G8 cl);rcases z with⟨_,z1,z2⟩|z
  ·rw[z2];refine⟨z1,Mq hg hl λj hj hc=>?_⟩;have:j∈([]:List Nat):=by rw[<-h,<-e];exact YB.mpr ⟨X1.mpr hj,hc⟩
   exact qG this X7
  ·lia
 ·have hne:0<l.length:=ZQ.mpr h;have hp:l.Pairwise (·<·):=by rw[<-e];exact Eg _ _
  have hm:∀j,j∈l↔j<m/\A1 g a7 (g^(m-1-j))=true:=λj=>by rw[<-e,YB,X1]
  have le:=EL hp _ (D7 hne);have m1:=(hm _).mp (D7 (show l.length-1<l.length by lia));have cl:BC g lo a7 m≠[]:=by unfold BC;rw[e];exact λz=>h (List.map_eq_nil_iff.mp z)
  obtain⟨M',eM,_,n'⟩:=Fl cl;obtain⟨rfl,rfl⟩:=n.uniq n';have el:BC g lo a7 m=l.map λj:Nat=>lo+(j:Int):=by unfold BC;rw[e]
  rw[el,Xf,Bi (show l.length-1<l.length by lia),Bi hne]at eM;have e0:(BC g lo a7 m).getD 0 0=lo+((l.getD 0 0:Nat):Int):=by rw[el,Bi hne]
  rw[e0]at z n;rcases z with⟨z0,z1,z2⟩|⟨z0,z1,z2⟩
  ·subst z1;refine⟨by lia,?_,le,m1.1⟩;rw[z2];exact Mq hg hl λj hj hc=>⟨by have:=n.all j hj hc;lia,rfl⟩
  ·subst z1;exact⟨by lia,z2,le,m1.1⟩
noncomputable def N1(tf:qW)(i:Nat)(v:Int):List Nat:=(List.range i).filter λk=>decide (tf.getD k 0=v)
noncomputable def Ji(tf:qW)(i:Nat)(v:Int):qW:=(N1 tf i v).map λk:Nat=>(k:Int)
theorem Rc(tf:qW)(i:Nat)(v:Int):Ji tf (i+1) v=if tf.getD i 0=v then Ji tf i v++[((i:Nat):Int)] else Ji tf i v:=by
 unfold Ji N1;rw[Yb,Yj]
 by_cases z:tf.getD i 0=v
 ·rw[qF z,HK (p:=λk=>decide (tf.getD k 0=v)) (qH z),Xp];rfl
 ·rw[qE z,GF (p:=λk=>decide (tf.getD k 0=v)) (qI z),X6]
theorem Ln(tf:qW)(i:Nat)(v:Int):(N1 tf i v).length<=i:=by unfold N1;exact YG (Ye ..) (by rw[YF];exact Xi _)
theorem Gc{i:Nat}{v:Int}{k:Nat}:k∈N1 tf i v↔k<i/\tf.getD k 0=v:=by unfold N1;rw[YB,X1,decide_eq_true_eq]
noncomputable def SS(G h l r:Nat):(qX)×(qX):=(C9 (l/G,r/G),C9 (l%h,r%h))
noncomputable def Tr(s:(qX)×(qX)):Bool:=decide (s.1≠(0,0)\/s.2≠(0,0))
noncomputable def QP(G h:Nat)(ws:List Nat)(l:Nat):List ((qX)×(qX)):=(ws.map (SS G h l)).filter Tr
theorem P1{h:Nat}{ws:List Nat}{l k r:Nat}(hr:ws[k]?=some r):QP G h (ws.take (k+1)) l=QP G h (ws.take k) l++(if Tr (SS G h l r)=true then[SS G h l r] else[]):=by
 unfold QP;rw[YM,hr,show (some r).toList=[r] from rfl,Xp,Yj]
 by_cases z:Tr (SS G h l r)=true
 ·rw[qF z];exact qP _ (HK z)
 ·rw[qE z];exact qP _ (GF (by cases y:Tr (SS G h l r);rfl;exact qG y z))
noncomputable def Nv(G h:Nat)(ws:List Nat)(j:Nat):List ((qX)×(qX)):=(ws.take j).flatMap (QP G h ws)
theorem Kf{h:Nat}{ws:List Nat}{l:Nat}(hl:ws[j]?=some l):Nv G h ws (j+1)=Nv G h ws j++QP G h ws l:=by unfold Nv;rw[YM,hl,show (some l).toList=[l] from rfl,Y0,ZB,ZF,X6]
noncomputable def Nw(G h:Nat)(tf A:qW)(i:Nat):List ((qX)×(qX)):=(A.take i).flatMap λv=>Nv G h (N1 tf tf.length v) (N1 tf tf.length v).length
theorem Kg{h:Nat}{A:qW}{i:Nat}{v:Int}(hv:A[i]?=some v):Nw G h tf A (i+1)=Nw G h tf A i++Nv G h (N1 tf tf.length v) (N1 tf tf.length v).length:=by unfold Nw;rw[YM,hv,show (some v).toList=[v] from rfl,Y0,ZB,ZF,X6]
theorem FW{a b:Nat}:C9 (a,b)=(0,0)↔a=b:=by
 unfold C9;constructor
 ·intro z
  by_cases e:a=b
  ·exact e
  ·rw[qE e]at z;cases z;rfl
 ·intro e;rw[qF e]
theorem Re{h:Nat}{A:qW}(G1:1<=G)(gh:h%G=0)(hl:tf.length=h*G)(hA:∀v,v∈A↔v∈tf)(a b:qX):(a,b)∈Nw G h tf A A.length↔LW G h tf a b:=by
 unfold Nw Nv QP LW;rw[YK,<-hl];simp only[List.take_length,List.mem_flatMap,List.mem_filter,List.mem_map];constructor
 ·rintro⟨v,hv,l,hl',⟨r,hr,e⟩,ok⟩;obtain⟨l1,l2⟩:=Gc.mp hl';obtain⟨r1,r2⟩:=Gc.mp hr;unfold SS at e;cases e;refine⟨l,r,l1,r1,λe=>?_,by rw[l2,r2],rfl,rfl⟩;subst e;unfold Tr at ok;rw[Cp,Cp]at ok;exact qG ok (by decide)
 ·rintro⟨l,r,l1,r1,ne,e,rfl,rfl⟩;refine⟨tf.getD l 0,(hA _).mpr ?_,l,Gc.mpr ⟨l1,rfl⟩,⟨r,Gc.mpr ⟨r1,e.symm⟩,rfl⟩,qH ?_⟩
  ·rw[Xk,Xj l1];exact YY _
  ·by_cases z:C9 (l/G,r/G)=(0,0)
   ·refine .inr λy=>ne ?_
    have z1:=FW.mp z;have y1:=FW.mp y;have d:G∣h:=Nat.dvd_of_mod_eq_zero gh
    have e1:l%G=r%G:=by have:=qP (·%G) y1;simp only[Nat.mod_mod_of_dvd _ d]at this;exact this
    have:=Y6 l G;have:=Y6 r G;rw[z1,e1]at *;lia
   ·exact .inl z
theorem Mr(G h:Nat)(ws:List Nat)(l:Nat):(QP G h ws l).length<=ws.length:=by unfold QP;exact YG (Ye ..) (by rw[Xf];exact Xi _)
theorem Ms(G h:Nat)(ws:List Nat):∀j,(Nv G h ws j).length<=j*ws.length:=by
 intro j
 induction j with
 |zero=>exact X4 _
 |succ j ih =>
  by_cases z:j<ws.length
  ·rw[Kf (Xj z),Xt,Z0,Nat.one_mul];exact Nat.add_le_add ih (Mr ..)
  ·have:Nv G h ws (j+1)=Nv G h ws j:=by
    unfold Nv;rw[YX (by lia),YX (by lia)]
   rw[this,Z0];lia
theorem Rf(G h:Nat)(tf A:qW)(n:Nat)(hn:tf.length<=n):∀i,(Nw G h tf A i).length<=i*(n*n):=by
 intro i
 induction i with
 |zero=>exact X4 _
 |succ i ih =>
  by_cases z:i<A.length
  ·rw[Kg (Xj z),Xt,Z0,Nat.one_mul];refine Nat.add_le_add ih (YG (Ms ..) ?_);have:=Ln tf tf.length A[i];exact Yo (by lia) (by lia)
  ·have:Nw G h tf A (i+1)=Nw G h tf A i:=by
    unfold Nw;rw[YX (by lia),YX (by lia)]
   rw[this,Z0];lia
noncomputable def N3(h i:Nat):List (qX):=((List.range i).filter λk=>decide (k/h≠k%h)).map λk=>(k/h,k%h)
theorem P2(h i:Nat):N3 h (i+1)=if i/h=i%h then N3 h i else N3 h i++[(i/h,i%h)]:=by
 unfold N3;rw[Yb,Yj]
 by_cases z:i/h=i%h
 ·rw[qF z,GF (p:=λk=>decide (k/h≠k%h)) (qI λy=>y z),X6]
 ·rw[qE z,HK (p:=λk=>decide (k/h≠k%h)) (qH z),Xp];rfl
theorem Jg(h i:Nat):(N3 h i).length<=i:=by unfold N3;rw[Xf];exact YG (Ye ..) (by rw[YF];exact Xi _)
theorem Lo{h:Nat}(h0:0<h):N3 h (h*h)=Cz h:=by
 have pw:(N3 h (h*h)).Pairwise λp q=>p.1<q.1\/(p.1=q.1/\p.2<q.2):=by
  unfold N3;rw[ZC];refine (List.Pairwise.filter _ ZU).imp λ{a b} lt=>?_;show a/h<b/h\/a/h=b/h/\a%h<b%h;have d:=Nat.div_le_div_right (c:=h) (Y9 lt);rcases Nat.lt_or_ge (a/h) (b/h) with z|z
  ·exact .inl z
  ·have e:a/h=b/h:=by lia
   have x:=Y6 a h;have y:=Y6 b h;rw[e]at x;exact .inr ⟨e,by lia⟩
 have nd:(N3 h (h*h)).Nodup:=pw.imp λ{a b} z e=>by rw[e]at z;lia
 refine List.Perm.eq_of_pairwise (le:=λp q=>p.1<q.1\/(p.1=q.1/\p.2<q.2)) (λa b _ _ x y=>by lia) pw (Jf h) ((List.perm_ext_iff_of_nodup nd (Ex h)).mpr λp=>?_);rw[CP];unfold N3;rw[Xy];constructor
 ·rintro⟨k,hk,rfl⟩;obtain⟨h1,h2⟩:=YB.mp hk;exact⟨Yc (X1.mp h1),Yn _ h0,qN h2⟩
 ·rintro⟨h1,h2,h3⟩;have e1:(p.1*h+p.2)/h=p.1:=by rw[ZP,Nat.mul_add_div h0,Nat.div_eq_of_lt h2,Zn]
  have e2:(p.1*h+p.2)%h=p.2:=by rw[ZP,Nat.mul_add_mod,Yx h2]
  have e3:p.1*h+p.2<h*h:=by have:=Z9 h (show p.1+1<=h from h1);rw[Z0,Nat.one_mul]at this;lia
  exact⟨p.1*h+p.2,YB.mpr ⟨X1.mpr e3,qH (by rw[e1,e2];exact h3)⟩,by rw[e1,e2]⟩
theorem ER(G:qX->V):∀A:List (qX),Ae A (A.map G)=A.map λp=>(A8 p,G p)
 |[]=>rfl
 |a::A=>qP ((A8 a,G a)::·) (ER G A)
theorem Nx{A:List (qX)}{F:qX->Nat}{a:qX}{n:Nat}(h:a∈A):CV (Ae A (A.map λp=>V.int ((F p:Nat):Int))) (A8 a) (.int (n:Int))=Ae A (A.map λp=>V.int (((if p=a then n else F p):Nat):Int)):=by
 have z:(BN (Ae A (A.map λp=>V.int ((F p:Nat):Int))) (A8 a)).isSome=true:=by rw[Et,qH h]
 unfold CV;rw[FJ,qF z,ER,ER,Za];refine YW λp _=>?_
 by_cases e:p=a
 ·subst e;simp
 ·have ne:¬A8 p=A8 a:=λy=>e (FP y)
  simp[e,ne]
end L2
namespace L2
open PySem PySem.Spec PyProof.Rows
variable{D:Ez}{H:Hp}{X:Cx}{a:qR}{a7:qW}{tl to:TE}{xs:List V}{α β:Type}{σ:St}
section
variable(K:qV)
theorem Cc(h:X.K=K:=by rfl):Rs X (Qd K):=h▸L7
theorem Bm(h:X.K=K:=by rfl):Rs X (Qe K):=h▸OI
theorem Jj(h:X.K=K:=by rfl):CJ X (.builtin "len") (λxs H Q=>∃p ys,xs=[V.ref p]/\(Af K H p ys\/Aa K H p ys)/\Q (.int ((ys.length:Nat):Int)) H):=h▸E6
theorem P3{tg l:Expr}(hl:PE X l tl)(h:X.K=K:=by rfl):PI X tg l (N9 K tl):=h▸Lu hl
theorem P4{o e:Expr}{t:TA}{apos cpos:Pos}(ho:PE X o to)(ha:PA X [e] t)(hK:X.K=K:=by rfl)
  (hbase:attributeBase o "append" X.env (eval o X.env)=eval o X.env:=by rfl)
  (hfew:((backTo cpos (starEach [e] X.env)).all (λx=>!x.1)&&(backToKw cpos (keywordEach [] X.env)).all (λx=>x.1.isSome)&&decide (([e]:List Expr).length+([]:List Keyword).length+(if ([]:List Keyword).isEmpty then 0 else 1)<30))=true:=by rfl)
  (hline:(apos.endLine==cpos.line)=true:=by rfl) (hs:starEach [e] X.env=(false,eval e X.env)::starEach [] X.env:=by rfl) (hplain:(backTo cpos (starEach [] X.env)).any (·.1)=false:=by rfl):
  PE X (.Call (.Attribute o "append" apos) [e] [] cpos) (WX K "list" Iy to t):=by
 subst hK;exact L8 Zs PySem.F.slot_list_append PySem.F.type_list_append Ff ho ha hbase hfew hline hs hplain
end
theorem CF{t u:TS}(Z:St->Hp->Prop)(h1:∀N:St->Hp->Prop,(∀σ' H',Z σ' H'->N σ' H')->t {D with nx:=N} σ H)(h2:∀G:St->Hp->Prop,(∀σ H,u D σ H->G σ H)->∀σ' H',Z σ' H'->G σ' H'):NA t u D σ H:=XY Z h1 (h2 _ λ_ _ z=>z)
theorem Kh{Pv:Nat->St->Hp->Prop}{g:TG}{tb:TS}{R:VK}{B0:St->Hp->Prop}
  (h:∀(C B:St->Hp->Prop) i x,∀G:St->Hp->Prop,(∀σ H,(g x σ H λσ2 H2=>tb {nx:=Pv (i+1),rt:=R,bk:=B,ct:=C} σ2 H2)->G σ H)->∀σ H,xs[i]?=some x->Pv i σ H->G σ H):
  ∀i x σ H,xs[i]?=some x->Pv i σ H->g x σ H λσ2 H2=>tb {nx:=Pv (i+1),rt:=R,bk:=B0,ct:=Pv (i+1)} σ2 H2:=λi x σ H hx p=>h _ _ i x _ (λ_ _ z=>z) σ H hx p
theorem Dn{n:Nat}{f:Nat->V}{Pv:Nat->St->Hp->Prop}{g:TG}{tb:TS}{R:VK}{B0:St->Hp->Prop}
  (h:∀(C B:St->Hp->Prop) i,∀G:St->Hp->Prop,(∀σ H,(g (f i) σ H λσ2 H2=>tb {nx:=Pv (i+1),rt:=R,bk:=B,ct:=C} σ2 H2)->G σ H)->∀σ H,i<n->Pv i σ H->G σ H):
  ∀i σ H,i<n->Pv i σ H->g (f i) σ H λσ2 H2=>tb {nx:=Pv (i+1),rt:=R,bk:=B0,ct:=Pv (i+1)} σ2 H2:=λi σ H hx p=>h _ _ i _ (λ_ _ z=>z) σ H hx p
theorem P5{A:Nat->V->α->β->Prop}{c:Nat->V->Prop}{Pv:Nat->α->β->Prop}(h:∀i x,∀G:α->β->Prop,(∀a b,A i x a b->G a b)->∀a b,c i x->Pv i a b->G a b):∀i x a b,c i x->Pv i a b->A i x a b:=λi x a b hc p=>h i x _ (λ_ _ z=>z) a b hc p
theorem F1{A:Nat->α->β->Prop}{c:Nat->Prop}{Pv:Nat->α->β->Prop}(h:∀i,∀G:α->β->Prop,(∀a b,A i a b->G a b)->∀a b,c i->Pv i a b->G a b):∀i a b,c i->Pv i a b->A i a b:=λi a b hc p=>h i _ (λ_ _ z=>z) a b hc p
theorem BV.el{r:qR}{g lo:Int}{P:Prop}(h:BV H r g lo a7)(k:∀tb,H r=some (.tup [.int g,.int lo,.ref tb])->H tb=some (.tup (a7.map V.int))->P):P:=by obtain⟨tb,h1,h2⟩:=h;exact k tb h1 h2
theorem C0{K:qV}{i:Int}{v:V}{Q:VK}(h:Af K H a xs)(hi:Kt xs i=some v)(q:Q v H):Qd K (.ref a) (.int i) H Q:=⟨a,xs,i,v,rfl,rfl,h,hi,q⟩
theorem CQ{K:qV}{i:Int}{v:V}{Q:VK}(h:Aa K H a xs)(hi:Kt xs i=some v)(q:Q v H):Qe K (.ref a) (.int i) H Q:=⟨a,xs,i,v,rfl,rfl,h,hi,q⟩
end L2
set_option hygiene false in
local macro_rules|`(tactic|walk_at "")=>`(tactic| ((try dsimp only[L2.OX,L2.Wm,L2.Rt,L2.NA,L2.N5,L2.QV,L2.U4,L2.Ro,L2.Uj,L2.XS,L2.Sg,L2.tC,L2.OQ,L2.Dt,L2.IC,L2.Ss,L2.Sr,L2.NB,L2.E1,L2.Rn,L2.WX,L2.WW,L2.Iy,L2.Uv,L2.OW,L2.SC,L2.Qs,L2.Cd,Option.join_some,L2.Uk,L2.JB,L2.Ob,L2.Wn,L2.U6,L2.Sz,L2.Us,L2.Ur,L2.XQ,L2.tB,L2.Rk,L2.Ut,L2.Rm,L2.rI,L2.QW,L2.rU,L2.Ql,L2.OS,L2.XW,L2.Rq,L2.L0,L2.CK,L2.Sm,L2.OB,L2.So,L2.XT,L2.XU,L2.MQ,L2.MS,L2.MT,L2.MR,List.map_cons,List.map_nil,List.length_cons,List.length_nil,List.cons_append,List.nil_append,List.replicate,List.getElem?_cons_zero,List.getElem?_cons_succ,List.set_cons_zero,List.set_cons_succ,Nat.reduceAdd,Nat.reduceSub]);try simp only[L2.OX,L2.Rt,L2.SC,L2.Cd,Option.join_some,L2.Wn,L2.OS,L2.CK,L2.Sm,L2.OB,L2.So,L2.MQ,L2.MS,L2.MT,L2.MR,List.map_cons,List.map_nil,List.length_cons,List.length_nil,List.cons_append,List.nil_append,List.replicate,List.getElem?_cons_zero,List.getElem?_cons_succ,List.set_cons_zero,List.set_cons_succ,Nat.reduceAdd,Nat.reduceSub,Option.some.injEq,L2.V.int.injEq,L2.V.bl.injEq,L2.V.ref.injEq,L2.V.str.injEq,List.cons.injEq,and_true,true_and,exists_eq_left',exists_eq_left,exists_eq_right,exists_and_left,exists_and_right,exists_eq,and_assoc,if_true,if_false,reduceIte,reduceCtorEq,not_true_eq_false,not_false_eq_true,Bool.false_eq_true,Bool.not_true,Bool.not_false,decide_eq_true_eq,Bool.not_eq_true',decide_eq_false_iff_not]))
namespace K51
open PySem L2 RW
def top(i:Nat):Stmt:=PySem.Challenge.pw_rowrules_k51_ranks_of_pairs.main.body.getD i (.Pass ⟨0,0,0,0⟩)
abbrev Ts:Stmt:=top 9
abbrev Tt:Stmt:=top 10
abbrev Tu:Stmt:=top 11
abbrev Wy:Stmt:=top 12
abbrev Tv:Stmt:=top 13
abbrev Tw:Stmt:=top 14
abbrev Tx:Stmt:=top 17
abbrev Tz:Stmt:=top 18
abbrev Wz:Stmt:=top 19
abbrev T0:Stmt:=top 20
abbrev T1:Stmt:=top 21
abbrev T2:Stmt:=top 22
abbrev T3:Stmt:=top 23
abbrev T4:Stmt:=top 24
abbrev T5:Stmt:=top 26
abbrev T6:Stmt:=top 27
abbrev W0:Stmt:=top 28
abbrev T7:Stmt:=top 29
abbrev T8:Stmt:=top 30
abbrev T9:Stmt:=top 31
abbrev UA:Stmt:=top 34
abbrev UB:Stmt:=top 36
abbrev UC:Stmt:=top 37
abbrev UD:Stmt:=top 40
abbrev UE:Stmt:=top 41
abbrev UF:Stmt:=top 42
abbrev UG:Stmt:=top 43
abbrev UH:Stmt:=top 44
abbrev UI:Stmt:=top 45
abbrev UJ:Stmt:=top 46
abbrev UK:Stmt:=top 47
abbrev UL:Stmt:=top 48
abbrev UM:Stmt:=top 51
abbrev UN:Stmt:=top 53
abbrev W1:Stmt:=top 54
abbrev W2:Stmt:=top 55
abbrev UO:Stmt:=top 56
abbrev UP:Stmt:=top 57
abbrev W3:Stmt:=top 58
abbrev UQ:Stmt:=top 59
abbrev UR:Stmt:=top 60
abbrev US:Stmt:=top 61
abbrev W4:Stmt:=top 62
abbrev UT:Stmt:=top 63
abbrev UU:Stmt:=top 64
abbrev UV:Stmt:=top 65
abbrev UW:Stmt:=top 66
abbrev UX:Stmt:=top 67
abbrev UY:Stmt:=top 68
abbrev W5:Stmt:=top 69
abbrev UZ:Stmt:=top 70
abbrev W6:Stmt:=top 71
abbrev Ua:Stmt:=top 72
abbrev Ub:Stmt:=top 73
abbrev Uc:Stmt:=top 74
abbrev W7:Stmt:=top 75
abbrev Rg:Stmt:=top 76
set_option genInjectivity false
structure Xb where
 (c_41 c_51 c_57 c_52 c_40 c_46 c_27:qR)
 (f_45 f_47 f_20 f_5 f_39 f_50 f_19 f_25 f_6 f_10 f_62 f_56 f_38 f_59 f_53 f_44 f_2 f_37 f_55 f_49 f_58 f_11 f_21 f_48 f_36 f_26 f_43 f_54 f_23 f_24 f_60 f_22 f_61 f_18 f_3 f_8 f_14 f_35 f_9 f_13 f_32 f_17 f_0 f_29 f_33 f_28 f_42 f_31 f_34 f_7 f_12 f_1 f_16 f_15 f_30 f_4 f_63:qR)
 (k_EVEN:qR)
 (cc_28 p_28:qR)
structure B5(K:qV)(mg:Str->Option qQ)(t:Xb):Prop where
 m_41:mg "RowError"=some (.ref t.c_41)
 m_51:mg "NoRule"=some (.ref t.c_51)
 m_57:mg "NoRow"=some (.ref t.c_57)
 m_52:mg "NoSuch"=some (.ref t.c_52)
 m_40:mg "NoWindow"=some (.ref t.c_40)
 m_46:mg "TooWide"=some (.ref t.c_46)
 m_27:mg "NoWayBack"=some (.ref t.c_27)
 m_EVEN:mg "EVEN"=some (.ref t.k_EVEN)
 q_EVEN:MZ K t.k_EVEN [0,0]=true
 m_45:mg "is_whole"=some (.ref t.f_45)
 d_45:∃fd,Bh K "is_whole" "is_whole" Ts t.f_45 fd
 m_47:mg "is_sign"=some (.ref t.f_47)
 d_47:∃fd,Bh K "is_sign" "is_sign" Tt t.f_47 fd
 m_20:mg "check_word"=some (.ref t.f_20)
 d_20:∃fd,Bh K "check_word" "check_word" Tu t.f_20 fd
 m_5:mg "check_length"=some (.ref t.f_5)
 d_5:∃fd,Bh K "check_length" "check_length" Wy t.f_5 fd
 m_39:mg "number_of"=some (.ref t.f_39)
 d_39:∃fd,Bh K "number_of" "number_of" Tv t.f_39 fd
 m_50:mg "word_of"=some (.ref t.f_50)
 d_50:∃fd,Bh K "word_of" "word_of" Tw t.f_50 fd
 m_19:mg "check_head"=some (.ref t.f_19)
 d_19:∃fd,Bh K "check_head" "check_head" Tx t.f_19 fd
 m_25:mg "places_for"=some (.ref t.f_25)
 d_25:∃fd,Bh K "places_for" "places_for" Tz t.f_25 fd
 m_6:mg "table_length"=some (.ref t.f_6)
 d_6:∃fd,Bh K "table_length" "table_length" Wz t.f_6 fd
 m_10:mg "check_table"=some (.ref t.f_10)
 d_10:∃fd,Bh K "check_table" "check_table" T0 t.f_10 fd
 m_62:mg "rule"=some (.ref t.f_62)
 d_62:∃fd,Bh K "rule" "rule" T1 t.f_62 fd
 m_56:mg "places"=some (.ref t.f_56)
 d_56:∃fd,Bh K "places" "places" T2 t.f_56 fd
 m_38:mg "next_sign"=some (.ref t.f_38)
 d_38:∃fd,Bh K "next_sign" "next_sign" T3 t.f_38 fd
 m_59:mg "heads"=some (.ref t.f_59)
 d_59:∃fd,Bh K "heads" "heads" T4 t.f_59 fd
 m_53:mg "counts"=some (.ref t.f_53)
 d_53:∃fd,Bh K "counts" "counts" T5 t.f_53 fd
 m_44:mg "counting"=some (.ref t.f_44)
 d_44:∃fd,Bh K "counting" "counting" T6 t.f_44 fd
 m_2:mg "sign_or_nought"=some (.ref t.f_2)
 d_2:∃fd,Bh K "sign_or_nought" "sign_or_nought" W0 t.f_2 fd
 m_37:mg "by_window"=some (.ref t.f_37)
 d_37:∃fd,Bh K "by_window" "by_window" T7 t.f_37 fd
 m_55:mg "narrow"=some (.ref t.f_55)
 d_55:∃fd,Bh K "narrow" "narrow" T8 t.f_55 fd
 m_49:mg "widened"=some (.ref t.f_49)
 d_49:∃fd,Bh K "widened" "widened" T9 t.f_49 fd
 m_58:mg "frame"=some (.ref t.f_58)
 d_58:∃fd,Bh K "frame" "frame" UA t.f_58 fd
 m_11:mg "turned_back"=some (.ref t.f_11)
 d_11:∃fd,Bh K "turned_back" "turned_back" UB t.f_11 fd
 m_21:mg "most_steps"=some (.ref t.f_21)
 d_21:∃fd,Bh K "most_steps" "most_steps" UC t.f_21 fd
 m_48:mg "pair_of"=some (.ref t.f_48)
 d_48:∃fd,Bh K "pair_of" "pair_of" UD t.f_48 fd
 m_36:mg "all_pairs"=some (.ref t.f_36)
 d_36:∃fd,Bh K "all_pairs" "all_pairs" UE t.f_36 fd
 m_26:mg "word_pairs"=some (.ref t.f_26)
 d_26:∃fd,Bh K "word_pairs" "word_pairs" UF t.f_26 fd
 m_43:mg "begin_of"=some (.ref t.f_43)
 d_43:∃fd,Bh K "begin_of" "begin_of" UG t.f_43 fd
 m_54:mg "end_of"=some (.ref t.f_54)
 d_54:∃fd,Bh K "end_of" "end_of" UH t.f_54 fd
 m_23:mg "pair_nexts"=some (.ref t.f_23)
 d_23:∃fd,Bh K "pair_nexts" "pair_nexts" UI t.f_23 fd
 m_24:mg "pair_ranks"=some (.ref t.f_24)
 d_24:∃fd,Bh K "pair_ranks" "pair_ranks" UJ t.f_24 fd
 m_60:mg "ranks"=some (.ref t.f_60)
 d_60:∃fd,Bh K "ranks" "ranks" UK t.f_60 fd
 m_22:mg "one_to_one"=some (.ref t.f_22)
 d_22:∃fd,Bh K "one_to_one" "one_to_one" UL t.f_22 fd
 m_61:mg "twins"=some (.ref t.f_61)
 d_61:∃fd,Bh K "twins" "twins" UM t.f_61 fd
 m_18:mg "_law_whole"=some (.ref t.f_18)
 d_18:∃fd,Bh K "_law_whole" "_law_whole" UN t.f_18 fd
 m_3:mg "_law_cell_at"=some (.ref t.f_3)
 d_3:∃fd,Bh K "_law_cell_at" "_law_cell_at" W1 t.f_3 fd
 m_8:mg "_law_stream"=some (.ref t.f_8)
 d_8:∃fd,Bh K "_law_stream" "_law_stream" W2 t.f_8 fd
 m_14:mg "_law_power"=some (.ref t.f_14)
 d_14:∃fd,Bh K "_law_power" "_law_power" UO t.f_14 fd
 m_35:mg "_law_word"=some (.ref t.f_35)
 d_35:∃fd,Bh K "_law_word" "_law_word" UP t.f_35 fd
 m_9:mg "_law_tracks"=some (.ref t.f_9)
 d_9:∃fd,Bh K "_law_tracks" "_law_tracks" W3 t.f_9 fd
 m_13:mg "_law_marks"=some (.ref t.f_13)
 d_13:∃fd,Bh K "_law_marks" "_law_marks" UQ t.f_13 fd
 m_32:mg "_law_sums"=some (.ref t.f_32)
 d_32:∃fd,Bh K "_law_sums" "_law_sums" UR t.f_32 fd
 m_17:mg "_law_three"=some (.ref t.f_17)
 d_17:∃fd,Bh K "_law_three" "_law_three" US t.f_17 fd
 m_0:mg "_law_steps_down"=some (.ref t.f_0)
 d_0:∃fd,Bh K "_law_steps_down" "_law_steps_down" W4 t.f_0 fd
 m_29:mg "_law_flip"=some (.ref t.f_29)
 d_29:∃fd,Bh K "_law_flip" "_law_flip" UT t.f_29 fd
 m_33:mg "_law_told"=some (.ref t.f_33)
 d_33:∃fd,Bh K "_law_told" "_law_told" UU t.f_33 fd
 m_28:mg "_law_core"=some (.ref t.f_28)
 d_28:∃fd,Tj K "_law_core" "_law_core" UV t.f_28 t.cc_28 t.p_28 fd
 hd_28:PySem.W.codeHdIn K t.cc_28 t.p_28=true
 m_42:mg "_law_low"=some (.ref t.f_42)
 d_42:∃fd,Bh K "_law_low" "_law_low" UW t.f_42 fd
 m_31:mg "_law_seen"=some (.ref t.f_31)
 d_31:∃fd,Bh K "_law_seen" "_law_seen" UX t.f_31 fd
 m_34:mg "_law_wide"=some (.ref t.f_34)
 d_34:∃fd,Bh K "_law_wide" "_law_wide" UY t.f_34 fd
 m_7:mg "_law_counts"=some (.ref t.f_7)
 d_7:∃fd,Bh K "_law_counts" "_law_counts" W5 t.f_7 fd
 m_12:mg "_law_frame"=some (.ref t.f_12)
 d_12:∃fd,Bh K "_law_frame" "_law_frame" UZ t.f_12 fd
 m_1:mg "_law_not_small"=some (.ref t.f_1)
 d_1:∃fd,Bh K "_law_not_small" "_law_not_small" W6 t.f_1 fd
 m_16:mg "_law_steps"=some (.ref t.f_16)
 d_16:∃fd,Bh K "_law_steps" "_law_steps" Ua t.f_16 fd
 m_15:mg "_law_ranks"=some (.ref t.f_15)
 d_15:∃fd,Bh K "_law_ranks" "_law_ranks" Ub t.f_15 fd
 m_30:mg "_law_good"=some (.ref t.f_30)
 d_30:∃fd,Bh K "_law_good" "_law_good" Uc t.f_30 fd
 m_4:mg "_law_refused"=some (.ref t.f_4)
 d_4:∃fd,Bh K "_law_refused" "_law_refused" W7 t.f_4 fd
 m_63:mg "law"=some (.ref t.f_63)
 d_63:∃fd,Bh K "law" "law" Rg t.f_63 fd
 z_len:mg "len"=none
 z_list:mg "list"=none
 z_reversed:mg "reversed"=none
 z_isinstance:mg "isinstance"=none
 z_range:mg "range"=none
 z_int:mg "int"=none
 z_bool:mg "bool"=none
 z_ValueError:mg "ValueError"=none
 z_tuple:mg "tuple"=none
 z_enumerate:mg "enumerate"=none
 z_min:mg "min"=none
 z_max:mg "max"=none
 z_sorted:mg "sorted"=none
 z_all:mg "all"=none
 z_zip:mg "zip"=none
 g_LONGEST_TABLE:∃k,mg "LONGEST_TABLE"=some (.int 256 k)
 g_MOST_NODES:∃k,mg "MOST_NODES"=some (.int 9 k)
 x_40:PySem.W.excIn K t.c_40 OO "ValueError.__new__"=true
 x_46:PySem.W.excIn K t.c_46 OO "ValueError.__new__"=true
 ek_46:K1 K t.c_46
 kt_46_46:PySem.W.kitOne K (.ref t.c_46) (.ref t.c_46)=some true
 kt_TooWide_ValueError:PySem.W.kitOne K (.ref t.c_46) (.type "ValueError")=some true
 kt_46_57:PySem.W.kitOne K (.ref t.c_46) (.ref t.c_57)=some false
 kt_46_27:PySem.W.kitOne K (.ref t.c_46) (.ref t.c_27)=some false
 em_46_41:PySem.W.exmOne K (.ref t.c_46) (.ref t.c_41)=some true
abbrev LP:Pos:=⟨305,47,305,91⟩
inductive Ey(vs:List V)(H:Hp)(Q:VK)(z3_:XK):Prop
 |m (r:qR) (g lo:Int) (a7:qW) (m j:Nat):vs=[.ref r,.int ((m:Nat):Int),.int ((j:Nat):Int)]->2<=g->g<=9->BV H r g lo a7->(a7.length:Int)=g^m->j<m->m<=8->g^m<=256->Q (.bl (A1 g a7 (g^(m-1-j)))) H->Ey vs H Q z3_
inductive Jh(vs:List V)(H:Hp)(Q:VK)(z3_:XK):Prop
 |m (c:Int):vs=[.int c]->(∀lo:Int,Q (.int lo) H)->Jh vs H Q z3_
inductive Hr(pos:Pos)(Pt:qR)(vs:List V)(H:Hp)(Q:VK)(z3_:XK):Prop
 |m (c1 c2 lo:Int):vs=[.int c1,.int c2,.int lo]->Cb pos (Tn "_law_core") Pt H->(∀(p r:qR) (H':Hp) (g:Int) (a7:qW) (m:Nat) (d:Int) (tf:qW) (mf top:Nat),DB Pt H H'->Cb pos (Tn "_law_core") Pt H'->H' p=some (.lst [.ref r,.int ((m:Nat):Int)])->Av H' r g lo a7 m->Fy g a7 m (Xa c1 c2) d tf mf top->Q (.ref p) H')->Hr pos Pt vs H Q z3_
noncomputable def F2(g:Int):Int:=([6,4,3,3,3,2,2,2]:qW).getD (g-2).toNat 0
theorem Ik{g:Int}(g2:2<=g)(g9:g<=9):2<=F2 g/\F2 g<=7/\(g<3->4<=F2 g)/\g^(F2 g).toNat<=256:=by
 obtain rfl|rfl|rfl|rfl|rfl|rfl|rfl|rfl:g=2\/g=3\/g=4\/g=5\/g=6\/g=7\/g=8\/g=9:=by lia
 all_goals exact⟨by decide,by decide,by decide,by decide⟩
theorem Ki{g:Int}(g2:2<=g)(g9:g<=9){m:Nat}(m4:m<=4)(m3:3<=g->m<=2):(m:Int)<=F2 g:=by
 have z:=Ik g2 g9
 by_cases c:3<=g
 ·have:=m3 c;lia
 ·have:=z.2.2.1 (by lia);lia
inductive Hs(vs:List V)(H:Hp)(Q:VK)(z3_:XK):Prop
 |m (r:qR) (g lo:Int) (a7:qW) (m:Nat) (c:Int):vs=[.ref r,.int ((m:Nat):Int),.int c]->Av H r g lo a7 m->m<=4->(3<=g->m<=2)->(∀(r':qR) (lo':Int) (tab':qW) (M:Nat) (H':Hp),AG H H'->Av H' r' g lo' tab' M->CU g lo' tab' M lo a7 m->Q (.ref r') H')->Hs vs H Q z3_
inductive F3(K:qV)(vs:List V)(H:Hp)(Q:VK)(z3_:XK):Prop
 |m (p:qR) (lo:Int) (l:qW):vs=[.ref p,.int lo]->Af K H p (l.map V.int)->l.length=8->(∀x∈l,0<=x/\x<2147483647)->(∀(r':qR) (g:Int) (a7:qW) (m:Nat) (H':Hp),AG H H'->Av H' r' g lo a7 m->B1 g lo a7 m lo a7 m->9<g^(m-1)->Q (.ref r') H')->F3 K vs H Q z3_
noncomputable def QQ(g:Int)(i j:Nat)(w:qW):Int:=(w.getD 0 0+w.getD (w.length-1) 0*(g-1)+w.getD i 0*w.getD j 0)%g
noncomputable def QR(g:Int)(m i j:Nat):qW:=(List.range (g^m).toNat).map λk:Nat=>QQ g i j (BD g (k:Int) m)
theorem Mt{g:Int}(g2:2<=g)(m i j:Nat):((QR g m i j).length:Int)=g^m:=by have:=RW.Ao g2 m;unfold QR;rw[Xf,YF];lia
theorem Ud{g:Int}(g2:2<=g)(m i j:Nat):∀n∈QR g m i j,0<=n/\n<g:=by intro n hn;obtain⟨k,_,rfl⟩:=Xy.mp hn;exact⟨Y4 _ (by lia),Y7 _ (by lia)⟩
theorem P6{g:Int}(g2:2<=g){m:Nat}(i j:Nat){w:qW}(l:w.length=m)(b:∀n∈w,0<=n/\n<g):(QR g m i j).getD (BM g w).toNat 0=QQ g i j w:=by subst l;have z:=DG g2 b;unfold QR;rw[Xk,Xl,Zk (by lia)];show QQ g i j (BD g (((BM g w).toNat:Nat):Int) w.length)=_;rw[YN z.1,EJ g2 b]
theorem GG{m c:Nat}(hc:c<m)(v:Int)(t:Nat):((List.replicate m (0:Int)).set c v).getD t 0=if t=c then v else 0:=by
 rw[Xk,List.getElem?_set,Ys]
 by_cases z:t=c
 ·rw[qF z.symm,qF z,qF hc];rfl
 ·rw[qE (λy=>z y.symm),qE z,List.getElem?_replicate]
  split<;>rfl
theorem P7{g:Int}(g2:2<=g){m i j:Nat}(i1:1<=i)(im:i+1<m)(j1:1<=j)(jm:j+1<m):A1 g (QR g m i j) (g^(m-1))=true/\A1 g (QR g m i j) 1=true:=by
 have key:∀c,c<m->QQ g i j ((List.replicate m (0:Int)).set c 1)≠QQ g i j ((List.replicate m (0:Int)).set c 0)->A1 g (QR g m i j) (g^(m-1-c))=true:=by
  intro c hc ne
  have bd:∀v:Int,0<=v->v<g->∀n∈(List.replicate m (0:Int)).set c v,0<=n/\n<g:=by
   intro v v0 vg n hn;rcases List.mem_or_eq_of_mem_set hn with z|z
   ·rw[(List.mem_replicate.mp z).2];lia
   ·lia
  refine (G7 g2 (Mt g2 ..) hc).mpr ⟨(List.replicate m (0:Int)).set c 1,by rw[ZL,Ys],bd 1 (by lia) (by lia),?_⟩;rw[List.set_set,P6 g2 _ _ (by rw[ZL,Ys]) (bd 1 (by lia) (by lia)),P6 g2 _ _ (by rw[ZL,Ys]) (bd 0 (by lia) (by lia))];exact ne
 have e0:∀v:Int,QQ g i j ((List.replicate m (0:Int)).set 0 v)=v%g:=λv=>by
  have h:0<m:=by lia
  unfold QQ;rw[ZL,Ys,GG h v 0,GG h v (m-1),GG h v i,GG h v j,qF rfl,qE (by lia),qE (by lia),qE (by lia),ZZ,ZZ,ZA,ZA]
 have e1:∀v:Int,QQ g i j ((List.replicate m (0:Int)).set (m-1) v)=v*(g-1)%g:=λv=>by
  have h:m-1<m:=by lia
  unfold QQ;rw[ZL,Ys,GG h v 0,GG h v (m-1),GG h v i,GG h v j,qE (by lia),qF rfl,qE (by lia),qE (by lia),ZZ,YJ,ZA]
 have z:=key 0 (by lia) (by rw[e0,e0,Ym (by lia) (by lia),Ym (by lia) (by lia)];decide);have y:=key (m-1) (by lia) (by rw[e1,e1,ZI,ZZ,Ym (by lia) (by lia),Ym (by lia) (by lia)];lia);rw[Nat.sub_zero]at z;rw[show m-1-(m-1)=0 by lia,Ya]at y;exact⟨z,y⟩
theorem Rh{g x:Int}(g2:2<=g)(g6:g<=6):let b:=([4,2,2,1,1]:qW).getD (g-2).toNat 0;0<b/\∃m:Nat,(m:Int)=([5,4,3,3,3]:qW).getD (g-2).toNat 0+x%b/\3<=m/\m<=8/\g^m<=256/\9<g^(m-1):=by
 obtain rfl|rfl|rfl|rfl|rfl:g=2\/g=3\/g=4\/g=5\/g=6:=by lia
 ·have h:x%4=0\/x%4=1\/x%4=2\/x%4=3:=by lia
  refine⟨by decide,(5+x%4).toNat,?_⟩;show (((5+x%4).toNat:Nat):Int)=5+x%4/\_;rcases h with h|h|h|h<;>rw[h]<;>decide
 ·have h:x%2=0\/x%2=1:=by lia
  refine⟨by decide,(4+x%2).toNat,?_⟩;show (((4+x%2).toNat:Nat):Int)=4+x%2/\_;rcases h with h|h<;>rw[h]<;>decide
 ·have h:x%2=0\/x%2=1:=by lia
  refine⟨by decide,(3+x%2).toNat,?_⟩;show (((3+x%2).toNat:Nat):Int)=3+x%2/\_;rcases h with h|h<;>rw[h]<;>decide
 ·have h:x%1=0:=by lia
  refine⟨by decide,(3+x%1).toNat,?_⟩;show (((3+x%1).toNat:Nat):Int)=3+x%1/\_;rw[h];decide
 ·have h:x%1=0:=by lia
  refine⟨by decide,(3+x%1).toNat,?_⟩;show (((3+x%1).toNat:Nat):Int)=3+x%1/\_;rw[h];decide
theorem DB.seq{K:qV}{P:qR}{H H':Hp}{pos:Pos}{q:Str}(e:DB P H H')(t:Cb pos q P H){a:qR}{xs:List V}(h:Af K H a xs):Af K H' a xs:=by
 rcases h with (h|⟨o,h⟩)|h
 ·exact .inl (.inl (e.get t h λ_ z=>by cases z))
 ·exact .inl (.inr ⟨o,e.get t h λ_ z=>by cases z⟩)
 ·exact .inr h
def W8(K:qV)(H:Hp)(p D:qR)(h:Nat)(f:qX->Nat):Prop:=H p=some (.tup [.int ((f (0,0):Nat):Int),.ref D])/\∃ts:List qR,H D=some (.lst (ts.map V.ref))/\Paired (λt ns=>Aa K H t (ns.map V.int)) ts ((Cz h).map (Nt f))/\∀t∈ts,∃ys,H t=some (.tup ys)
inductive DS(K:qV)(CT:qR)(vs:List V)(H:Hp)(Q:VK)(E:XK):Prop
 |m (r:qR) (g lo:Int) (a7:qW) (m:Nat) (lf:Int) (tf:qW) (mf:Nat):vs=[.ref r]->Av H r g lo a7 m->B1 g lo a7 m lf tf mf->(9<g^(mf-1)->∀H',AG H H'->E (.ref CT) none H')->(Fz g tf mf->∀H',AG H H'->Q .non H')->(g^(mf-1)<=9->∀p D H' M f,AG H H'->H p=none->H D=none->W8 K H' p D (tf.length/g.toNat) f->N0 (tf.length/g.toNat) (LW g.toNat (tf.length/g.toNat) tf) M f->(∀p∈Ax (tf.length/g.toNat),p∈M)->Q (.ref p) H')->DS K CT vs H Q E
inductive FX(CT:qR)(vs:List V)(H:Hp)(Q:VK)(E:XK):Prop
 |m (r:qR) (g lo:Int) (a7:qW) (m:Nat) (lf:Int) (tf:qW) (mf:Nat):vs=[.ref r]->Av H r g lo a7 m->B1 g lo a7 m lf tf mf->(9<g^(mf-1)->∀H',AG H H'->E (.ref CT) none H')->(Fz g tf mf->∀H',AG H H'->Q (.bl false) H')->(g^(mf-1)<=9->∀H',AG H H'->Q (.bl true) H')->FX CT vs H Q E
inductive ES(CT:qR)(vs:List V)(H:Hp)(Q:VK)(E:XK):Prop
 |m (r:qR) (g lo:Int) (a7:qW) (m:Nat) (lf:Int) (tf:qW) (mf:Nat):vs=[.ref r]->Av H r g lo a7 m->B1 g lo a7 m lf tf mf->(9<g^(mf-1)->∀H',AG H H'->E (.ref CT) none H')->¬Fz g tf mf->(g^(mf-1)<=9->∀H',AG H H'->Q .non H')->ES CT vs H Q E
inductive F4(vs:List V)(H:Hp)(Q:VK)(z3_:XK):Prop
 |m (r:qR) (g lo:Int) (a7:qW) (m:Nat) (lf:Int) (tf:qW) (mf:Nat):vs=[.ref r,.int ((m:Nat):Int)]->Av H r g lo a7 m->B1 g lo a7 m lf tf mf->(∀p D H',AG H H'->H' p=some (.lst [.ref D,.int ((mf:Nat):Int)])->H' D=some (.lst (tf.map V.int))->Q (.ref p) H')->F4 vs H Q z3_
abbrev Ea(K:qV)(H:Hp):List qR->List ((qX)×(qX))->Prop:=Paired λt s=>∃a b:qR,H t=some (.tup [.ref a,.ref b])/\Aa K H a (Ku s.1)/\Aa K H b (Ku s.2)
theorem Ea.same{K:qV}{H H':Hp}{ts:List qR}{L:List ((qX)×(qX))}(e:AG H H')(h:Ea K H ts L):Ea K H' ts L:=Paired.mapP h λ_ _ ⟨a,b,z1,z2,z3⟩=>⟨a,b,e _ _ z1,z2.same' e,z3.same' e⟩
theorem Ea.updL{K:qV}{H:Hp}{ts:List qR}{L:List ((qX)×(qX))}{d:qR}{ys:List V}{u:HO}(hd:H d=some (.lst ys))(h:Ea K H ts L):Ea K (AT H d u) ts L:=Paired.mapP h λ_ _ ⟨a,b,z1,z2,z3⟩=>⟨a,b,by rw[AJ (Bu z1 hd λy=>nomatch y)];exact z1,z2.updL hd,z3.updL hd⟩
theorem Ea.updX{P:qT}{w:qU}{K:qV}{H:Hp}{ts:List qR}{L:List ((qX)×(qX))}{d:qR}{kvs:List (List BQ×V)}(z:DW P w K H d kvs)(h:Ea K H ts L)(u:HO):Ea K (AT H d u) ts L:=by obtain⟨bs,h1,_⟩:=z;exact Paired.mapP h λ_ _ ⟨a,b,z1,z2,z3⟩=>⟨a,b,by rw[AJ (Bu z1 h1 λy=>nomatch y)];exact z1,z2.upd' h1,z3.upd' h1⟩
inductive F5(K:qV)(vs:List V)(H:Hp)(Q:VK)(z3_:XK):Prop
 |m (D:qR) (g:Int) (tf:qW) (mf:Nat):vs=[.ref D,.int g,.int ((mf:Nat):Int)]->2<=g->g<=9->2<=mf->mf<=8->(tf.length:Int)=g^mf->g^mf<=256->(∀n∈tf,0<=n/\n<g)->H D=some (.lst (tf.map V.int))->(∀p H' ts L,AG H H'->H p=none->H' p=some (.lst (ts.map V.ref))->Ea K H' ts L->(∀a b,(a,b)∈L↔LW g.toNat (tf.length/g.toNat) tf a b)->Q (.ref p) H')->F5 K vs H Q z3_
noncomputable def Cv(h:Nat)(f:qX->Nat):List (List BQ×V):=Ae (Ax h) ((Ax h).map λp=>V.int ((f p:Nat):Int))
inductive Lp(P:qT)(w:qU)(K:qV)(vs:List V)(H:Hp)(Q:VK)(z3_:XK):Prop
 |m (p D:qR) (h:Nat) (f:qX->Nat):vs=[.ref p,.int ((h:Nat):Int)]->1<=h->h<=9->W8 K H p D h f->(∀d H',AG H H'->H d=none->DW P w K H' d (Cv h f)->Q (.ref d) H')->Lp P w K vs H Q z3_
inductive Ht(K:qV)(vs:List V)(H:Hp)(Q:VK)(z3_:XK):Prop
 |m (p D DT:qR) (g:Int) (tf:qW) (mf:Nat) (M:List (qX)) (f:qX->Nat):vs=[.ref p,.ref DT,.int g,.int ((mf:Nat):Int)]->2<=g->g<=9->2<=mf->mf<=8->(tf.length:Int)=g^mf->g^mf<=256->g^(mf-1)<=9->(∀n∈tf,0<=n/\n<g)->H DT=some (.lst (tf.map V.int))->W8 K H p D (tf.length/g.toNat) f->N0 (tf.length/g.toNat) (LW g.toNat (tf.length/g.toNat) tf) M f->(∀p∈Ax (tf.length/g.toNat),p∈M)->(∀H',AG H H'->Q (.bl true) H')->Ht K vs H Q z3_
inductive Hu(vs:List V)(H:Hp)(Q:VK)(z3_:XK):Prop
 |m (r:qR) (g lo:Int) (a7:qW) (m:Nat) (lf:Int) (tf:qW) (mf:Nat) (k:Int):vs=[.ref r,.int k]->Av H r g lo a7 m->B1 g lo a7 m lf tf mf->9<g^(mf-1)->(∀H',AG H H'->Q (.bl true) H')->Hu vs H Q z3_
noncomputable def Kj(n:Int)(ws:List (qW)):PyData:=.tuple [.int n,.list (ws.map λw=>.tuple (w.map PyData.int))]
theorem Hv:∀ns:qW,PyData.depthAll (ns.map PyData.int)=0
 |[]=>by simp only[List.map_nil,PyData.depthAll]
 |n::ns=>by simp only[List.map_cons,PyData.depthAll,PyData.depth,Hv ns,Nat.max_self]
theorem P8:∀ws:List (qW),PyData.canLayAll0 (ws.map λw=>PyData.tuple (w.map PyData.int))=true
 |[]=>by simp only[List.map_nil,PyData.canLayAll0]
 |w::ws=>by simp only[List.map_cons,PyData.canLayAll0,PyData.canLay0,Gs,P8 ws,Bool.and_self]
theorem P9:∀ws:List (qW),PyData.depthAll (ws.map λw=>PyData.tuple (w.map PyData.int))<=60-2
 |[]=>by simp only[List.map_nil,PyData.depthAll];decide
 |w::ws=>by have b:=P9 ws;simp only[List.map_cons,PyData.depthAll,PyData.depth,Hv];lia
theorem EE(n:Int)(ws:List (qW)):(Kj n ws).canLay0=true:=by unfold Kj;simp only[PyData.canLay0,PyData.canLayAll0,P8,Bool.and_self]
theorem Kk(n:Int)(ws:List (qW)):(Kj n ws).depth<=60:=by have:=P9 ws;unfold Kj;simp only[PyData.depth,PyData.depthAll];lia
theorem Kl(n:Int)(ws:List (qW)):PyData.eqv (Kj n ws) (Kj n ws)=true:=by have:=EE n ws;unfold Kj at this⊢;simp only[PyData.canLay0]at this;exact SeqAt.eqvAll_refl _ this
theorem Gd{K:qV}{H:Hp}{p D:qR}{n:Int}{ts:List qR}{ws:List (qW)}(h1:Aa K H p [.int n,.ref D])(h2:Af K H D (ts.map V.ref))(h3:Paired (λt ns=>Aa K H t (ns.map V.int)) ts ws):EU K H (.ref p) (Kj n ws):=by
 refine .tup h1 (.cons (.int n) (.cons (.lst h2 ?_) .nil));clear h2 h1
 induction h3 with
 |nil=>exact .nil
 |cons r _ ih=>exact .cons (Eu r) ih
section
variable{P:qT}{w:qU}{K:qV}{mg:Str->Option qQ}{base:Heap}{t:Xb}
theorem VR:AL ["thing"] ["thing"] (AI Ts):=B6
theorem VS(T:B5 K mg t) :Ak P w K mg base 1 t.f_45 ["thing"] (EH):=by
 refine Aj T.d_45 VR λvs H Q E h=>?_;obtain⟨x,rfl,kd,q⟩:=h;refine⟨rfl,λae A outer s hr=>?_⟩;refine⟨_,(AF (AO (Ej (KL K rfl T.z_isinstance (pv 0) (Ef rfl T.z_int PyProof.Rows.boot_int)) (Ei (Io (KL K rfl T.z_isinstance (pv 0) (Ef rfl T.z_bool PyProof.Rows.boot_bool))))))),?_⟩;walk_at "";cases x with
 |int i =>
  refine⟨_,.of (.int i),_,Ru,?_⟩;rw[qF rfl];exact⟨_,.of (.int i),_,Rv,q⟩
 |bl b =>
  refine⟨_,.of (.bl b),_,Rw,?_⟩;rw[qF rfl];exact⟨_,.of (.bl b),_,Rx,q⟩
 |non =>
  refine⟨_,.of .non,_,Ry,?_⟩;rw[qE (by decide)];exact q
 |str y =>
  refine⟨_,.of (.str y),_,Rz,?_⟩;rw[qE (by decide)];exact q
 |ref a =>
  obtain⟨xs,z|z⟩:=kd
  ·refine⟨_,.of (.lst z),_,R0,?_⟩;rw[qE (by decide)];exact q
  ·refine⟨_,.of (.tup z),_,SB,?_⟩;rw[qE (by decide)];exact q
 |byt _=>exact kd.elim
 |flt _=>exact kd.elim
 |ty _=>exact kd.elim
theorem VT:AL ["thing","signs"] ["thing","signs"] (AI Tt):=B6
theorem VU(T:B5 K mg t)(G_45:Ak P w K mg base 1 t.f_45 ["thing"] (EH)):Ak P w K mg base 2 t.f_47 ["thing","signs"] (JC):=by
 refine Aj T.d_47 VT λvs H Q E h=>?_;obtain⟨x,g,rfl,kd,q⟩:=h;refine⟨rfl,λae A outer s hr=>?_⟩;refine⟨_,(AF (AO (Ej (AS hr G_45 T.m_45 (AA (pv 0) AD)) (Ej (Bv OE AC (pv 0) (AQ _)) (Ei (Bv DJ (pv 0) (pv 1) (AQ _))))))),?_⟩;walk_at "";refine⟨x,rfl,kd,?_⟩;cases x with
 |int i =>
  walk_at "";simp only[QK]at q
  by_cases h:0<=i
  ·rw[qH h,Bool.true_and]at q;rw[qF h];exact q
  ·rw[qI h,Bool.false_and]at q;rw[qE h];exact q
 |_=>exact⟨false,rfl,Sx q⟩
theorem QC:AL ["word","signs","at","thing"] ["word","signs"] (AI Tu):=B6
theorem VW(T:B5 K mg t)(G_47:Ak P w K mg base 2 t.f_47 ["thing","signs"] (JC)):Ak P w K mg base 3 t.f_20 ["word","signs"] (FV K):=by
 refine Aj T.d_20 QC λvs H Q E h=>?_;obtain⟨a,xs,g,rfl,hS,kd,h⟩:=h;refine⟨rfl,λae A outer s hr=>?_⟩;refine⟨_,(AF (Ay PassesOwn.never rfl (Qn rfl T.z_enumerate (AA (pv 0) AD)) (VI K 2 rfl (BG (A5 2 QC) (BG (A5 3 QC) C1))) (AF (Ah (Bp (Bb (AS hr G_47 T.m_47 (AA (pv 3) (AA (pv 1) AD))))) (AF Dm) AV)))),?_⟩;refine⟨_,rfl,a,xs,rfl,hS,?_⟩;refine Oa (xs:=xs) (λi σ H1=>B8 g (xs.take i)=none/\(∃x2 x3,σ=[some (.ref a),some (.int g),x2,x3])/\AG H H1) ⟨rfl,⟨none,none,rfl⟩,AG.refl _⟩ (λi σ H1 _ z=>z.2.2.seq hS) ?_ ?_
 ·rintro i x p σ H1 hx ⟨hb,⟨x2,x3,rfl⟩,e⟩ hp;have e2:AG H (AT H1 p (.tup [.int ((i:Nat):Int),x])):=e.trans (AG.new hp _);refine⟨p,_,rfl,Aa.of AE,rfl,_,_,rfl,_,_,rfl,rfl,?_⟩;walk_at "";refine⟨x,g,rfl,(kd x (Xq hx)).same e2,?_⟩;cases hs:QK g x with
  |true =>
   walk_at "";exact⟨K7 hb hx hs,⟨_,rfl⟩,e2⟩
  |false =>
   walk_at "";rw[K8 hb hx hs]at h;exact h
 ·rintro σ H1 ⟨hb,_,e⟩;rw[YK]at hb;rw[hb]at h;exact h H1 e
theorem W9:AL ["word","signs","many"] ["word","signs","many"] (AI Wy):=B6
theorem XA(T:B5 K mg t)(G_20:Ak P w K mg base 3 t.f_20 ["word","signs"] (FV K)):Ak P w K mg base 4 t.f_5 ["word","signs","many"] (ED K):=by
 refine Aj T.d_5 W9 λvs H Q E h=>?_;obtain⟨a,xs,g,m,rfl,hS,kd,h⟩:=h;refine⟨rfl,λae A outer s hr=>?_⟩
 refine⟨_,(AB (A6 (AS hr G_20 T.m_20 (AA (Gk Iw (pv 0) Iq (Ir (pv 2))) (AA (pv 1) AD))))
  (AF (Ah (AM Ed (Ai (Jj K) rfl T.z_len YR (AA (pv 0) AD)) (pv 2) (AQ _)) (AF Dm) AV))),?_⟩
 walk_at "";refine LB hS λp H1 e1 _ h1=>?_;rw[ML]at h1;refine⟨p,_,g,rfl,Af.of h1,λx hx=>(kd x (Z8 hx)).same e1,?_⟩;unfold D1 at h;cases hb:B8 g (xs.take m) with
 |some i =>
  rw[hb]at h;exact h
 |none =>
  rw[hb]at h;dsimp only at h;intro H2 e2;refine⟨xs,.inl ((e1.trans e2).seq hS),?_⟩
  by_cases hl:xs.length=m
  ·rw[qF hl]at h;rw[qE (by lia)];exact h _ (e1.trans e2)
  ·rw[qE hl]at h;exact h.elim
theorem Mu:AL ["word","signs","number","sign"] ["word","signs"] (AI Tv):=B6
theorem VX(T:B5 K mg t)(G_20:Ak P w K mg base 3 t.f_20 ["word","signs"] (FV K)):Ak P w K mg base 4 t.f_39 ["word","signs"] (Fx K):=by
 refine Aj T.d_39 Mu λvs H Q E h=>?_;obtain⟨a,xs,g,rfl,g2,g9,hS,kd,h⟩:=h;refine⟨rfl,λae A outer s hr=>?_⟩
 refine⟨_,(AB (A6 (AS hr G_20 T.m_20 (AA (pv 0) (AA (pv 1) AD))))
  (AB (AW 2 Mu AC)
  (AB (Ay PassesOwn.never rfl (P3 K (pv 0)) (A5 3 Mu) (AF (AW 2 Mu (AH Ac (AH BB (pv 2) (pv 1)) (pv 3)))))
  (AF (AO (pv 2)))))),?_⟩
 walk_at "";refine⟨a,xs,g,rfl,hS,kd,?_⟩;cases hb:B8 g xs with
 |some i =>
  rw[hb]at h;exact h
 |none =>
  rw[hb]at h;obtain⟨ns,rfl,hns⟩:=Gp hb;intro H1 e;refine⟨_,rfl,a,rfl,⟨_,e.seq hS⟩,?_⟩;refine Bq (xs:=ns.map V.int) (λi σ H2=>(∃x3,σ=[some (.ref a),some (.int g),some (.int (BM g (ns.take i))),x3])/\H2=H1) ⟨⟨none,rfl⟩,rfl⟩ (λi σ H2 _ z=>by rw[z.2];exact e.seq hS) ?_ ?_
  ·refine Kh ?_;rintro _ _ i x _ hGo σ H2 hx ⟨⟨x3,rfl⟩,rfl⟩;refine hGo _ _ ?_;obtain⟨n,hn,rfl⟩:=Fh hx;walk_at "";refine⟨.inr ⟨by lia,by lia⟩,?_⟩;rw[Dx hn];exact⟨rfl,_,rfl⟩
  ·rintro σ H2 ⟨⟨x3,rfl⟩,rfl⟩;walk_at "";rw[Xf,YK];exact h ns rfl _ e
theorem Mv:AL ["number","signs","many","backwards","rest"] ["number","signs","many"] (AI Tw):=B6
theorem VY(T:B5 K mg t) :Ak P w K mg base 1 t.f_50 ["number","signs","many"] (JY):=by
 refine Aj T.d_50 Mv λvs H Q E h=>?_;obtain⟨n,g,m,rfl,g2,g9,m0,m3,hbad,hgood⟩:=h;refine⟨rfl,λae A outer s hr=>?_⟩
 refine⟨_,(AB (Ah (AM DJ (pv 0) AC (AQ _)) (AF Dm) AV)
  (AB (AW 3 Mv (Aw AD))
  (AB (AW 4 Mv (pv 0))
  (AB (E2 PassesOwn.never (AM DJ (Ai (Jj K) rfl T.z_len YR (AA (pv 3) AD)) (pv 2) (AQ _)) (AB (A6 (P4 K (pv 3) (AA (AH Ad (pv 4) (pv 1)) AD)))
  (AF (AW 4 Mv (AH A7 (pv 4) (pv 1))))))
  (AB (Ah (AM E3 (pv 4) AC (AQ _)) (AF Dm) AV)
  (AF (AO (Wv K rfl rfl T.z_reversed rfl T.z_list (AA (pv 3) AD))))))))),?_⟩
 walk_at ""
 by_cases hn:n<0
 ·rw[qF hn];exact hbad (.inl hn)
 rw[qE hn];refine⟨X4 _,λp hp=>?_⟩
 refine Gh (λσ H1=>∃i:Nat,i<=m.toNat/\σ=[some (.int n),some (.int g),some (.int m),some (.ref p),some (.int (dr g n i))]/\H1=AT H p (.lst ((Cy g n i).map V.int)))
  (λσ H1=>match H1 p with|some (.lst xs)=>m.toNat-xs.length|_=>0) ⟨0,X4 _,rfl,rfl⟩ ?_ ?_
 ·rintro σ H1 ⟨i,hi,rfl,rfl⟩;walk_at "";have hl:((Cy g n i).map V.int).length=i:=by rw[Xf,C6]
  refine⟨_,.inl (Af.of AE),?_⟩;rw[hl]
  by_cases hlt:(i:Int)<m
  ·rw[qF hlt];refine⟨.inl ⟨_,Af.of AE⟩,by lia,_,AE,by rw[hl];exact Ab (by lia),by lia,by lia,⟨i+1,by lia,rfl,?_⟩,?_⟩
   ·rw[GL,Cy,Xp];rfl
   ·rw[AE,AE];show m.toNat-(List.map V.int (Cy g n i)++[V.int (dr g n i%g)]).length<m.toNat-(List.map V.int (Cy g n i)).length;rw[Xt,hl];simp only[List.length_cons,List.length_nil];lia
  ·rw[qE hlt];have ei:i=m.toNat:=by lia
   by_cases hd:0<dr g n i
   ·rw[qF hd];refine hbad (.inr (Int.not_lt.mp λz=>?_));rw[ei,MK g2 (by lia) z]at hd;lia
   ·rw[qE hd];refine⟨_,Af.of AE,λr hr'=>hgood (by lia) (Int.not_le.mp λz=>?_) r _ ⟨(AG.new hp _).trans (AG.new hr' _),(OY hr').2,?_⟩⟩
    ·rw[ei]at hd;exact hd (TF g2 z)
    ·rw[AE,ei,List.map_reverse]
 ·intro σ H1 Q1 Q2 hq;walk_at "";rintro⟨v,h1,p,h2,x,h3,v2,h4,x1,h5,h6⟩;exact⟨v,h1,p,h2,x,h3,v2,h4,x1,h5,hq _ _ h6⟩
theorem VZ:AL ["signs","low"] ["signs","low"] (AI Tx):=B6
theorem Va(T:B5 K mg t)(G_45:Ak P w K mg base 1 t.f_45 ["thing"] (EH)):Ak P w K mg base 2 t.f_19 ["signs","low"] (JZ):=by
 refine Aj T.d_19 VZ λvs H Q E h=>?_;obtain⟨g,lo,rfl,g2,g9,q⟩:=h;refine⟨rfl,λae A outer s hr=>?_⟩
 refine⟨_,(AB (Ah (PW.pt (CI (Bp (Bb (AS hr G_45 T.m_45 (AA (pv 0) AD)))) (CI (AM DJ (pv 0) AC (AQ _)) (Cm (AM E3 (pv 0) AC (AQ _)))))) (AF Dm) AV)
  (AF (Ah (Bp (Bb (AS hr G_45 T.m_45 (AA (pv 1) AD)))) (AF Dm) AV))),?_⟩
 walk_at "";refine⟨.int g,rfl,trivial,true,rfl,?_⟩;rw[qE (by decide)];rw[qE (by lia),qE (by lia)];refine⟨.int lo,rfl,trivial,true,rfl,?_⟩;rw[qE (by decide)];exact q
theorem Km:AL ["signs","length","many","words"] ["signs","length"] (AI Tz):=B6
theorem Vb(T:B5 K mg t) :Ak P w K mg base 1 t.f_25 ["signs","length"] (C7):=by
 refine Aj T.d_25 Km λvs H Q E h=>?_;obtain⟨g,n,rfl,g2,g9,hy,hn⟩:=h;refine⟨rfl,λae A outer s hr=>?_⟩
 refine⟨_,(AB (AW 2 Km AC)
  (AB (AW 3 Km AC)
  (AB (E2 PassesOwn.never (AM DJ (pv 3) (pv 1) (AQ _)) (AB (AW 3 Km (AH BB (pv 3) (pv 0)))
  (AF (AW 2 Km (AH Ac (pv 2) AC)))))
  (AB (Ah (AM BL (pv 3) (pv 1) (AQ _)) (AF (AO (pv 2))) AV)
  (AF (AO AC)))))),?_⟩
 walk_at ""
 refine Gh (λσ H1=>∃i:Nat,σ=[some (.int g),some (.int n),some (.int ((i:Nat):Int)),some (.int (g^i))]/\H1=H/\∀j,j<i->g^j<n)
  (λ(σ:St) (H1:Hp)=>match σ[3]? with|some (some (V.int x))=>(n-x).toNat|_=>0) ⟨0,by rw[Ya];rfl,rfl,λj hj=>qG hj (aE _)⟩ ?_ ?_
 ·rintro σ H1 ⟨i,rfl,rfl,hj⟩;have gp:=RW.Ao g2 i;walk_at ""
  by_cases hlt:g^i<n
  ·rw[qF hlt];refine⟨.inr ⟨by lia,by lia⟩,⟨i+1,rfl,?_,λj hj2=>?_⟩,?_⟩
   ·rw[YH]
   ·by_cases z:j=i
    ·rw[z];exact hlt
    ·exact hj j (by lia)
   ·have:g^i<g^i*g:=by
     have:=Y8 g2 (YI gp);lia
    lia
  ·rw[qE hlt]
   by_cases he:g^i=n
   ·rw[qF he];exact hy i he.symm
   ·rw[qE he];refine hn λm z=>?_
    by_cases hm:m<i
    ·have:=hj m hm;lia
    ·have:=By g2 (Z3 hm);lia
 ·intro σ H1 Q1 Q2 hq;walk_at "";rintro⟨v,h1,v2,h2,i,h3,x,h4,h5⟩;exact⟨v,h1,v2,h2,i,h3,x,h4,hq _ _ h5⟩
theorem QD:AL ["signs","many","length","done"] ["signs","many"] (AI Wz):=B6
theorem XB(T:B5 K mg t) :Ak P w K mg base 1 t.f_6 ["signs","many"] (JF):=by
 refine Aj T.d_6 QD λvs H Q E h=>?_;obtain⟨g,m,rfl,g2,g9,m1,hy,hn⟩:=h;refine⟨rfl,λae A outer s hr=>?_⟩
 refine⟨_,(AB (AW 2 QD AC)
  (AB (AW 3 QD AC)
  (AB (E2 PassesOwn.never (PW.pt (FY (AM DJ (pv 3) (pv 1) (AQ _)) (EF (AM OE (pv 2) (EG rfl T.g_LONGEST_TABLE) (AQ _))))) (AB (AW 2 QD (AH BB (pv 2) (pv 0)))
  (AF (AW 3 QD (AH Ac (pv 3) AC)))))
  (AF (AO (pv 2)))))),?_⟩
 walk_at ""
 refine Gh (λσ H1=>∃i:Nat,i<=m.toNat/\σ=[some (.int g),some (.int m),some (.int (g^i)),some (.int ((i:Nat):Int))]/\H1=H)
  (λ(σ:St) (H1:Hp)=>match σ[3]? with|some (some (V.int x))=>(m-x).toNat|_=>0) ⟨0,X4 _,by rw[Ya];rfl,rfl⟩ ?_ ?_
 ·rintro σ H1 ⟨i,hi,rfl,rfl⟩;have gp:=RW.Ao g2 i;walk_at ""
  by_cases hlt:(i:Int)<m
  ·rw[qF hlt]
   by_cases hle:g^i<=256
   ·rw[qF hle];exact⟨.inr ⟨by lia,by lia⟩,⟨i+1,by lia,by rw[YH],by lia⟩,by lia⟩
   ·rw[qE hle];have:=By g2 hi;exact hn (by lia) _ (by lia)
  ·rw[qE hlt];have ei:i=m.toNat:=by lia
   subst ei
   by_cases hle:g^m.toNat<=256
   ·exact hy hle
   ·exact hn (by lia) _ (by lia)
 ·intro σ H1 Q1 Q2 hq;walk_at "";rintro⟨v,h1,v2,h2,i,h3,x,h4,h5⟩;refine⟨v,h1,v2,h2,i,h3,x,h4,?_⟩
  by_cases z:i<x
  ·rw[qF z]at h5⊢;obtain⟨v3,h6,j,h7,h8⟩:=h5;exact⟨v3,h6,j,h7,hq _ _ h8⟩
  ·rw[qE z]at h5⊢;exact hq _ _ h5
theorem SU:AL ["signs","table","told"] ["signs","table"] (AI T0):=B6
theorem Vc(T:B5 K mg t)(G_25:Ak P w K mg base 1 t.f_25 ["signs","length"] (C7))(G_47:Ak P w K mg base 2 t.f_47 ["thing","signs"] (JC)):Ak P w K mg base 3 t.f_10 ["signs","table"] (Lj):=by
 refine Aj T.d_10 SU λvs H Q E h=>?_;obtain⟨g,a,a7,m,rfl,g2,g9,m1,len,sz,tb,ha,q⟩:=h;refine⟨rfl,λae A outer s hr=>?_⟩
 refine⟨_,(AB (Ah (Bp (Bb (Qo rfl T.z_isinstance (pv 1) (AA (Ef rfl T.z_list PyProof.Rows.boot_list) (AA (Ef rfl T.z_tuple PyProof.Rows.boot_tuple) AD))))) (AF Dm) AV)
  (AB (Ah (PW.pt (CI (AM E3 (Ai (Jj K) rfl T.z_len YR (AA (pv 1) AD)) (EG rfl T.g_LONGEST_TABLE) (AQ _)) (Cm (AM BL (AS hr G_25 T.m_25 (AA (pv 0) (AA (Ai (Jj K) rfl T.z_len YR (AA (pv 1) AD)) AD))) AC (AQ _))))) (AF Dm) AV)
  (AF (Ay PassesOwn.never rfl (P3 K (pv 1)) (A5 2 SU) (AF (Ah (Bp (Bb (AS hr G_47 T.m_47 (AA (pv 2) (AA (pv 0) AD))))) (AF Dm) AV)))))),?_⟩
 walk_at "";refine⟨by decide,λp hp=>?_⟩;have e1:=AG.new hp (.tup [V.ty "list",V.ty "tuple"]);have h1:AT H p (.tup [V.ty "list",V.ty "tuple"]) p=some (.tup [V.ty "list",V.ty "tuple"]):=AE;generalize AT H p (HO.tup [V.ty "list",V.ty "tuple"])=H1 at e1 h1⊢;have ha1:=e1 _ _ ha;refine⟨_,.of (.lst ha1),_,h1,[.type "list",.type "tuple"],rfl,true,Xd R9 _,?_⟩;rw[qE (by decide)];refine⟨_,.inl (Af.of ha1),?_⟩;rw[Xf,qE (by lia)];refine⟨_,.inl (Af.of ha1),g,_,rfl,g2,g9,λm' hm=>⟨rfl,?_⟩,λno=>qG (by rw[Xf];exact len) (no m)⟩;rw[Xf,len]at hm;have:=EI g2 hm;rw[qE (by intro z;injection z with z;lia)];refine⟨_,rfl,a,rfl,⟨_,Af.of ha1⟩,?_⟩;refine Bq (xs:=a7.map V.int) (λi σ H2=>(∃x2,σ=[some (.int g),some (.ref a),x2])/\H2=H1) ⟨⟨none,rfl⟩,rfl⟩ (λi σ H2 _ z=>by rw[z.2];exact Af.of ha1) ?_ ?_
 ·refine Kh ?_;rintro _ _ i x _ hGo σ H2 hx ⟨⟨x2,rfl⟩,rfl⟩;refine hGo _ _ ?_;obtain⟨n,hn,rfl⟩:=Fh hx;have b:=tb n (Xq hn);walk_at "";refine⟨.int n,g,rfl,trivial,?_⟩;rw[show QK g (.int n)=true by show (decide (0<=n)&&decide (n<g))=true;rw[qH b.1,qH b.2];rfl];walk_at "";exact⟨_,rfl⟩
 ·rintro σ H2 ⟨_,rfl⟩;exact q _ e1
theorem Vd:AL ["signs","low","table"] ["signs","low","table"] (AI T1):=B6
theorem Ve(T:B5 K mg t)(G_19:Ak P w K mg base 2 t.f_19 ["signs","low"] (JZ))(G_10:Ak P w K mg base 3 t.f_10 ["signs","table"] (Lj)):Ak P w K mg base 4 t.f_62 ["signs","low","table"] (Ja):=by
 refine Aj T.d_62 Vd λvs H Q E h=>?_;obtain⟨g,lo,a,a7,m,rfl,g2,g9,m1,len,sz,tb,ha,q⟩:=h;refine⟨rfl,λae A outer s hr=>?_⟩
 refine⟨_,(AB (A6 (AS hr G_19 T.m_19 (AA (pv 0) (AA (pv 1) AD))))
  (AB (A6 (AS hr G_10 T.m_10 (AA (pv 0) (AA (pv 2) AD))))
  (AF (AO (BI (AA (pv 0) (AA (pv 1) (AA (Bs CG rfl T.z_tuple ZR (AA (pv 2) AD)) AD)))))))),?_⟩
 walk_at "";refine⟨g,lo,rfl,g2,g9,g,a,a7,m,rfl,g2,g9,m1,len,sz,tb,ha,λH1 e1=>?_⟩;refine⟨_,.inl ⟨Af.of (e1 _ _ ha),λl hl=>⟨by decide,λp hp=>?_⟩⟩⟩;have e2:=AG.new hl (.tup (a7.map V.int));have e3:=AG.new hp (.tup [.int g,.int lo,.ref l]);exact q p _ ((e1.trans e2).trans e3) ⟨l,AE,e3 _ _ AE⟩
theorem Vf:AL ["one"] ["one"] (AI T2):=B6
theorem Vg(T:B5 K mg t)(G_25:Ak P w K mg base 1 t.f_25 ["signs","length"] (C7)):Ak P w K mg base 2 t.f_56 ["one"] (DL):=by
 refine Aj T.d_56 Vf λvs H Q E h=>?_;obtain⟨r,g,lo,a7,m,rfl,g2,g9,⟨tb,h1,h2⟩,hl,q⟩:=h;refine⟨rfl,λae A outer s hr=>?_⟩;refine⟨_,(AF (AO (AS hr G_25 T.m_25 (AA (AK (Bm K) (pv 0) AC (λ_ _=>rfl)) (AA (Ai (Jj K) rfl T.z_len YR (AA (AK (Bm K) (pv 0) AC (λ_ _=>rfl)) AD)) AD))))),?_⟩;walk_at "";refine (CQ (v:=.int g) (Aa.of h1) (GO rfl) (CQ (v:=.ref tb) (Aa.of h1) (GO rfl) ?_));walk_at "";refine⟨_,.inr (Aa.of h2),g,_,rfl,g2,g9,λm' e=>?_,λz=>?_⟩
 ·rw[Xf,hl]at e;rw[<-EI g2 e];exact q
 ·exact qG (by rw[Xf,hl]) (z m)
theorem Vh:AL ["one","word"] ["one","word"] (AI T3):=B6
theorem Vi(T:B5 K mg t)(G_5:Ak P w K mg base 4 t.f_5 ["word","signs","many"] (ED K))(G_56:Ak P w K mg base 2 t.f_56 ["one"] (DL))(G_39:Ak P w K mg base 4 t.f_39 ["word","signs"] (Fx K)):Ak P w K mg base 5 t.f_38 ["one","word"] (JX K):=by
 refine Aj T.d_38 Vh λvs H Q E h=>?_;obtain⟨r,a,g,lo,a7,m,xs,rfl,g2,g9,hR,hl,hS,kd,h⟩:=h;refine⟨rfl,λae A outer s hr=>?_⟩
 refine⟨_,(AB (A6 (AS hr G_5 T.m_5 (AA (pv 1) (AA (AK (Bm K) (pv 0) AC (λ_ _=>rfl)) (AA (AS hr G_56 T.m_56 (AA (pv 0) AD)) AD)))))
  (AF (AO (AK (Bm K) (AK (Bm K) (pv 0) AC (λ_ _=>rfl)) (AS hr G_39 T.m_39 (AA (pv 1) (AA (AK (Bm K) (pv 0) AC (λ_ _=>rfl)) AD))) (λ_ _=>rfl))))),?_⟩
 refine BV.el hR λtb h1 h2=>?_;walk_at "";refine (CQ (Aa.of h1) rfl ⟨r,g,lo,a7,m,rfl,g2,g9,hR,hl,a,xs,g,m,rfl,hS,kd,?_⟩);cases hb:D1 g m xs with
 |some i =>
  rw[hb]at h;exact h
 |none =>
  rw[hb]at h;obtain⟨hlen,hbi⟩:=Jz hb;obtain⟨ns,rfl,hns⟩:=Gp hbi;rw[Xf]at hlen;intro H1 e1;refine (CQ (Aa.of (e1 _ _ h1)) rfl (CQ (Aa.of (e1 _ _ h1)) rfl ⟨a,_,g,rfl,g2,g9,e1.seq hS,MF,?_⟩));rw[hbi];intro ms hms H2 e2;have:=Jv hms;subst this;have nb:=DG g2 hns;rw[hlen,<-hl]at nb;refine (CQ (v:=.int (a7.getD (BM g ns).toNat 0)) (Aa.of (e2 _ _ (e1 _ _ h2))) ?_ (h ns rfl _ (e1.trans e2)));have z:=D0 (ns:=a7) (k:=(BM g ns).toNat) (by lia);rw[show (((BM g ns).toNat:Nat):Int)=BM g ns by lia]at z;exact z
theorem Vj:AL ["one"] ["one"] (AI T4):=B6
theorem Vk(T:B5 K mg t) :Ak P w K mg base 1 t.f_59 ["one"] (FE):=by
 refine Aj T.d_59 Vj λvs H Q E h=>?_;obtain⟨r,g,lo,a7,m,rfl,ok,q⟩:=h;refine⟨rfl,λae A outer s hr=>?_⟩;refine⟨_,(AF (AO (AH A7 (Ai (Jj K) rfl T.z_len YR (AA (AK (Bm K) (pv 0) AC (λ_ _=>rfl)) AD)) (AK (Bm K) (pv 0) AC (λ_ _=>rfl))))),?_⟩;refine BV.el ok.v λtb h1 h2=>?_;have g2:=ok.g2;have g9:=ok.g9;have m1:=ok.m1;have m8:=ok.m8;have hl:=ok.len;have sz:=ok.sz;have hlm:(a7.map V.int).length=a7.length:=Xf ..;walk_at "";refine (CQ (Aa.of h1) rfl ?_);walk_at "";refine⟨_,.inr (Aa.of h2),CQ (Aa.of h1) rfl ⟨g,rfl,by lia,by lia,?_⟩⟩
 have e:(((a7.map V.int).length:Nat):Int)/g=((a7.length/g.toNat:Nat):Int):=by rw[hlm,Yq,YN (by lia)]
 rw[e];exact q
theorem Kn:AL ["one","weight","table","number","told","there"] ["one","weight"] (AI T5):=B6
theorem Vl(T:B5 K mg t) :Ak P w K mg base 1 t.f_53 ["one","weight"] (G3):=by
 refine Aj T.d_53 Kn λvs H Q E h=>?_;obtain⟨r,g,lo,a7,wt,rfl,g2,g9,hR,w0,w3,tl,q⟩:=h;refine⟨rfl,λae A outer s hr=>?_⟩
 refine⟨_,(AB (AW 2 Kn (AK (Bm K) (pv 0) AC (λ_ _=>rfl)))
  (AB (Ay PassesOwn.never rfl (Gx rfl T.z_enumerate (AA (pv 2) AD)) (VI K 2 rfl (BG (A5 3 Kn) (BG (A5 4 Kn) C1))) (AB (AW 5 Kn (AH Ad (AH A7 (pv 3) (pv 1)) (AK (Bm K) (pv 0) AC (λ_ _=>rfl))))
  (AF (Ah (AM Ed (pv 4) (AK (Bm K) (pv 2) (AH Am (pv 3) (AH BB (pv 5) (pv 1))) (λ_ _=>rfl)) (AQ _)) (AF (AO Eb)) AV))))
  (AF (AO Eb)))),?_⟩
 refine BV.el hR λtb h1 h2=>?_;walk_at "";refine (CQ (Aa.of h1) rfl ?_);walk_at "";refine⟨_,rfl,tb,_,rfl,Aa.of h2,?_⟩;refine IS (xs:=a7.map V.int) (λi σ H1=>(∃x3 x4 x5,σ=[some (.ref r),some (.int wt),some (.ref tb),x3,x4,x5])/\AG H H1/\∀k,k<i->a7.getD k 0=a7.getD ((k:Int)-(k:Int)/wt%g*wt).toNat 0) ⟨⟨none,none,none,rfl⟩,AG.refl _,λk hk=>qG hk (aE _)⟩ (λi σ H1 _ z=>Aa.of (z.2.1 _ _ h2)) ?_ ?_
 ·rintro i x p2 σ H1 hx ⟨⟨x3,x4,x5,rfl⟩,e,hall⟩ hp2;obtain⟨n,hn,rfl⟩:=Fh hx;have hi:i<a7.length:=(Xg.mp hn).1;have e2:AG H (AT H1 p2 (.tup [.int ((i:Nat):Int),.int n])):=e.trans (AG.new hp2 _);refine⟨p2,_,rfl,Aa.of AE,rfl,_,_,rfl,_,_,rfl,rfl,?_⟩;walk_at "";have ix:=Ol (k:=(i:Int)) (w:=wt) (g:=g) (by lia) w0 g2;have gA:=BF (ns:=a7) ix.1 (by lia);have ng:n=a7.getD i 0:=by rw[Xk,hn];rfl
  refine⟨w0,by lia,CQ (Aa.of (e2 _ _ h1)) rfl ⟨g,rfl,by lia,.inr ⟨by lia,by lia⟩,CQ (Aa.of (e2 _ _ h2)) gA ⟨rfl,?_⟩⟩⟩
  by_cases hd:V.int n=V.int (a7.getD ((i:Int)-(i:Int)/wt%g*wt).toNat 0)
  ·rw[qE (λz=>z hd)];refine⟨⟨_,rfl⟩,e2,λk hk=>?_⟩
   by_cases z:k=i
   ·subst z;rw[<-ng];exact V.int.inj hd
   ·exact hall k (by lia)
  ·rw[qF hd];have z:A1 g a7 wt=true:=DM.mpr ⟨i,hi,λy=>hd (by rw[ng,y])⟩;rw[z]at q;exact q _ e2
 ·rintro σ H1 ⟨⟨x3,x4,x5,rfl⟩,e,hall⟩;walk_at "";rw[Xf]at hall
  have z:A1 g a7 wt=false:=by
   cases z:A1 g a7 wt with
   |false=>rfl
   |true =>
    obtain⟨k,hk,h⟩:=DM.mp z;exact qG (hall k hk) h
  rw[z]at q;exact q H1 e
theorem Ko:AL ["one","found","weight","at"] ["one"] (AI T6):=B6
theorem Vm(T:B5 K mg t)(G_56:Ak P w K mg base 2 t.f_56 ["one"] (DL))(G_53:Ak P w K mg base 1 t.f_53 ["one","weight"] (G3)):Ak P w K mg base 3 t.f_44 ["one"] (Dc):=by
 refine Aj T.d_44 Ko λvs H Q E h=>?_;obtain⟨r,g,lo,a7,m,rfl,g2,g9,hR,hl,m1,m8,gm,q⟩:=h;refine⟨rfl,λae A outer s hr=>?_⟩
 refine⟨_,(AB (AW 1 Ko (Aw AD))
  (AB (AW 2 Ko (Ai (Jj K) rfl T.z_len YR (AA (AK (Bm K) (pv 0) AC (λ_ _=>rfl)) AD)))
  (AB (Ay PassesOwn.never rfl (Ar rfl T.z_range (AA (AS hr G_56 T.m_56 (AA (pv 0) AD)) AD)) (A5 3 Ko) (AB (AW 2 Ko (AH A7 (pv 2) (AK (Bm K) (pv 0) AC (λ_ _=>rfl))))
  (AF (Ah (Bb (AS hr G_53 T.m_53 (AA (pv 0) (AA (pv 2) AD)))) (AF (A6 (P4 K (pv 1) (AA (AH Ac (AK (Bm K) (pv 0) AC (λ_ _=>rfl)) (pv 3)) AD)))) AV))))
  (AF (AO (pv 1)))))),?_⟩
 refine BV.el hR λtb h1 h2=>?_;walk_at "";refine⟨X4 _,λp hp=>?_⟩;have e0:=AG.new hp (.lst []);refine (CQ (Aa.of (e0 _ _ h1)) rfl ?_);walk_at "";refine⟨_,.inr (Aa.of (e0 _ _ h2)),?_⟩;rw[Xf];refine⟨_,rfl,r,g,lo,a7,m,rfl,g2,g9,hR.same e0,hl,_,rfl,by lia,by lia,?_⟩;refine BP (n:=m) (λi σ H1=>∃x3,σ=[some (.ref r),some (.ref p),some (.int (g^(m-i))),x3]/\AG H H1/\H1 p=some (.lst ((((List.range i).filter λj=>A1 g a7 (g^(m-1-j))).map λj:Nat=>lo+(j:Int)).map V.int))) ⟨none,by rw[hl,Nat.sub_zero],e0,AE⟩ ?_ ?_
 ·refine Dn ?_;rintro _ _ i _ hGo σ H1 hi ⟨x3,rfl,e,hp1⟩;refine hGo _ _ ?_;have dv:g^(m-i)/g=g^(m-1-i):=by rw[show m-i=(m-1-i)+1 by lia,YH,Int.mul_ediv_cancel _ (by lia)]
  have gp:=RW.Ao g2 (m-1-i);have gb:=By g2 (show m-1-i<=m by lia);walk_at "";refine (CQ (Aa.of (e _ _ h1)) rfl ?_);walk_at "";rw[dv];refine⟨by lia,by lia,r,g,lo,a7,_,rfl,g2,g9,hR.same e,gp,by lia,by lia,λH2 e2=>?_⟩;have e3:=e.trans e2;refine⟨_,rfl,?_⟩;cases hc:A1 g a7 (g^(m-1-i)) with
  |true =>
   rw[qF rfl];refine⟨.inl ⟨_,Af.of (e2 _ _ hp1)⟩,CQ (Aa.of (e3 _ _ h1)) rfl ⟨lo,rfl,_,e2 _ _ hp1,?_,by rw[show m-(i+1)=m-1-i by lia],e3.into hp,?_⟩⟩
   ·rw[Xf,Xf];have:=Ye (λj=>A1 g a7 (g^(m-1-j))) (List.range i);rw[YF]at this;exact Ab (by lia)
   ·rw[AE,Yb,Yj,Xp,Xp,YJ];simp[List.filter,hc]
  |false =>
   rw[qE (by decide)];refine⟨by rw[show m-(i+1)=m-1-i by lia],e3,?_⟩;rw[e2 _ _ hp1,Yb,Yj];simp[List.filter,hc]
 ·rintro σ H1 ⟨x3,rfl,e,hp1⟩;walk_at "";exact q p H1 ⟨e,hp,hp1⟩
theorem XC:AL ["word","at"] ["word","at"] (AI W0):=B6
theorem XD(T:B5 K mg t) :Ak P w K mg base 1 t.f_2 ["word","at"] (HB K):=by
 refine Aj T.d_2 XC λvs H Q E h=>?_;obtain⟨a,v,z,rfl,hS,q⟩:=h;refine⟨rfl,λae A outer s hr=>?_⟩
 refine⟨_,(AB (Ah (PW.pt (CI (AM DJ (pv 1) AC (AQ _)) (Cm (AM U0 (pv 1) (Ai (Jj K) rfl T.z_len YR (AA (pv 0) AD)) (AQ _))))) (AF (AO AC)) AV)
  (AF (AO (AK (Cc K) (pv 0) (pv 1) (λ_ _=>rfl))))),?_⟩
 have hlm:(v.map V.int).length=v.length:=Xf ..;unfold sn at q;walk_at ""
 by_cases h0:z<0
 ·rw[qF (.inl h0)]at q;rw[qF h0];exact q
 rw[qE h0];refine⟨_,.inl hS,?_⟩;rw[hlm]
 by_cases h1:(v.length:Int)<=z
 ·rw[qF (.inr h1)]at q;rw[qF h1];exact q
 rw[qE h1];rw[qE (by lia)]at q;exact⟨a,_,_,_,rfl,rfl,hS,BF (by lia) (by lia),q⟩
theorem Kp:AL ["one","low","many","ahead","table","number","word"] ["one","low","many"] (AI T7):=B6
theorem Vn(T:B5 K mg t)(G_62:Ak P w K mg base 4 t.f_62 ["signs","low","table"] (Ja))(G_6:Ak P w K mg base 1 t.f_6 ["signs","many"] (JF))(G_50:Ak P w K mg base 1 t.f_50 ["number","signs","many"] (JY))(G_38:Ak P w K mg base 5 t.f_38 ["one","word"] (JX K))(G_2:Ak P w K mg base 1 t.f_2 ["word","at"] (HB K))(G_56:Ak P w K mg base 2 t.f_56 ["one"] (DL)):Ak P w K mg base 6 t.f_37 ["one","low","many"] (GR):=by
 refine Aj T.d_37 Kp λvs H Q E h=>?_;obtain⟨r,g,lo,a7,m,low,M,rfl,ok,M1,gM,q⟩:=h;refine⟨rfl,λae A outer s hr=>?_⟩
 refine⟨_,(AB (AW 3 Kp (AH Am (AK (Bm K) (pv 0) AC (λ_ _=>rfl)) (pv 1)))
  (AB (AW 4 Kp (Aw AD))
  (AB (Ay PassesOwn.never rfl (Ar rfl T.z_range (AA (AS hr G_6 T.m_6 (AA (AK (Bm K) (pv 0) AC (λ_ _=>rfl)) (AA (pv 2) AD))) AD)) (A5 5 Kp) (AB (AW 6 Kp (AS hr G_50 T.m_50 (AA (pv 5) (AA (AK (Bm K) (pv 0) AC (λ_ _=>rfl)) (AA (pv 2) AD)))))
  (AF (A6 (P4 K (pv 4) (AA (AS hr G_38 T.m_38 (AA (pv 0) (AA (MV [(6,"word"),(3,"ahead")] [("word",_),("ahead",_)] (Ar rfl T.z_range (AA (AS hr G_56 T.m_56 (AA (pv 0) AD)) AD)) (λ_ _ _ _=>Gv) (λ_ _ _ _=>(AS hr G_2 T.m_2 (AA (pv 1) (AA (AH Ac (pv 2) (pv 0)) AD))))) AD))) AD))))))
  (AF (AO (AS hr G_62 T.m_62 (AA (AK (Bm K) (pv 0) AC (λ_ _=>rfl)) (AA (pv 1) (AA (pv 4) AD))))))))),?_⟩
 refine BV.el ok.v λtb h1 h2=>?_;have g2:=ok.g2;have g9:=ok.g9;have m8:=ok.m8;have hl:=ok.len;have gp:=RW.Ao g2 M;have M8:=FF g2 gM;walk_at "";refine (CQ (Aa.of h1) rfl ⟨lo,rfl,X4 _,λp hp=>?_⟩);have e0:=AG.new hp (.lst []);refine⟨_,rfl,r,_,0,_,rfl,rfl,Aa.of (e0 _ _ h1),rfl,_,rfl,?_⟩;refine⟨g,_,rfl,g2,g9,by lia,λ_=>?_,λz=>qG z (by rw[Xo];lia)⟩;rw[Xo];refine⟨_,rfl,by lia,by lia,?_⟩;refine BP (n:=(g^M).toNat) (λi σ H1=>∃x5 x6,σ=[some (.ref r),some (.int low),some (.int ((M:Nat):Int)),some (.int (lo-low)),some (.ref p),x5,x6]/\AG H H1/\H1 p=some (.lst (((List.range i).map λn:Nat=>a7.getD (BM g (GA (BD g (n:Int) M) (lo-low) m)).toNat 0).map V.int))) ⟨none,none,rfl,e0,AE⟩ ?_ ?_
 ·refine Dn ?_;rintro _ _ i _ hGo σ H1 hi ⟨x5,x6,rfl,e,hp1⟩;refine hGo _ _ ?_;walk_at "";refine (CQ (Aa.of (e _ _ h1)) rfl ⟨_,g,_,rfl,g2,g9,by lia,by lia,λz=>qG z (by rw[Xo];lia),λ_ _ pw H2 hN2=>?_⟩);rw[Xo,YJ]at hN2;have e2:=e.trans hN2.1;have hp2:=hN2.1 _ _ hp1;refine⟨.inl ⟨_,Af.of hp2⟩,?_⟩;refine⟨_,rfl,r,g,lo,a7,m,rfl,g2,g9,ok.v.same e2,hl,_,rfl,by lia,by lia,λD hD=>?_⟩;rw[Xo];have hw2:H2 pw=some (.lst ((BD g (i:Int) M).map V.int)):=hN2.2.2;refine CA (n:=m) (λj ad Hx=>ad=((List.range j).map λk:Nat=>sn (BD g (i:Int) M) (lo-low+(k:Int))).map V.int/\Hx=AT H2 D (.lst ad)) ⟨rfl,rfl⟩ ?_ ?_
  ·refine F1 ?_;rintro j _ hGo ad Hx hj ⟨rfl,rfl⟩;refine hGo _ _ ?_;walk_at "";rw[YJ];refine⟨pw,_,_,rfl,Af.of (AG.new hD _ _ _ hw2),AE,?_,?_,by rw[GL]⟩
   ·rw[Xf,Xf,YF];exact Ab (by lia)
   ·rw[Bc,Xp];rfl
  ·rintro ad Hx ⟨rfl,rfl⟩;have en:=AG.new hD (.lst ((GA (BD g (i:Int) M) (lo-low) m).map V.int));have bb:=Ep g2 (D4 g2 (i:Int) M) (lo-low) m;have bl:=J1 bb;rw[CH]at bl;refine⟨r,D,g,lo,a7,m,(GA (BD g (i:Int) M) (lo-low) m).map V.int,rfl,g2,g9,(ok.v.same e2).same en,hl,Af.of AE,MF,?_⟩;rw[bl];intro ms hms H4 e4;have:=Jv hms;subst this;have e24:=en.trans e4;refine⟨_,e24 _ _ hp2,?_,(e2.trans e24).into hp,?_⟩
   ·rw[Xf,Xf,YF];exact Ab (by lia)
   ·rw[AE,Bc,Xp];rfl
 ·rintro σ H1 ⟨x5,x6,rfl,e,hp1⟩;walk_at "";refine (CQ (Aa.of (e _ _ h1)) rfl ?_);exact Lk (E:=E0) (a7:=Dd g lo a7 m low M) g2 g9 M1 (Ba g2 _ _ _ _ _) gM (G6 g2 _ ok.tb _ _ _) (.inl hp1) λr' H' e' hR=>q r' H' (e.trans e') (ok.bw M1 gM hR)
theorem SV:AL ["one","found"] ["one"] (AI T8):=B6
theorem Vo(T:B5 K mg t)(G_44:Ak P w K mg base 3 t.f_44 ["one"] (Dc))(G_37:Ak P w K mg base 6 t.f_37 ["one","low","many"] (GR)):Ak P w K mg base 7 t.f_55 ["one"] (HD):=by
 refine Aj T.d_55 SV λvs H Q E h=>?_;obtain⟨r,g,lo,a7,m,rfl,ok,q⟩:=h;refine⟨rfl,λae A outer s hr=>?_⟩
 refine⟨_,(AB (AW 1 SV (AS hr G_44 T.m_44 (AA (pv 0) AD)))
  (AB (Ah (AM BL (Ai (Jj K) rfl T.z_len YR (AA (pv 1) AD)) AC (AQ _)) (AF (AO (AS hr G_37 T.m_37 (AA (pv 0) (AN (AN AD)))))) AV)
  (AF (AO (AS hr G_37 T.m_37 (AA (pv 0) (AA (AK (Cc K) (pv 1) AC (λ_ _=>rfl)) (AA (AH Ac (AH Am (AK (Cc K) (pv 1) (Jm Gi AC) (λ_ _=>rfl)) (AK (Cc K) (pv 1) AC (λ_ _=>rfl))) AC) AD)))))))),?_⟩
 have g2:=ok.g2;have g9:=ok.g9;have m1:=ok.m1;have m8:=ok.m8;have sz:=ok.sz;walk_at "";refine⟨r,g,lo,a7,m,rfl,g2,g9,ok.v,ok.len,m1,m8,sz,λp H1 hN1=>?_⟩;have hcl:((BC g lo a7 m).map V.int).length=(BC g lo a7 m).length:=Xf ..;walk_at "";refine⟨_,.inl (Af.of hN1.2.2),?_⟩;rw[hcl]
 by_cases hc:BC g lo a7 m=[]
 ·rw[qF (by rw[hc];rfl)];have g1:g^1=g:=by rw[YH,Ya,ZI]
  exact⟨r,g,lo,a7,m,0,1,rfl,ok.same hN1.1,Xi _,by lia,λr' H' e' ok'=>q 0 1 (G8 hc) r' H' (hN1.1.trans e') ok'⟩
 ·obtain⟨M,hM,hMm,hW⟩:=Fl hc;have hp0:0<(BC g lo a7 m).length:=ZQ.mpr hc;rw[qE (by lia)];have gM:=By g2 hMm;refine (C0 (Af.of hN1.2.2) (BF (by decide) (by show 0<_;lia)) (C0 (Af.of hN1.2.2) (Fo hp0) (C0 (Af.of hN1.2.2) (BF (by decide) (by show 0<_;lia)) ⟨_,rfl,_,rfl,?_⟩)));refine⟨r,g,lo,a7,m,(BC g lo a7 m).getD 0 0,M,?_,ok.same hN1.1,hW.one,by lia,λr' H' e' ok'=>q _ M hW r' H' (hN1.1.trans e') ok'⟩;rw[hM];rfl
theorem SW:AL ["one","low","high","place"] ["one","low","high"] (AI T9):=B6
theorem Vp(T:B5 K mg t)(G_44:Ak P w K mg base 3 t.f_44 ["one"] (Dc))(G_37:Ak P w K mg base 6 t.f_37 ["one","low","many"] (GR))(G_6:Ak P w K mg base 1 t.f_6 ["signs","many"] (JF)):Ak P w K mg base 7 t.f_49 ["one","low","high"] (Fn t.c_40 t.c_46):=by
 refine KD T.d_49 SW λvs H Q E h=>?_;obtain⟨r,g,lo,a7,m,low,high,rfl,ok,hout,hwide,hok⟩:=h;refine⟨rfl,λae A outer s hr=>?_⟩
 refine⟨_,(AB (Ah (AM E3 (pv 1) (pv 2) (AQ _)) (AF (E9 rfl T.x_40 rfl T.m_40 C4 (AA Im AD))) AV)
  (AB (Ay PassesOwn.leaving rfl (P3 K (AS hr G_44 T.m_44 (AA (pv 0) AD))) (A5 3 SW) (AF (Ah (PW.pt (CI (AM DJ (pv 3) (pv 1) (AQ _)) (Cm (AM E3 (pv 3) (pv 2) (AQ _))))) (AF (E9 rfl T.x_40 rfl T.m_40 C4 (AA Im AD))) AV)))
  (AB (Ah (AM E3 (AS hr G_6 T.m_6 (AA (AK (Bm K) (pv 0) AC (λ_ _=>rfl)) (AA (AH Ac (AH Am (pv 2) (pv 1)) AC) AD))) (EG rfl T.g_LONGEST_TABLE) (AQ _)) (AF (E9 rfl T.x_46 rfl T.m_46 C4 (AA Im AD))) AV)
  (AF (AO (AS hr G_37 T.m_37 (AA (pv 0) (AA (pv 1) (AA (AH Ac (AH Am (pv 2) (pv 1)) AC) AD))))))))),?_⟩
 refine BV.el ok.v λtb h1 h2=>?_;have g2:=ok.g2;have g9:=ok.g9;have m1:=ok.m1;have m8:=ok.m8;walk_at ""
 by_cases hlh:high<low
 ·rw[qF hlh];exact⟨by decide,hout (.inl hlh) _ (AG.refl _)⟩
 rw[qE hlh];refine⟨_,rfl,r,g,lo,a7,m,rfl,g2,g9,ok.v,ok.len,m1,m8,ok.sz,λp H1 hN1=>?_⟩;refine⟨p,rfl,⟨_,Af.of hN1.2.2⟩,?_⟩;refine Bq (xs:=(BC g lo a7 m).map V.int) (λi σ H2=>(∃x3,σ=[some (.ref r),some (.int low),some (.int high),x3])/\H2=H1/\∀z∈(BC g lo a7 m).take i,low<=z/\z<=high) ⟨⟨none,rfl⟩,rfl,λz hz=>qG hz (by simp)⟩ (λi σ H2 _ z=>by rw[z.2.1];exact Af.of hN1.2.2) ?_ ?_
 ·refine Kh ?_;rintro _ _ i x _ hGo σ H2 hx ⟨⟨x3,rfl⟩,rfl,hall⟩;refine hGo _ _ ?_;obtain⟨n,hn,rfl⟩:=Fh hx;have nm:=Xq hn;walk_at ""
  by_cases c1:n<low
  ·rw[qF c1];exact⟨by decide,hout (.inr ⟨n,nm,.inl c1⟩) _ hN1.1⟩
  rw[qE c1]
  by_cases c2:high<n
  ·rw[qF c2];exact⟨by decide,hout (.inr ⟨n,nm,.inr c2⟩) _ hN1.1⟩
  rw[qE c2];refine⟨⟨_,rfl⟩,λz hz=>?_⟩;rw[List.take_succ,hn]at hz;rcases Xr.mp hz with y|y
  ·exact hall z y
  ·have:z=n:=by simpa using y
   lia
 ·rintro σ H2 ⟨⟨x3,rfl⟩,rfl,hall⟩;rw[Xf,YK]at hall
  have nout:¬Qz g lo a7 m low high:=by
   rintro (z|⟨z,hz,y⟩)
   ·exact hlh z
   ·have:=hall z hz;lia
  walk_at "";refine (CQ (Aa.of (hN1.1 _ _ h1)) rfl ⟨g,_,rfl,g2,g9,by lia,λhle=>?_,λhgt rr hrr=>?_⟩)
  ·refine⟨_,rfl,?_⟩;rw[qE (by lia)];exact⟨r,g,lo,a7,m,low,(high-low+1).toNat,by rw[show (((high-low+1).toNat:Nat):Int)=high-low+1 by lia],ok.same hN1.1,by lia,hle,λr' H' e' ok'=>hok nout hle r' H' (hN1.1.trans e') ok'⟩
  ·refine⟨_,rfl,?_⟩;rw[qF hrr];exact⟨by decide,hwide nout hgt _ hN1.1⟩
theorem Sa:AL ["one","least"] ["one"] (AI UA):=B6
theorem Vq(T:B5 K mg t)(G_55:Ak P w K mg base 7 t.f_55 ["one"] (HD))(G_56:Ak P w K mg base 2 t.f_56 ["one"] (DL))(G_49:Ak P w K mg base 7 t.f_49 ["one","low","high"] (Fn t.c_40 t.c_46))(G_59:Ak P w K mg base 1 t.f_59 ["one"] (FE)):Ak P w K mg base 8 t.f_58 ["one"] (JL t.c_46):=by
 refine KD T.d_58 Sa λvs H Q E h=>?_;obtain⟨r,g,lo,a7,m,lf,tf,mf,rfl,ok,fw,hok,hex⟩:=h;refine⟨rfl,λae A outer s hr=>?_⟩
 refine⟨_,(AB (AW 1 Sa (AS hr G_55 T.m_55 (AA (pv 0) AD)))
  (AB (Ah (AM BL (AS hr G_56 T.m_56 (AA (pv 1) AD)) AC (AQ _)) (AF (AO (CL G_49 (hr.mono (by decide)) rfl T.m_49 C5 (AA (pv 1) (AA (AK (Bm K) (pv 1) AC (λ_ _=>rfl)) (AA (AH Ac (AK (Bm K) (pv 1) AC (λ_ _=>rfl)) AC) AD)))))) AV)
  (AB (Ah (AM E3 (AS hr G_59 T.m_59 (AA (pv 1) AD)) (EG rfl T.g_MOST_NODES) (AQ _)) (AF (E9 rfl T.x_46 rfl T.m_46 C4 (AA Im AD))) AV)
  (AF (AO (pv 1)))))),?_⟩
 have g2:=ok.g2;have g9:=ok.g9;refine Ap λN hN=>?_;walk_at "";refine⟨r,g,lo,a7,m,rfl,ok,λlow M hW r1 H1 e1 ok1=>hN _ _ ?_⟩;clear hN N;walk_at "";refine⟨r1,g,low,_,M,rfl,g2,g9,ok1.v,ok1.len,rfl,?_⟩;obtain⟨low',M',hW',elf,hc⟩:=id fw;obtain⟨rfl,rfl⟩:=Ox g2 ok.len hW hW';subst elf;refine BV.el ok1.v λtb h1 h2=>?_;rcases hc with⟨rfl,rfl,rfl⟩|⟨hM,rfl,rfl⟩
 ·rw[qF (show V.int ((1:Nat):Int)=V.int 1 from rfl)];have g1:g^(2-1)=g:=by show g^(0+1)=g;rw[YH,Ya,ZI]
  have e2:(lf+1-lf+1).toNat=2:=by lia
  refine (CQ (Aa.of h1) rfl (CQ (Aa.of h1) rfl ⟨lf,rfl,?_⟩));refine⟨r1,g,lf,_,1,lf,lf+1,rfl,ok1,λho=>?_,λ_ hw=>?_,λ_ _ r2 H2 f2 ok2=>?_⟩
  ·exfalso;rcases ho with z|⟨z,hz,y⟩
   ·lia
   ·unfold BC at hz;obtain⟨j,hj,rfl⟩:=Xy.mp hz;have:=X1.mp (YB.mp hj).1;lia
  ·exfalso;rw[e2]at hw;have:g^2<=9*9:=by rw[show (2:Nat)=(2-1)+1 from rfl,YH,g1];exact ZT g9 g9 (by lia) (by lia)
   lia
  ·rw[e2]at ok2;exact hok (by lia) r2 H2 (e1.trans f2) ok2
 ·rw[qE (λz=>by have:=V.int.inj z;lia)];refine⟨r1,g,lf,_,mf,rfl,ok1,_,rfl,?_⟩;rw[(Bz g2 ok1.len ok1.m1).1]
  by_cases h9:9<g^(mf-1)
  ·rw[qF h9];exact⟨by decide,hex h9 _ e1⟩
  ·rw[qE h9];exact hok (by lia) r1 H1 e1 ok1
theorem Mw:AL ["nexts","ahead","here","come"] ["nexts"] (AI UB):=B6
theorem Vr(T:B5 K mg t) :Ak P w K mg base 1 t.f_11 ["nexts"] (JQ P w K):=by
 refine Aj T.d_11 Mw λvs H Q E h=>?_;obtain⟨d,u,ls,A0,F,rfl,dr,gr,nd,cl,lA,lF,q⟩:=h;refine⟨rfl,λae A outer s hr=>?_⟩
 refine⟨_,(AB (FZ (i:=1) Mw.nd rfl (Or.inl rfl) (FK (P:=P) (w:=w) (K:=K) rfl rfl rfl))
  (AB (Ay PassesOwn.never rfl (DO (P:=P) (w:=w) (K:=K) rfl rfl rfl (pv 0)) (A5 2 Mw) (AB (A6 (O5 (P:=P) (w:=w) (K:=K) rfl rfl rfl Yu ZW (GD (P:=P) (w:=w) (K:=K) rfl rfl rfl (Bw hr)) (pv 1) (AA (pv 2) (AA (Aw AD) AD))))
  (AF (Ay PassesOwn.never rfl (P3 K (CO (P:=P) (w:=w) (K:=K) rfl rfl rfl (Bw hr) (pv 0) (pv 2) (λ_ _=>rfl))) (A5 3 Mw) (AF (A6 (P4 K (O5 (P:=P) (w:=w) (K:=K) rfl rfl rfl Yu ZW (GD (P:=P) (w:=w) (K:=K) rfl rfl rfl (Bw hr)) (pv 1) (AA (pv 3) (AA (Aw AD) AD))) (AA (pv 2) AD))))))))
  (AF (AO (pv 1))))),?_⟩
 refine Ap λN hN=>?_;walk_at "";intro d2 u2 hd2 dw;refine hN _ _ ?_;clear hN N;have e0:=AG.new hd2 u2;generalize AT H d2 u2=H0 at dw e0⊢;refine CF (λσ HX=>(∃x2 x3,σ=[some (.ref d),some (.ref d2),x2,x3])/\∃u' ls2 A2 B,AG (AT H d u') HX/\DR P w K HX d u' (Ae A0 (ls.map V.ref))/\(∀l∈ls2,H l=none)/\DW P w K HX d2 (Ae A2 (ls2.map V.ref))/\DV K HX ls2 A2 B/\Mc A0 F A2 B) (λN hN=>?_) ?_
 ·refine⟨_,rfl,d,u,_,rfl,dr.same e0,λu' dr'=>?_⟩;have nd2:d≠d2:=λe=>by obtain⟨φ,h1,_⟩:=dr.isX;rw[e,hd2]at h1;cases h1
  have eF:=AG.both e0 d u';have gF:=(dr.same e0).grl (gr.same e0) u'
  have aF:SK P w K H (AT H0 d u') d2 [] (λ_=>[]):=by obtain⟨bs,h1,h3,h4⟩:=dw;have hb:bs=[]:=Zl.mp h3;subst hb;exact⟨[],λl hl=>qG hl List.not_mem_nil,⟨[],by rw[AJ (Ne.symm nd2)];exact h1,rfl,λp hp=>qG hp List.not_mem_nil⟩,⟨rfl,List.nodup_nil,λi a l z=>by simp at z⟩⟩
  generalize AT H0 d u'=HF at dr' eF gF aF⊢;refine IZ (P:=P) (w:=w) (K:=K) (d:=d) (u:=u') (kvs:=Ae A0 (ls.map V.ref)) (λi σ HX=>(∃x2 x3,σ=[some (.ref d),some (.ref d2),x2,x3])/\AG (AT H d u') HX/\DR P w K HX d u' (Ae A0 (ls.map V.ref))/\DV K HX ls A0 F/\∃A2 B,SK P w K H HX d2 A2 B/\Nz A0 F i (λ_ _=>False) (i*70000) A2 B) ⟨⟨none,none,rfl⟩,eF,dr',gF,[],λ_=>[],aF,⟨List.nodup_nil,λp hp=>qG hp List.not_mem_nil,λp hp=>qG hp (by simp),λ_ _=>rfl,λp q=>by simp,λ_=>Nat.zero_le _⟩⟩ (λi σ HX _ z=>z.2.2.1) ?_ ?_
  ·rintro i b k v σ HX hk sb ⟨⟨x2,x3,rfl⟩,eX,dX,gX,A2,B,aX,tX⟩;obtain⟨a,l,ha,hl,rfl,rfl⟩:=JR hk;dsimp only[E1];have aA:a∈A0:=Xq ha;have lA2:∀{A2:List (qX)} {B:qX->List (qX)} {D:(qX)->(qX)->Prop} {n:Nat},Nz A0 F i D n A2 B->A2.length<=100:=λt=>YG (t.nd.length_le_of_subset t.sub) lA
   have Hn:∀{HX:Hp} {l:qR},AG (AT H d u') HX->HX l=none->H l=none:=λ{HX l} e z=>by have y:=e.free z;rw[AJ λx=>by rw[x,AE]at y;cases y]at y;exact y
   have hd2':AT H d u' d2=none:=by rw[AJ (Ne.symm nd2)];exact hd2
   refine CF (λσ HY=>(∃x3,σ=[some (.ref d),some (.ref d2),some (.ref b),x3])/\AG (AT H d u') HY/\DR P w K HY d u' (Ae A0 (ls.map V.ref))/\DV K HY ls A0 F/\Aa K HY b (Ku a)/\∃A2 B,SK P w K H HY d2 A2 B/\Nz A0 F i (λ_ _=>False) (i*70000) A2 B/\a∈A2) (λN2 hN2=>?_) ?_
   ·obtain⟨ls2,ln,wX,g2⟩:=aX;obtain⟨v2,r2⟩:=wX.r;have lr:(Ae A2 (ls2.map V.ref)).length<=100:=by rw[BK (by rw[Xf];exact g2.n)];exact lA2 tX
    refine⟨_,rfl,⟨d2,v2,_,rfl,r2⟩,_,rfl,by decide,λl' hl'=>?_⟩;have f1:=AG.new hl' (.lst []);have h0:=Hn eX hl';have nl:=g2.out hl';have lY:AT HX l' (.lst []) l'=some (.lst []):=AE;have eY:=eX.trans f1;have dY:=dX.same f1;have gY:=gX.same f1;have wY:=wX.same f1;have g2Y:=g2.same f1;have sY:=Aa.same' f1 sb;generalize AT HX l' (.lst [])=HY at lY eY dY gY wY g2Y sY⊢;refine⟨d2,b,_,A8 a,.ref l',rfl,rfl,wY,sY,Ab (by lia),λz hz=>hN2 _ _ ⟨⟨_,rfl⟩,eY,dY,gY,sY,A2,B,⟨ls2,ln,wY,g2Y⟩,tX,?_⟩,λhz u3 w3=>hN2 _ _ ?_⟩
    ·by_cases m:a∈A2
     ·exact m
     ·rw[DP m]at hz;cases hz
    ·have m:a∉A2:=λm=>by
      obtain⟨j,hj⟩:=YC.mp m;have jl:=(Xg.mp hj).1;rw[Bn tX.nd hj (v:=.ref (ls2[j]'(by rw[g2.n];exact jl))) (by rw[Xl,Xj (by rw[g2.n];exact jl)];rfl)]at hz;cases hz
     exact⟨⟨_,rfl⟩,eY.into hd2',dY.updX wY nd2 u3,wY.grl gY u3,(by obtain⟨_,h1,_⟩:=wY;exact sY.upd' h1),A2++[a],B,SK.put ln wY g2Y lY nl h0 m (tX.no a m) w3,tX.key m aA,Xr.mpr (.inr (Xu.mpr rfl))⟩
   clear tX aX eX dX gX sb;rintro _ hGo σ HY ⟨⟨x3,rfl⟩,eX,dX,gX,sb,A2,B,aX,tX,mA⟩;refine hGo _ _ ?_;obtain⟨ps,hps,pp⟩:=gX.e i a l ha hl;have pn:=Paired.length pp;have fa:=lF a aA;have i100:i<=100:=by have:=(Xg.mp ha).1;lia
   have nls:∀{x:qR},H x=none->x∉ls:=λhx=>gr.out hx
   refine⟨_,rfl,_,rfl,d,b,u',_,A8 a,.ref l,rfl,rfl,dX,sb,Bn nd ha (by rw[Xl,hl];rfl),l,rfl,⟨_,Af.of hps⟩,?_⟩;refine Bq (xs:=ps.map V.ref) (λj σ HZ=>(∃x3,σ=[some (.ref d),some (.ref d2),some (.ref b),x3])/\AG (AT H d u') HZ/\HZ l=some (.lst (ps.map V.ref))/\Bt K HZ ps (F a)/\DR P w K HZ d u' (Ae A0 (ls.map V.ref))/\DV K HZ ls A0 F/\Aa K HZ b (Ku a)/\∃A2 B,SK P w K H HZ d2 A2 B/\Nz A0 F i (λp q=>q=a/\p∈(F a).take j) (i*70000+j) A2 B/\a∈A2) ⟨⟨_,rfl⟩,eX,hps,pp,dX,gX,sb,A2,B,aX,⟨tX.nd,tX.sub,tX.got,tX.no,λp q=>by rw[tX.on];simp,λp=>Nat.le_trans (tX.len p) (Nat.le_add_right ..)⟩,mA⟩ (λj σ HZ _ z=>Af.of z.2.2.1) ?_ ?_
   ·clear tX aX eX dX gX sb mA hps pp;rintro j x σ HZ hx ⟨⟨x3,rfl⟩,eX,hps,pp,dX,gX,sb,A2,B,⟨ls2,ln,wX,g2⟩,tX,mA⟩;obtain⟨c,hci,rfl⟩:∃c,ps[j]?=some c/\x=V.ref c:=by rw[Xl]at hx;obtain⟨c,h1,h2⟩:=Xz.mp hx;exact⟨c,h1,h2.symm⟩
    obtain⟨p0,hp0,sc⟩:=A3 pp hci;have p0A:p0∈A0:=cl a aA p0 (Xq hp0);have j7:j<70000:=by have:=(Xg.mp hp0).1;lia
    have i7:=Z9 70000 i100;obtain⟨v2,r2⟩:=wX.r
    have lr:(Ae A2 (ls2.map V.ref)).length<=100:=by rw[BK (by rw[Xf];exact g2.n)];exact lA2 tX
    have app:∀(HQ:Hp) (A2:List (qX)) (ls2:List qR) (j2:Nat) (l2:qR),AG (AT H d u') HQ->HQ l=some (.lst (ps.map V.ref))->Bt K HQ ps (F a)->DR P w K HQ d u' (Ae A0 (ls.map V.ref))->DV K HQ ls A0 F->Aa K HQ b (Ku a)->(∀l∈ls2,H l=none)->DW P w K HQ d2 (Ae A2 (ls2.map V.ref))->DV K HQ ls2 A2 B->Nz A0 F i (λp q=>q=a/\p∈(F a).take j) (i*70000+j) A2 B->a∈A2->A2[j2]?=some p0->ls2[j2]?=some l2 ->
      ∃qs:List qR,HQ l2=some (.lst (qs.map V.ref))/\(qs.map V.ref).length<sizeLine/\∃HW,HW=AT HQ l2 (.lst (qs.map V.ref++[V.ref b]))/\AG (AT H d u') HW/\HW l=some (.lst (ps.map V.ref))/\Bt K HW ps (F a)/\DR P w K HW d u' (Ae A0 (ls.map V.ref))/\DV K HW ls A0 F/\Aa K HW b (Ku a)/\∃A2 B,SK P w K H HW d2 A2 B/\Nz A0 F i (λp q=>q=a/\p∈(F a).take (j+1)) (i*70000+(j+1)) A2 B/\a∈A2:=by
     intro HQ A2 ls2 j2 l2 e h1 h2 h3 h4 h5 ln w2 g2 t m hj2 hl2;obtain⟨qs,hq,hqp⟩:=g2.e j2 p0 l2 hj2 hl2;have ml:=Xq hl2;have h0:=ln l2 ml;have nl:=nls h0;have ne:l≠l2:=λz=>nl (by rw[<-z];exact Xq hl)
     have lq:=Paired.length hqp;have lb:=t.len p0;have tp:=t.push hp0 (Xq hj2);rw[aB]at tp;refine⟨qs,hq,by rw[Xf,sizeLine_eq];lia,_,rfl,?_⟩;rw[show qs.map V.ref++[V.ref b]=(qs++[b]).map V.ref by rw[Xp];rfl];refine⟨e.into (by rw[AJ λz=>by obtain⟨φ,y,_⟩:=dr.isX;rw[<-z,h0]at y;cases y];exact h0),by rw[AJ ne];exact h1,Bt.upd hq h2,h3.updL hq _,h4.keep hq nl _,Aa.updL hq h5,A2,_,⟨ls2,ln,w2.updL hq _,g2.push t.nd hj2 hl2 hq hqp h5 λ_=>rfl⟩,tp,m⟩
    refine⟨_,rfl,⟨d2,v2,_,rfl,r2⟩,_,rfl,by decide,λl' hl'=>?_⟩;have f1:=AG.new hl' (.lst []);have h0:=Hn eX hl';have nl:=g2.out hl';have lY:AT HZ l' (.lst []) l'=some (.lst []):=AE;have eY:=eX.trans f1;have dY:=dX.same f1;have gY:=gX.same f1;have wY:=wX.same f1;have g2Y:=g2.same f1;have sY:=Aa.same' f1 sb;have cY:=Aa.same' f1 sc;have hY:=f1 _ _ hps;have pY:=Bt.same f1 pp;generalize AT HZ l' (.lst [])=HY at lY eY dY gY wY g2Y sY cY hY pY⊢;refine⟨d2,c,_,A8 p0,.ref l',rfl,rfl,wY,cY,Ab (by lia),λz hz=>?_,λhz u3 w3=>?_⟩
    ·have m:p0∈A2:=by
      by_cases m:p0∈A2
      ·exact m
      ·rw[DP m]at hz;cases hz
     obtain⟨j2,hj2⟩:=YC.mp m;have jl:=(Xg.mp hj2).1;obtain⟨l2,hl2⟩:∃l2,ls2[j2]?=some l2:=⟨ls2[j2]'(by rw[g2.n];exact jl),Xj _⟩;rw[Bn tX.nd hj2 (v:=.ref l2) (by rw[Xl,hl2];rfl)]at hz;cases hz;obtain⟨qs,h1,h2,HW,hW,h3⟩:=app HY A2 ls2 j2 l2 eY hY pY dY gY sY ln wY g2Y tX mA hj2 hl2;refine⟨.inl ⟨rfl,_,Af.of h1⟩,_,rfl,l2,_,_,rfl,rfl,h1,h2,?_⟩;rw[<-hW];exact⟨⟨_,rfl⟩,h3⟩
    ·have m:p0∉A2:=λm=>by
      obtain⟨j2,hj2⟩:=YC.mp m;have jl:=(Xg.mp hj2).1;rw[Bn tX.nd hj2 (v:=.ref (ls2[j2]'(by rw[g2.n];exact jl))) (by rw[Xl,Xj (by rw[g2.n];exact jl)];rfl)]at hz;cases hz
     obtain⟨ln3,w3',g3⟩:=PJ ln wY g2Y lY nl h0 m (tX.no p0 m) w3;have hj2:(A2++[p0])[A2.length]?=some p0:=by rw[X9 (Xi _),ZH];rfl
     have hl2:(ls2++[l'])[A2.length]?=some l':=by rw[<-g2.n,X9 (Xi _),ZH];rfl
     have wx:∃φ,HY d2=some (.ext φ):=by obtain⟨_,y,_⟩:=wY;exact⟨_,y⟩
     obtain⟨φ,hφ⟩:=wx;obtain⟨qs,h1,h2,HW,hW,h3⟩:=app (AT HY d2 u3) (A2++[p0]) (ls2++[l']) A2.length l' (eY.into hd2') (wY.lst hY u3) (wY.prv pY u3) (dY.updX wY nd2 u3) (wY.grl gY u3) (sY.upd' hφ) ln3 w3' g3 (tX.key m p0A) (Xr.mpr (.inl mA)) hj2 hl2;refine⟨.inl ⟨rfl,_,Af.of h1⟩,_,rfl,l',_,_,rfl,rfl,h1,h2,?_⟩;rw[<-hW];exact⟨⟨_,rfl⟩,h3⟩
   ·rintro σ HZ ⟨⟨x3,rfl⟩,eX,hps,pp,dX,gX,sb,A2,B,aX,tX,mA⟩;rw[Xf,pn]at tX;refine⟨⟨_,_,rfl⟩,eX,dX,gX,A2,B,aX,tX.nd,tX.sub,λp hp=>?_,tX.no,λp q=>?_,λp=>YG (tX.len p) (by lia)⟩
    ·rw[YM,ha]at hp;rcases Xr.mp hp with z|z
     ·exact tX.got p z
     ·rw[Xu.mp z];exact mA
    ·rw[tX.on,YK,YM,ha,show (some a).toList=[a] from rfl,Xr,Xu,or_false];constructor
     ·rintro (⟨h1,h2⟩|⟨h1,h2⟩)
      ·exact⟨.inl h1,h2⟩
      ·exact⟨.inr h1,by rw[h1];exact h2⟩
     ·rintro⟨h1|h1,h2⟩
      ·exact .inl ⟨h1,h2⟩
      ·exact .inr ⟨h1,by rw[h1]at h2;exact h2⟩
  ·rintro σ HX ⟨⟨x2,x3,rfl⟩,eX,dX,gX,A2,B,⟨ls2,ln,wX,gX2⟩,tX⟩;rw[BK (by rw[Xf];exact gX.n)]at tX;exact hN _ _ ⟨⟨_,_,rfl⟩,u',ls2,A2,B,eX,dX,ln,wX,gX2,⟨tX.nd,λp=>⟨tX.sub p,λh=>tX.got p (by rw[List.take_length];exact h)⟩,λp q=>by rw[tX.on,List.take_length];simp,λp=>Nat.le_trans (tX.len p) (Nat.mul_le_mul_right 70000 lA)⟩⟩
 rintro _ hGo σ HX ⟨⟨x2,x3,rfl⟩,u',ls2,A2,B,eX,dX,ln,wX,gX,tX⟩;refine hGo _ _ ?_;walk_at "";exact q u' HX d2 ls2 A2 B eX dX hd2 ln wX gX tX
theorem Hw:AL ["ahead","most","free","steps","here"] ["ahead"] (AI UC):=B6
theorem Vs(T:B5 K mg t) :Ak P w K mg base 1 t.f_21 ["ahead"] (LY P w K):=by
 refine Aj T.d_21 Hw λvs H Q E h=>?_;obtain⟨d,u,ls,A0,B,rfl,dr,gr,nd,cl,lA,lB,q⟩:=h;refine⟨rfl,λae A outer s hr=>?_⟩
 refine⟨_,(AB (FZ (i:=1) Hw.nd rfl (Or.inr rfl) (FK (P:=P) (w:=w) (K:=K) rfl rfl rfl))
  (AB (Da (iy:=2) (fv:=[(0,"ahead")]) (cl:=[("ahead",_)]) rfl Hw.nd rfl (Or.inl rfl) (DO (P:=P) (w:=w) (K:=K) rfl rfl rfl (pv 0)) (by with_unfolding_all rfl) (by with_unfolding_all rfl) (by decide +kernel) rfl (by decide +kernel) rfl ⟨(by with_unfolding_all rfl),trivial⟩ (by with_unfolding_all rfl) ⟨⟨rfl,rfl,(by with_unfolding_all rfl),rfl⟩,trivial⟩ (by decide) (λ_ _ _ _=>(Em (AM BL (Ai (LI (K:=K) rfl) rfl T.z_len YR (AA (by exact CO (P:=P) (w:=w) (K:=K) rfl rfl rfl (Bw hr) (pv 1) (pv 0) (λ_ _=>rfl)) AD)) AC (AQ _)))) (λ_ _ _ _=>(pv 0)))
  (AB (AW 3 Hw AC)
  (AB (E2 PassesOwn.never (AM E3 (Ai (Jj K) rfl T.z_len YR (AA (pv 2) AD)) AC (AQ _)) (AB (Ay PassesOwn.never rfl (P3 K (pv 2)) (A5 4 Hw) (AF (D8 (P:=P) (w:=w) (K:=K) rfl rfl rfl (Bw hr) (pv 1) (pv 4) (pv 3) rfl)))
  (AB (AW 3 Hw (AH Ac (pv 3) AC))
  (AF (Da (iy:=2) (fv:=[(1,"most"),(0,"ahead")]) (cl:=[("most",_),("ahead",_)]) rfl Hw.nd rfl (Or.inl rfl) (DO (P:=P) (w:=w) (K:=K) rfl rfl rfl (pv 0)) (by with_unfolding_all rfl) (by with_unfolding_all rfl) (by decide +kernel) rfl (by decide +kernel) rfl ⟨(by with_unfolding_all rfl),⟨(by with_unfolding_all rfl),trivial⟩⟩ (by with_unfolding_all rfl) ⟨⟨rfl,rfl,(by with_unfolding_all rfl),rfl⟩,⟨⟨rfl,rfl,(by with_unfolding_all rfl),rfl⟩,trivial⟩⟩ (by decide) (λ_ _ _ _=>(Em (PW.pt (FY (Sj (LR (P:=P) (w:=w) (K:=K) rfl rfl rfl (Bw hr) (pv 0) (pv 1))) (EF (Bb (Ai (LZ (K:=K) rfl rfl) rfl T.z_all PyProof.Rows.boot_all (AA (MV [(1,"most")] [("most",_)] (PM (K:=K) rfl (by exact CO (P:=P) (w:=w) (K:=K) rfl rfl rfl (Bw hr) (pv 2) (pv 0) (λ_ _=>rfl))) (λ_ _ _ _=>Gv) (λ_ _ _ _=>(Si (RB (P:=P) (w:=w) (K:=K) rfl rfl rfl (Bw hr) (pv 0) (pv 1))))) AD)))))))) (λ_ _ _ _=>(pv 0)))))))
  (AF (AO (pv 1))))))),?_⟩
 refine Ap λN hN=>?_;walk_at "";intro d2 u2 hd2 dw;refine hN _ _ ?_;clear hN N
 have nd2:d≠d2:=λe=>by obtain⟨φ,h1,_⟩:=dr.isX;rw[e,hd2]at h1;cases h1
 have e0:=AG.new hd2 u2;generalize AT H d2 u2=H0 at dw e0⊢
 have Hn:∀{HX:Hp} {l:qR} {u':HO},AG (AT H d u') HX->HX l=none->H l=none:=λ{HX l u'} e z=>by have y:=e.free z;rw[AJ λx=>by rw[x,AE]at y;cases y]at y;exact y
 refine CF (λσ HX=>∃D,σ=[some (.ref d),some (.ref d2),some (.ref D),none,none]/\WZ P w K H d d2 ls A0 B D [] (λ_=>0) (A0.filter λp=>decide (B p=[])) HX) (λN hN=>?_) ?_
 ·refine⟨_,rfl,d,u,_,rfl,dr.same e0,λu' dr' D hD=>?_⟩;have eF:=AG.both e0 d u';have gF:=(dr.same e0).grl (gr.same e0) u';have wF:DW P w K (AT H0 d u') d2 (Ae [] []):=by obtain⟨bs,h1,h3,h4⟩:=dw;have hb:bs=[]:=Zl.mp h3;subst hb;exact⟨[],by rw[AJ (Ne.symm nd2)];exact h1,rfl,λp hp=>qG hp X7⟩
  generalize AT H0 d u'=HF at dr' eF gF wF hD⊢;refine Es (P:=P) (w:=w) (K:=K) (λi ad Hx=>∃ps:List qR,ad=ps.map V.ref/\ps.length<=i/\AG HF Hx/\Hx D=some (.lst ad)/\Bt K Hx ps ((A0.take i).filter λp=>decide (B p=[]))) ⟨[],rfl,Xi _,AG.new hD _,AE,.nil⟩ (λi ad Hx _ z=>by obtain⟨_,_,_,e,_⟩:=z;exact dr'.same e) ?_ ?_
  ·rintro i b k v ad Hx hk sb ⟨ps,rfl,lp,ex,hDx,hp⟩;obtain⟨a,l,ha,hl,rfl,rfl⟩:=JR hk;have i100:i<=100:=by have:=(Xg.mp ha).1;lia
   obtain⟨qs,hq,pq⟩:=(gF.same ex).e i a l ha hl;have lq:=Paired.length pq;refine⟨_,rfl,_,rfl,d,b,u',_,A8 a,.ref l,rfl,rfl,dr'.same ex,sb,Bn nd ha (by rw[Xl,hl];rfl),l,_,rfl,.inl (Af.of hq),rfl,_,rfl,?_⟩;dsimp only;rw[EN ha,Xf,lq]
   by_cases z:B a=[]
   ·rw[qF (by rw[z];rfl),qF (qH z)];refine⟨_,rfl,hDx,by rw[Xf];exact Ab (by lia),ps++[b],by rw[Xp];rfl,by rw[Xt,YZ];lia,ex.into hD,AE,?_⟩;exact Paired.app (Bt.upd hDx hp) (.cons (Aa.updL hDx sb) .nil)
   ·have nz:(B a).length≠0:=λy=>z (List.length_eq_zero_iff.mp y)
    rw[qE (λy=>nz (by have:=qN y;injection this with this;lia)),qE (λy=>z (qN y)),X6];exact⟨ps,rfl,by lia,ex,hDx,hp⟩
  ·rintro ad H2 ⟨ps,rfl,lp,ex,hDx,hp⟩;rw[BK (by rw[Xf];exact gF.n),YK]at hp;exact hN _ _ ⟨D,rfl,u',ps,eF.trans ex,dr'.same ex,gF.same ex,Hn eF hD,hDx,hp,wF.same ex⟩
 rintro _ hGo σ HX ⟨D,rfl,mv⟩;refine hGo _ _ ?_;refine Ap λN hN=>?_;refine hN _ _ ?_;clear hN N dw e0;refine CF (λσ HX=>∃D M f n x4,σ=[some (.ref d),some (.ref d2),some (.ref D),some (.int (n:Nat)),x4]/\WZ P w K H d d2 ls A0 B D M f [] HX/\PN A0 B M f [] n) (λN hN=>?_) ?_
 ·refine⟨λm σ HX=>∃D M f FL n x4,m=101-n/\σ=[some (.ref d),some (.ref d2),some (.ref D),some (.int (n:Nat)),x4]/\WZ P w K H d d2 ls A0 B D M f FL HX/\PN A0 B M f FL n,⟨_,D,[],_,_,0,none,rfl,rfl,mv,PP nd _⟩,?_⟩;clear mv HX D;rintro m σ HX ⟨D,M,f,FL,n,x4,rfl,rfl,⟨u',ps,eX,dX,gX,hD0,hD,pX,wX⟩,mp⟩;have lp:=Paired.length pX;refine⟨_,rfl,D,_,rfl,.inl (Af.of hD),_,_,rfl,rfl,_,rfl,?_⟩;dsimp only;rw[Xf,lp];have few:=mp.few;have nle:=mp.le
  by_cases z:FL=[]
  ·subst z;rw[qE (λy=>qG (qN y) (by decide))];exact hN _ _ ⟨D,M,f,n,x4,rfl,⟨u',ps,eX,dX,gX,hD0,hD,pX,wX⟩,mp⟩
  have fl:0<FL.length:=ZQ.mpr z;rw[qF (qH (by lia))];refine⟨λσ HX=>∃D M' f' FL' x4,σ=[some (.ref d),some (.ref d2),some (.ref D),some (.int ((n+1:Nat):Int)),x4]/\WZ P w K H d d2 ls A0 B D M' f' FL' HX/\PN A0 B M' f' FL' (n+1),λσ' H' ⟨D,M',f',FL',x4,h1,h2,h3⟩=>⟨101-(n+1),by lia,D,M',f',FL',n+1,x4,rfl,h1,h2,h3⟩,?_⟩;have hd2':∀u',AT H d u' d2=none:=λu'=>by rw[AJ (Ne.symm nd2)];exact hd2
  refine XY (λσ HZ=>(∃x4,σ=[some (.ref d),some (.ref d2),some (.ref D),some (.int (n:Nat)),x4])/\AG (AT H d u') HZ/\DR P w K HZ d u' (Ae A0 (ls.map V.ref))/\DV K HZ ls A0 B/\DW P w K HZ d2 (Ae (M++FL) ((M++FL).map λp=>V.int (Ta M f n p:Int)))) (λN hN=>?_) ?_
  ·refine⟨_,rfl,D,rfl,⟨_,Af.of hD⟩,?_⟩;refine Bq (xs:=ps.map V.ref) (λj σ HZ=>(∃x4,σ=[some (.ref d),some (.ref d2),some (.ref D),some (.int (n:Nat)),x4])/\AG (AT H d u') HZ/\DR P w K HZ d u' (Ae A0 (ls.map V.ref))/\DV K HZ ls A0 B/\HZ D=some (.lst (ps.map V.ref))/\Bt K HZ ps FL/\DW P w K HZ d2 (Ae (M++FL.take j) ((M++FL.take j).map λp=>V.int (Ta M f n p:Int)))) ⟨⟨_,rfl⟩,eX,dX,gX,hD,pX,?_⟩ (λj σ HZ _ z=>Af.of z.2.2.2.2.1) ?_ ?_
   ·rw[List.take_zero,X6,YW (g:=λp=>V.int (f p:Int)) λp hp=>by rw[Df hp]];exact wX
   ·rintro j x σ HZ hx ⟨⟨x4,rfl⟩,eZ,dZ,gZ,hDZ,pZ,wZ⟩;obtain⟨c,hci,rfl⟩:∃c,ps[j]?=some c/\x=V.ref c:=by rw[Xl]at hx;obtain⟨c,h1,h2⟩:=Xz.mp hx;exact⟨c,h1,h2.symm⟩
    obtain⟨p0,hp0,sc⟩:=A3 pZ hci;have pn:p0∉M:=((mp.on p0).mp (Xq hp0)).2.1;have nin:p0∉M++FL.take j:=λy=>(Xr.mp y).elim pn (Cg mp.ndF hp0)
    have lr:(Ae (M++FL.take j) ((M++FL.take j).map λp=>V.int (Ta M f n p:Int))).length<=100:=by rw[BK (by rw[Xf]),Xt,YL];lia
    refine⟨_,rfl,_,rfl,_,rfl,d2,c,_,A8 p0,rfl,rfl,wZ,sc,Ab (by lia),λu3 w3=>⟨⟨_,rfl⟩,eZ.into (hd2' u'),dZ.updX wZ nd2 u3,wZ.grl gZ u3,wZ.lst hDZ u3,wZ.prv pZ u3,?_⟩⟩;rw[D9 (by rw[Xf]) nin]at w3;rw[YM,hp0,show (some p0).toList=[p0] from rfl,<-YD,Xp (l₂:=[p0]),List.map_singleton,FQ pn];exact w3
   ·rintro σ HZ ⟨⟨x4,rfl⟩,eZ,dZ,gZ,hDZ,pZ,wZ⟩;rw[Xf,lp,YK]at wZ;exact hN _ _ ⟨⟨_,rfl⟩,eZ,dZ,gZ,wZ⟩
  clear eX dX gX hD pX wX;have mq:=mp.step nd z;have lM2:(M++FL).length<=100:=by rw[Xt];lia
  obtain⟨M2,hM2⟩:∃M2,M2=M++FL:=⟨_,rfl⟩;rw[<-hM2]at mq lM2⊢;generalize Ta M f n=f2 at mq⊢;rintro σ HZ ⟨⟨y4,rfl⟩,eZ,dZ,gZ,wZ⟩;refine Ap λN hN=>⟨_,rfl,_,_,rfl,rfl,hN _ _ ?_⟩
  clear hN N;refine⟨_,rfl,d,u',_,rfl,dZ,λu2 dr2 D2 hD2=>?_⟩;have eG:=AG.both eZ d u2;rw[GL]at eG;have gG:=dZ.grl gZ u2
  have wG:DW P w K (AT HZ d u2) d2 (Ae M2 (M2.map λp=>V.int (f2 p:Int))):=by obtain⟨bs,h1,h3,h4⟩:=wZ;exact⟨bs,by rw[AJ (Ne.symm nd2)];exact h1,h3,λp hp=>dZ.sqt (h4 p hp) u2⟩
  generalize AT HZ d u2=HG at dr2 eG gG wG hD2⊢;refine Es (P:=P) (w:=w) (K:=K) (λi ad Hx=>∃ps2:List qR,ad=ps2.map V.ref/\ps2.length<=i/\AG HG Hx/\Hx D2=some (.lst ad)/\Bt K Hx ps2 ((A0.take i).filter λp=>decide (p∉M2)&&decide (∀q∈B p,q∈M2))) ⟨[],rfl,Xi _,AG.new hD2 _,AE,.nil⟩ (λi ad Hx _ z=>by obtain⟨_,_,_,e,_⟩:=z;exact dr2.same e) ?_ ?_
  ·rintro i b k v ad Hx hk sb ⟨ps2,rfl,l2,ex,hDx,hp⟩;obtain⟨a,l,ha,hl,rfl,rfl⟩:=JR hk;have i100:i<=100:=by have:=(Xg.mp ha).1;lia
   obtain⟨qs,hq,pq⟩:=(gG.same ex).e i a l ha hl;have lq:=Paired.length pq;have la:=lB a (Xq ha);obtain⟨u5,r5⟩:=(wG.same ex).r;refine⟨_,rfl,_,rfl,d2,b,u5,_,A8 a,rfl,rfl,r5,sb,_,rfl,?_⟩;dsimp only;rw[Et,EN ha]
   by_cases m:a∈M2
   ·rw[qH m,Bool.not_true];refine Sx (Sx ?_);rw[qE (by rw[qI (λy=>y m)];exact Xx),X6];exact⟨ps2,rfl,by lia,ex,hDx,hp⟩
   rw[qI m,Bool.not_false];refine Wk ?_;refine⟨_,rfl,_,rfl,d,b,u2,_,A8 a,.ref l,rfl,rfl,dr2.same ex,sb,Bn nd ha (by rw[Xl,hl];rfl),l,rfl,⟨_,Af.of hq⟩,λD3 hD3=>?_⟩;refine IR (xs:=qs.map V.ref) (λj ad Hy=>ad=((B a).take j).map (λp=>V.bl (decide (p∈M2)))/\AG Hx Hy/\Hy D3=some (.lst ad)) ⟨rfl,AG.new hD3 _,AE⟩ (λj ad Hy _ z=>Af.of (z.2.1 _ _ hq)) ?_ ?_
   ·refine P5 ?_;rintro j x _ hGo ad Hy hx ⟨rfl,ey,h3⟩;refine hGo _ _ ?_;obtain⟨c,hci,rfl⟩:∃c,qs[j]?=some c/\x=V.ref c:=by rw[Xl]at hx;obtain⟨c,h1,h2⟩:=Xz.mp hx;exact⟨c,h1,h2.symm⟩
    obtain⟨p0,hp0,sc⟩:=A3 pq hci;dsimp only[Qs];rw[qF rfl];refine⟨_,rfl,_,rfl,d2,c,u5,_,A8 p0,rfl,rfl,r5.same ey,Aa.same' ey sc,h3,?_,?_,ey.into hD3,AE⟩
    ·rw[Xf,YL,sizeLine_eq];lia
    ·rw[Et,YM,hp0,Xp];rfl
   ·rintro ad Hy ⟨rfl,ey,h3⟩;rw[Xf,lq,YK]at h3;refine⟨D3,(B a).map λp=>decide (p∈M2),rfl,Af.of (by rw[h3,Za];rfl),_,rfl,?_⟩;dsimp only;have ev:(((B a).map λp=>decide (p∈M2)).all id=true)↔∀q∈B a,q∈M2:=by simp
    by_cases all:∀q∈B a,q∈M2
    ·rw[qF (ev.mpr all),qF (by rw[qH m,qH all];rfl)];have hD':=ey _ _ hDx;refine⟨_,rfl,hD',by rw[Xf];exact Ab (by lia),ps2++[b],by rw[Xp];rfl,by rw[Xt,YZ];lia,(ex.trans ey).into hD2,AE,?_⟩;exact Paired.app (Bt.upd hD' (Bt.same ey hp)) (.cons (Aa.updL hD' (Aa.same' ey sb)) .nil)
    ·rw[qE (λy=>all (ev.mp y)),qE (by rw[qI all,Bool.and_false];exact Xx),X6];exact⟨ps2,rfl,by lia,ex.trans ey,ey _ _ hDx,Bt.same ey hp⟩
  ·rintro ad H2 ⟨ps2,rfl,l2,ex,hDx,hp⟩;rw[BK (by rw[Xf];exact gG.n),YK]at hp;exact⟨D2,M2,f2,_,_,rfl,⟨u2,ps2,eG.trans ex,dr2.same ex,gG.same ex,Hn eG hD2,hDx,hp,wG.same ex⟩,mq⟩
 rintro _ hGo σ HX ⟨D,M,f,n,x4,rfl,⟨u',ps,eX,dX,gX,hD0,hD,pX,wX⟩,mp⟩;refine hGo _ _ ?_;walk_at "";exact q u' HX d2 M f eX dX hd2 wX mp.done
theorem Vt:AL ["node","other"] ["node","other"] (AI UD):=B6
theorem Vu(T:B5 K mg t) :Ak P w K mg base 1 t.f_48 ["node","other"] (FM K):=by
 refine Aj T.d_48 Vt λvs H Q E h=>?_;obtain⟨a,b,rfl,q⟩:=h;refine⟨rfl,λae A outer s hr=>?_⟩
 refine⟨_,(AB (Ah (AM BL (pv 0) (pv 1) (AQ _)) (AF (AO (El rfl T.m_EVEN))) AV)
  (AF (AO (BI (AA (pv 0) (AA (pv 1) AD)))))),?_⟩
 walk_at ""
 by_cases e:a=b
 ·rw[qF (by rw[e])];refine q _ H (AG.refl _) ?_;subst e;rw[Cp];exact GZ T.q_EVEN H
 ·rw[qE (by lia)];refine⟨by decide,λp hp=>q p _ (AG.new hp _) (Aa.of ?_)⟩;unfold C9;rw[qE e];exact AE
theorem QE:AL ["framed","pairs","node"] ["framed"] (AI UE):=B6
theorem Vv(T:B5 K mg t)(G_59:Ak P w K mg base 1 t.f_59 ["one"] (FE)):Ak P w K mg base 2 t.f_36 ["framed"] (JN K):=by
 refine Aj T.d_36 QE λvs H Q E h=>?_;obtain⟨r,g,lo,a7,m,rfl,ok,sm,q⟩:=h;refine⟨rfl,λae A outer s hr=>?_⟩
 refine⟨_,(AB (AW 1 QE (Aw (AA (El rfl T.m_EVEN) AD)))
  (AB (Ay PassesOwn.never rfl (Ar rfl T.z_range (AA (AS hr G_59 T.m_59 (AA (pv 0) AD)) AD)) (A5 2 QE) (AF (A6 (L8 Zs PySem.F.slot_list_extend PySem.F.type_list_extend IN (pv 1) (AA (MV [(2,"node")] [("node",_)] (Ar rfl T.z_range (AA (AS hr G_59 T.m_59 (AA (pv 0) AD)) AD)) (λ_ _ _ _=>(Em (AM Ed (pv 0) (pv 1) (AQ _)))) (λ_ _ _ _=>(BI (AA (pv 1) (AA (pv 0) AD))))) AD)))))
  (AF (AO (pv 1))))),?_⟩
 have hd:=Bz ok.g2 ok.len ok.m1;have gp:=RW.Ao ok.g2 (m-1);obtain⟨h,hh⟩:∃h:Nat,h=a7.length/g.toNat:=⟨_,rfl⟩;rw[<-hh]at q hd;have h9:h<=9:=by lia
 refine Ap λN hN=>?_;walk_at "";refine⟨by decide,λD hD=>hN _ _ ?_⟩;clear hN N;refine CF (λσ HX=>(∃x2,σ=[some (.ref r),some (.ref D),x2])/\AG H HX/\∃ps:List qR,HX D=some (.lst (ps.map V.ref))/\Bt K HX ps (Ax h)) (λN hN=>?_) ?_
 ·have e0:=AG.new hD (.lst [V.ref t.k_EVEN]);refine⟨_,rfl,r,g,lo,a7,m,rfl,ok.same e0,?_⟩;rw[<-hh];refine⟨_,rfl,by lia,by lia,?_⟩;rw[Xo];refine BP (n:=h) (λi σ HX=>(∃x2,σ=[some (.ref r),some (.ref D),x2])/\AG H HX/\∃ps:List qR,HX D=some (.lst (ps.map V.ref))/\Bt K HX ps ((0,0)::(List.range i).flatMap (HJ h))) ⟨⟨none,rfl⟩,e0,[t.k_EVEN],AE,.cons (GZ T.q_EVEN _) .nil⟩ ?_ λσ HX z=>hN _ _ z
  refine Dn ?_;rintro _ _ i _ hGo σ HX hi ⟨⟨x2,rfl⟩,eX,ps,hX,hp⟩;refine hGo _ _ ?_;have lp:=Paired.length hp
  have ll:ps.length<=100:=by have a:=FN h i;have b:=Yo (show i<=9 by lia) h9;rw[lp,YT];lia
  have okX:=ok.same eX;refine⟨_,rfl,.inl ⟨rfl,_,Af.of hX⟩,?_⟩;refine⟨_,rfl,r,g,lo,a7,m,rfl,okX,?_⟩;rw[<-hh];refine⟨_,rfl,by lia,by lia,λD2 hD2=>?_⟩;rw[Xo];refine CA (n:=h) (λj ad Hx=>∃ps2:List qR,ad=ps2.map V.ref/\ps2.length<=j/\AG HX Hx/\Hx D2=some (.lst ad)/\Bt K Hx ps2 (((List.range j).filter λo=>decide (o≠i)).map λo=>(i,o))) ⟨[],rfl,Xi _,AG.new hD2 _,AE,.nil⟩ ?_ ?_
  ·refine F1 ?_;rintro j _ hGo ad Hx hj ⟨ps2,rfl,l2,ex,h2,hp2⟩;refine hGo _ _ ?_;walk_at "";rw[Yb,Yj]
   by_cases e:j=i
   ·rw[qE (by lia),show ([j].filter λo=>decide (o≠i))=[] by subst e;simp,List.append_nil];exact⟨ps2,rfl,by lia,ex,h2,hp2⟩
   ·rw[qF (by lia),show ([j].filter λo=>decide (o≠i))=[j] by simp[e],List.map_append];refine⟨by decide,λp hp=>?_⟩;have f1:=AG.new hp (.tup [V.int (0+(i:Int)),V.int (0+(j:Int))]);have hl:=f1 _ _ h2;refine⟨hl,by rw[Xf];exact Ab (by lia),ps2++[p],by rw[Xp];rfl,by rw[Xt,YZ];lia,(ex.trans f1).into hD2,AE,Paired.app (Bt.upd hl (Bt.same f1 hp2)) (.cons (Aa.updL hl (Aa.of ?_)) .nil)⟩;rw[AE,YJ,YJ];rfl
  ·rintro ad H2 ⟨ps2,rfl,l2,ex,h2,hp2⟩;dsimp only[IC];refine⟨D,D2,_,_,rfl,rfl,ex _ _ hX,h2,?_,?_⟩
   ·rw[Xf,Xf];exact Y9 (Ab (show ps.length+ps2.length<=1000 by lia))
   refine⟨⟨_,rfl⟩,(eX.trans ex).into hD,ps++ps2,by rw[AE,Xp],?_⟩;rw[Yb,Y0,<-List.cons_append];refine Paired.app (Bt.upd (ex _ _ hX) (Bt.same ex hp)) ?_;rw[ZB,ZF,X6];exact Bt.upd (ex _ _ hX) hp2
 rintro _ hGo σ HX ⟨⟨x2,rfl⟩,eX,ps,hX,hp⟩;refine hGo _ _ ?_;walk_at "";exact q D HX ps eX hD hX hp
theorem Mx:AL ["framed","found","word","told"] ["framed"] (AI UF):=B6
theorem Vw(T:B5 K mg t) :Ak P w K mg base 1 t.f_26 ["framed"] (LX K):=by
 refine Aj T.d_26 Mx λvs H Q E h=>?_;obtain⟨r,g,lo,a7,m,rfl,ok,sm,q⟩:=h;refine⟨rfl,λae A outer s hr=>?_⟩
 refine⟨_,(AB (AW 1 Mx (Aw AD))
  (AB (Ay PassesOwn.never rfl (Gx rfl T.z_enumerate (AA (AK (Bm K) (pv 0) AC (λ_ _=>rfl)) AD)) (VI K 2 rfl (BG (A5 2 Mx) (BG (A5 3 Mx) C1))) (AF (A6 (L8 Zs PySem.F.slot_list_extend PySem.F.type_list_extend IN (pv 1) (AA (Oz (fv:=[(2,"word"),(3,"told")]) (cl:=[("word",_),("told",_)]) rfl (Gx rfl T.z_enumerate (AA (AK (Bm K) (pv 0) AC (λ_ _=>rfl)) AD)) (by with_unfolding_all rfl) (by decide +kernel) rfl (by decide +kernel) rfl rfl ⟨(by with_unfolding_all rfl),⟨(by with_unfolding_all rfl),trivial⟩⟩ (by with_unfolding_all rfl) ⟨⟨rfl,rfl,(by with_unfolding_all rfl),rfl⟩,⟨⟨rfl,rfl,(by with_unfolding_all rfl),rfl⟩,trivial⟩⟩ (by decide) (λ_ _ _ _=>(Em (PW.pt (FY (AM BL (pv 1) (pv 3) (AQ _)) (EF (AM Ed (pv 0) (pv 2) (AQ _))))))) (λ_ _ _ _=>(BI (AA (pv 2) (AA (pv 0) AD))))) AD)))))
  (AF (AO (pv 1))))),?_⟩
 refine BV.el ok.v λtb h1 h2=>?_;have hlm:(a7.map V.int).length=a7.length:=Xf ..;refine Ap λN hN=>?_;walk_at "";refine⟨by decide,λD hD=>hN _ _ ?_⟩;clear hN N;refine CF (λσ HX=>(∃x2 x3,σ=[some (.ref r),some (.ref D),x2,x3])/\AG H HX/\∃ps:List qR,HX D=some (.lst (ps.map V.ref))/\Bt K HX ps (EY a7)) (λN hN=>?_) ?_
 ·have e0:=AG.new hD (.lst []);refine⟨_,rfl,r,_,2,_,rfl,rfl,Aa.of (e0 _ _ h1),rfl,?_⟩;refine⟨tb,_,rfl,Aa.of (e0 _ _ h2),?_⟩;refine IS (xs:=a7.map V.int) (λi σ HX=>(∃x2 x3,σ=[some (.ref r),some (.ref D),x2,x3])/\AG H HX/\∃ps:List qR,HX D=some (.lst (ps.map V.ref))/\Bt K HX ps ((List.range i).flatMap (PD a7))) ⟨⟨none,none,rfl⟩,e0,[],AE,.nil⟩ (λi σ HX _ z=>Aa.of (z.2.1 _ _ h2)) ?_ λσ HX z=>hN _ _ (by rw[hlm]at z;exact z)
  rintro i x p2 σ HX hx ⟨⟨x2,x3,rfl⟩,eX,ps,hX,hp⟩ hp2;obtain⟨n,hn,rfl⟩:=Fh hx;have hi:i<a7.length:=(Xg.mp hn).1;have f2:=AG.new hp2 (.tup [V.int ((i:Nat):Int),V.int n]);have eY:=eX.trans f2;have hY:=f2 _ _ hX;have pY:=Bt.same f2 hp;refine⟨p2,_,rfl,Aa.of AE,rfl,_,_,rfl,_,_,rfl,rfl,?_⟩;generalize AT HX p2 (.tup [V.int ((i:Nat):Int),V.int n])=HY at eY hY pY⊢;clear hX hp f2 eX hp2;refine⟨_,rfl,.inl ⟨rfl,_,Af.of hY⟩,?_⟩;refine⟨_,rfl,r,_,2,_,rfl,rfl,Aa.of (eY _ _ h1),rfl,?_⟩;refine⟨tb,_,rfl,Aa.of (eY _ _ h2),λD2 hD2=>?_⟩;refine KM (xs:=a7.map V.int) (λj ad Hx=>∃ps2:List qR,ad=ps2.map V.ref/\ps2.length<=j/\AG HY Hx/\Hx D2=some (.lst ad)/\Bt K Hx ps2 (((List.range j).filter λb=>decide (a7.getD b 0=a7.getD i 0)&&decide (b≠i)).map λb=>(i,b))) ⟨[],rfl,Xi _,AG.new hD2 _,AE,.nil⟩ (λj ad Hx _ z=>by obtain⟨_,_,_,z,_⟩:=z;exact Aa.of (z _ _ (eY _ _ h2))) ?_ ?_
  ·rintro j x p3 ad Hx hx ⟨ps2,rfl,l2,ex,h2',hp2⟩ hp3;obtain⟨n',hn',rfl⟩:=Fh hx;have f3:=AG.new hp3 (.tup [V.int ((j:Nat):Int),V.int n']);have eA:=ex.trans f3;have hA:=f3 _ _ h2';have pA:=Bt.same f3 hp2;generalize AT Hx p3 (.tup [V.int ((j:Nat):Int),V.int n'])=HA at eA hA pA⊢;clear f3 ex h2' hp2 hp3;have en:n=a7.getD i 0:=by rw[Xk,hn];rfl
   have en':n'=a7.getD j 0:=by rw[Xk,hn'];rfl
   walk_at "";rw[Yb,Yj]
   by_cases e1:n'=n
   ·have e1':a7.getD j 0=a7.getD i 0:=by rw[<-en',e1,en]
    rw[qF e1]
    by_cases e:j=i
    ·rw[qE (by lia),GF (by rw[qI (show ¬j≠i from λz=>z e),Bool.and_false]),X6];exact⟨ps2,rfl,by lia,eA,hA,pA⟩
    ·rw[qF (by lia),HK (by rw[Yy];exact⟨qH e1',qH e⟩),Xp];refine⟨by decide,λp hp=>?_⟩;have f1:=AG.new hp (.tup [V.int ((i:Nat):Int),V.int ((j:Nat):Int)]);have hl:=f1 _ _ hA;have hj:j<a7.length:=(Xg.mp hn').1;have lt:a7.length<=256:=by have:=ok.sz;have:=ok.len;lia
     refine⟨hl,by rw[Xf];exact Ab (by lia),ps2++[p],by rw[Xp];rfl,by rw[Xt,YZ];lia,(eA.trans f1).into hD2,AE,Paired.app (Bt.upd hl (Bt.same f1 pA)) (.cons (Aa.updL hl (Aa.of AE)) .nil)⟩
   ·rw[qE e1,GF (by rw[qI (show ¬a7.getD j 0=a7.getD i 0 from λz=>e1 (by rw[en',z,en])),Bool.false_and]),X6];exact⟨ps2,rfl,by lia,eA,hA,pA⟩
  ·rintro ad H2 ⟨ps2,rfl,l2,ex,h2',hp2⟩;dsimp only[IC];rw[hlm]at l2 hp2;have lt:a7.length<=256:=by have:=ok.sz;have:=ok.len;lia
   have lp:=Paired.length pY;have ll:=FO a7 i;have lm:=Yo (show i<=256 by lia) lt;refine⟨D,D2,_,_,rfl,rfl,ex _ _ hY,h2',?_,?_⟩
   ·rw[Xf,Xf,sizeLine_eq];lia
   refine⟨⟨_,_,rfl⟩,(eY.trans ex).into hD,ps++ps2,by rw[AE,Xp],?_⟩;rw[Yb,Y0];refine Paired.app (Bt.upd (ex _ _ hY) (Bt.same ex pY)) ?_;rw[ZB,ZF,X6];exact Bt.upd (ex _ _ hY) hp2
 rintro _ hGo σ HX ⟨⟨x2,x3,rfl⟩,eX,ps,hX,hp⟩;refine hGo _ _ ?_;walk_at "";exact q D HX ps eX hD hX hp
theorem Vx:AL ["framed","words"] ["framed","words"] (AI UG):=B6
theorem Vy(T:B5 K mg t)(G_48:Ak P w K mg base 1 t.f_48 ["node","other"] (FM K)):Ak P w K mg base 2 t.f_43 ["framed","words"] (JM K):=by
 refine Aj T.d_43 Vx λvs H Q E h=>?_;obtain⟨r,c,g,lo,a7,m,a,b,rfl,ok,hc,q⟩:=h;refine⟨rfl,λae A outer s hr=>?_⟩;refine⟨_,(AF (AO (AS hr G_48 T.m_48 (AA (AH A7 (AK (Bm K) (pv 1) AC (λ_ _=>rfl)) (AK (Bm K) (pv 0) AC (λ_ _=>rfl))) (AA (AH A7 (AK (Bm K) (pv 1) AC (λ_ _=>rfl)) (AK (Bm K) (pv 0) AC (λ_ _=>rfl))) AD))))),?_⟩;refine BV.el ok.v λtb h1 h2=>?_;have g2:=ok.g2;have g9:=ok.g9;walk_at "";refine⟨c,_,0,_,rfl,rfl,hc,rfl,CQ (Aa.of h1) rfl ?_⟩;refine⟨_,rfl,_,rfl,by lia,by lia,?_⟩;refine⟨c,_,1,_,rfl,rfl,hc,rfl,CQ (Aa.of h1) rfl ?_⟩;refine⟨_,rfl,_,rfl,by lia,by lia,?_⟩;have ea:((a:Nat):Int)/g=((a/g.toNat:Nat):Int):=by rw[Yq,YN (by lia)]
 have eb:((b:Nat):Int)/g=((b/g.toNat:Nat):Int):=by rw[Yq,YN (by lia)]
 exact⟨_,_,by rw[<-ea,<-eb],q⟩
theorem Vz:AL ["framed","words"] ["framed","words"] (AI UH):=B6
theorem V0(T:B5 K mg t)(G_48:Ak P w K mg base 1 t.f_48 ["node","other"] (FM K))(G_59:Ak P w K mg base 1 t.f_59 ["one"] (FE)):Ak P w K mg base 2 t.f_54 ["framed","words"] (PB K):=by
 refine Aj T.d_54 Vz λvs H Q E h=>?_;obtain⟨r,c,g,lo,a7,m,a,b,rfl,ok,hc,q⟩:=h;refine⟨rfl,λae A outer s hr=>?_⟩;refine⟨_,(AF (AO (AS hr G_48 T.m_48 (AA (AH Ad (AK (Bm K) (pv 1) AC (λ_ _=>rfl)) (AS hr G_59 T.m_59 (AA (pv 0) AD))) (AA (AH Ad (AK (Bm K) (pv 1) AC (λ_ _=>rfl)) (AS hr G_59 T.m_59 (AA (pv 0) AD))) AD))))),?_⟩;have hd:=Bz ok.g2 ok.len ok.m1;have gp:=RW.Ao ok.g2 (m-1);have ea:((a:Nat):Int)%((a7.length/g.toNat:Nat):Int)=((a%(a7.length/g.toNat):Nat):Int):=(YO ..).symm;have eb:((b:Nat):Int)%((a7.length/g.toNat:Nat):Int)=((b%(a7.length/g.toNat):Nat):Int):=(YO ..).symm;have hp:(0:Int)<((a7.length/g.toNat:Nat):Int):=by lia
 walk_at "";refine⟨c,_,0,_,rfl,rfl,hc,rfl,r,g,lo,a7,m,rfl,ok,?_⟩;refine⟨_,rfl,_,rfl,hp,?_⟩;refine⟨c,_,1,_,rfl,rfl,hc,rfl,r,g,lo,a7,m,rfl,ok,?_⟩;refine⟨_,rfl,_,rfl,hp,?_⟩;exact⟨_,_,by rw[<-ea,<-eb],q⟩
theorem My:AL ["framed","nexts","pair","words"] ["framed"] (AI UI):=B6
theorem V1(T:B5 K mg t)(G_36:Ak P w K mg base 2 t.f_36 ["framed"] (JN K))(G_26:Ak P w K mg base 1 t.f_26 ["framed"] (LX K))(G_54:Ak P w K mg base 2 t.f_54 ["framed","words"] (PB K))(G_43:Ak P w K mg base 2 t.f_43 ["framed","words"] (JM K)):Ak P w K mg base 3 t.f_23 ["framed"] (JP P w K):=by
 refine Aj T.d_23 My λvs H Q E h=>?_;obtain⟨r,g,lo,a7,m,rfl,ok,sm,q⟩:=h;refine⟨rfl,λae A outer s hr=>?_⟩
 refine⟨_,(AB (FZ (i:=1) My.nd rfl (Or.inl rfl) (FK (P:=P) (w:=w) (K:=K) rfl rfl rfl))
  (AB (Ay PassesOwn.never rfl (P3 K (AS hr G_36 T.m_36 (AA (pv 0) AD))) (A5 2 My) (AF (D8 (P:=P) (w:=w) (K:=K) rfl rfl rfl (Bw hr) (pv 1) (pv 2) (Aw AD) rfl)))
  (AB (Ay PassesOwn.never rfl (P3 K (AS hr G_26 T.m_26 (AA (pv 0) AD))) (A5 3 My) (AF (A6 (P4 K (CO (P:=P) (w:=w) (K:=K) rfl rfl rfl (Bw hr) (pv 1) (AS hr G_43 T.m_43 (AA (pv 0) (AA (pv 3) AD))) (λ_ _=>rfl)) (AA (AS hr G_54 T.m_54 (AA (pv 0) (AA (pv 3) AD))) AD)))))
  (AF (AO (pv 1)))))),?_⟩
 obtain⟨h,hh⟩:∃h:Nat,h=a7.length/g.toNat:=⟨_,rfl⟩;rw[<-hh]at q;have hd9:=Bz ok.g2 ok.len ok.m1;have h9:h<=9:=by rw[<-hh]at hd9;lia
 refine Ap λN hN=>?_;walk_at "";intro d u hd dw;refine hN _ _ ?_;clear hN N;have e0:=AG.new hd u;generalize AT H d u=H0 at dw e0⊢;refine CF (λσ HX=>(∃x2 x3,σ=[some (.ref r),some (.ref d),x2,x3])/\AG H HX/\∃ls:List qR,(∀l∈ls,H l=none)/\DW P w K HX d (Ae (Ax h) (ls.map V.ref))/\DV K HX ls (Ax h) λ_=>[]) (λN hN=>?_) ?_
 ·refine⟨_,rfl,r,g,lo,a7,m,rfl,ok.same e0,sm,λD H1 ps e1 hD1 hD hp=>?_⟩;rw[<-hh]at hp;have pn:=Paired.length hp;have nd:=Cr h;have lA:(Ax h).length<=100:=by have a:=FN h h;have b:=Yo h9 h9;unfold Ax;rw[YT];lia
  refine⟨D,rfl,⟨_,Af.of hD⟩,?_⟩;refine Bq (xs:=ps.map V.ref) (λi σ HX=>(∃x2 x3,σ=[some (.ref r),some (.ref d),x2,x3])/\AG H HX/\HX D=some (.lst (ps.map V.ref))/\Bt K HX ps (Ax h)/\∃ls:List qR,(∀l∈ls,H l=none)/\DW P w K HX d (Ae ((Ax h).take i) (ls.map V.ref))/\DV K HX ls ((Ax h).take i) λ_=>[]) ⟨⟨none,none,rfl⟩,e0.trans e1,hD,hp,[],(λl hl=>qG hl List.not_mem_nil),dw.same e1,⟨rfl,List.nodup_nil,λi a l z=>by simp at z⟩⟩ (λi σ HX _ z=>Af.of z.2.2.1) ?_ ?_
  ·refine Kh ?_;rintro _ _ i x _ hGo σ HX hx ⟨⟨x2,x3,rfl⟩,eX,hDX,pX,ls,ln,dX,gX⟩;refine hGo _ _ ?_;obtain⟨p,hpi,rfl⟩:∃p,ps[i]?=some p/\x=V.ref p:=by rw[Xl]at hx;obtain⟨p,h1,h2⟩:=Xz.mp hx;exact⟨p,h1,h2.symm⟩
   obtain⟨a,ha,sa⟩:=A3 pX hpi;have hi:i<(Ax h).length:=(Xg.mp ha).1
   have lr:(Ae ((Ax h).take i) (ls.map V.ref)).length<=100:=by rw[BK (by rw[Xf];exact gX.n),YL];lia
   refine⟨by decide,λl hl=>?_⟩;have f1:=AG.new hl (.lst []);have dY:=dX.same f1;have gY:=gX.same f1;have hY:=f1 _ _ hDX;have pY:=Bt.same f1 pX;have sY:=Aa.same' f1 sa;have lY:AT HX l (.lst []) l=some (.lst []):=AE;have nl:=gX.out hl;have eY:=eX.trans f1;have hn:=eX.free hl;generalize AT HX l (.lst [])=HY at f1 dY gY hY pY sY lY eY⊢;refine⟨_,rfl,_,rfl,d,p,_,A8 a,rfl,rfl,dY,sY,Ab (by lia),λu' dw'=>⟨⟨_,_,rfl⟩,eY.into hd,dY.lst hY u',dY.prv pY u',ls++[l],λk hk=>?_,?_,?_⟩⟩
   ·rcases Xr.mp hk with z|z
    ·exact ln k z
    ·rw[Xu.mp z];exact hn
   ·rw[Xp,YM,ha];rw[D9 (by rw[Xf];exact gX.n) (Cg nd ha)]at dw';exact dw'
   ·rw[YM,ha];exact (dY.grl gY u').snoc nl (dY.lst lY u') rfl
  ·rintro σ HX ⟨⟨x2,x3,rfl⟩,eX,hDX,pX,ls,ln,dX,gX⟩;rw[Xf,pn,YK]at dX gX;exact hN _ _ ⟨⟨_,_,rfl⟩,eX,ls,ln,dX,gX⟩
 rintro _ hGo σ HX ⟨⟨x2,x3,rfl⟩,eX,ls,ln,dX,gX⟩;refine hGo _ _ ?_;refine CF (λσ HX=>(∃x2 x3,σ=[some (.ref r),some (.ref d),x2,x3])/\AG H HX/\DW P w K HX d (Ae (Ax h) (ls.map V.ref))/\DV K HX ls (Ax h) (GJ g.toNat h (EY a7))) (λN hN=>?_) ?_
 ·refine⟨_,rfl,r,g,lo,a7,m,rfl,ok.same eX,sm,λD H1 ps e1 hD1 hD hp=>?_⟩;have pn:=Paired.length hp;have nD:=gX.out hD1;have nd:=Cr h;refine⟨D,rfl,⟨_,Af.of hD⟩,?_⟩;refine Bq (xs:=ps.map V.ref) (λi σ HX=>(∃x2 x3,σ=[some (.ref r),some (.ref d),x2,x3])/\AG H HX/\HX D=some (.lst (ps.map V.ref))/\Bt K HX ps (EY a7)/\DW P w K HX d (Ae (Ax h) (ls.map V.ref))/\DV K HX ls (Ax h) (GJ g.toNat h ((EY a7).take i))) ⟨⟨_,_,rfl⟩,eX.trans e1,hD,hp,dX.same e1,gX.same e1⟩ (λi σ HX _ z=>Af.of z.2.2.1) ?_ ?_
  ·clear dX gX eX hD hp e1;rintro i x σ HX hx ⟨⟨x2,x3,rfl⟩,eX,hDX,pX,dX,gX⟩;obtain⟨c,hci,rfl⟩:∃c,ps[i]?=some c/\x=V.ref c:=by rw[Xl]at hx;obtain⟨c,h1,h2⟩:=Xz.mp hx;exact⟨c,h1,h2.symm⟩
   obtain⟨⟨a,b⟩,hab,sc⟩:=A3 pX hci;have mw:=HM.mp (Xq hab);have hd9':=hd9;rw[<-hh]at hd9';obtain⟨j,hj⟩:=YC.mp (JO (h:=h) (a:=a/g.toNat) (b:=b/g.toNat) (Yc (by rw[ZP];lia)) (Yc (by rw[ZP];lia)));obtain⟨l,hl⟩:∃l,ls[j]?=some l:=⟨ls[j]'(by rw[gX.n];exact (Xg.mp hj).1),Xj _⟩;have ml:=Xq hl;have okX:=ok.same eX;refine⟨_,rfl,_,rfl,_,rfl,r,c,g,lo,a7,m,a,b,rfl,okX,sc,λp H2 e2 sp=>?_⟩;obtain⟨u,dr⟩:=(dX.same e2).r;obtain⟨qs,hq,hqp⟩:=(gX.same e2).e j _ l hj hl;refine⟨d,p,u,_,A8 _,.ref l,rfl,rfl,dr,sp,Bn nd hj (by rw[Xl,hl];rfl),.inl ⟨rfl,_,Af.of hq⟩,?_⟩;refine⟨_,rfl,_,rfl,r,c,g,lo,a7,m,a,b,rfl,okX.same e2,Aa.same' e2 sc,λp3 H3 e3 sp3=>?_⟩;rw[<-hh]at sp3;have hq3:=e3 _ _ hq;have e23:=e2.trans e3;refine⟨l,_,_,rfl,rfl,hq3,?_,?_⟩
   ·have l1:=Paired.length hqp;have l2:=Mb g.toNat h ((EY a7).take i) (C9 (a/g.toNat,b/g.toNat));have l3:=FO a7 a7.length;have lt:a7.length<=256:=by have:=ok.sz;have:=ok.len;lia
    have l4:=Yo lt lt;have l5:((EY a7).take i).length<=(EY a7).length:=by rw[YL];exact Nat.min_le_right ..
    have l6:(EY a7).length<=a7.length*a7.length:=l3;rw[Xf,sizeLine_eq];lia
   rw[show qs.map V.ref++[V.ref p3]=(qs++[p3]).map V.ref by rw[Xp];rfl];refine⟨⟨_,_,rfl⟩,(eX.trans e23).into (ln l ml),by rw[AJ λz=>nD (by rw[z];exact ml)];exact e23 _ _ hDX,Bt.upd hq3 (Bt.same e23 pX),(dX.same e23).updL hq3 _,(gX.same e23).push nd hj hl hq3 (Bt.same e3 hqp) sp3 λz=>PH hab z⟩
  ·rintro σ HX ⟨⟨x2,x3,rfl⟩,eX,hDX,pX,dX,gX⟩;rw[Xf,pn,YK]at gX;exact hN _ _ ⟨⟨_,_,rfl⟩,eX,dX,gX⟩
 rintro _ hGo σ HX ⟨⟨x2,x3,rfl⟩,eX,dX,gX⟩;refine hGo _ _ ?_;walk_at "";exact q d HX ls eX hd ln dX gX
theorem V2:AL ["framed"] ["framed"] (AI UJ):=B6
theorem V3(T:B5 K mg t)(G_21:Ak P w K mg base 1 t.f_21 ["ahead"] (LY P w K))(G_11:Ak P w K mg base 1 t.f_11 ["nexts"] (JQ P w K))(G_23:Ak P w K mg base 3 t.f_23 ["framed"] (JP P w K)):Ak P w K mg base 4 t.f_24 ["framed"] (HU P w K):=by
 refine Aj T.d_24 V2 λvs H Q E h=>?_;obtain⟨r,g,lo,a7,m,rfl,ok,sm,q⟩:=h;refine⟨rfl,λae A outer s hr=>?_⟩;refine⟨_,(AF (AO (AS hr G_21 T.m_21 (AA (AS hr G_11 T.m_11 (AA (AS hr G_23 T.m_23 (AA (pv 0) AD)) AD)) AD)))),?_⟩;have g2:=ok.g2;have hl:=Ic g2 ok.len ok.m1;obtain⟨h,hh⟩:∃h:Nat,h=a7.length/g.toNat:=⟨_,rfl⟩;have hd9:=Bz ok.g2 ok.len ok.m1;rw[<-hh]at q hl hd9;have h9:h<=9:=by lia
 have hp:=RW.Ao ok.g2 (m-1);have h0:0<h:=by lia
 have wl:(EY a7).length<=70000:=by
  have l3:(EY a7).length<=a7.length*a7.length:=FO a7 a7.length;have lt:a7.length<=256:=by have:=ok.sz;have:=ok.len;lia
  have l4:=Yo lt lt;lia
 walk_at "";refine⟨r,g,lo,a7,m,rfl,ok,sm,λd1 H1 ls e1 hd1 ln dw gr=>?_⟩;rw[<-hh]at dw gr;obtain⟨u1,dr⟩:=dw.r;refine⟨d1,u1,ls,Ax h,GJ g.toNat h (EY a7),rfl,dr,gr,Cr h,λa _ p hp=>(FT h0 ((Mj hl).mp hp)).2,EC h9,λa _=>YG (Mb ..) wl,λu' H2 d2 ls2 A2 B e2 dr2 hd2 ln2 dw2 gr2 tp=>?_⟩;obtain⟨u2,drr⟩:=dw2.r;have eH2:=(e1.into hd1 (o:=u')).trans e2;have l2:A2.length<=100:=YG (tp.nd.length_le_of_subset λp hp=>(tp.all p).mp hp) (EC h9)
 have hB:∀p q,q∈B p↔LW g.toNat h a7 q p:=λp q=>by rw[tp.on,Mj hl];exact⟨λz=>z.2,λz=>⟨(FT h0 z).1,z⟩⟩
 refine⟨d2,u2,ls2,A2,B,rfl,drr,gr2,tp.nd,λa _ p hp=>(tp.all p).mpr (FT h0 ((hB a p).mp hp)).1,l2,λa _=>tp.len a,λu3 H3 d3 M f e3 dr3 hd3 dw3 mp=>?_⟩;exact q d3 H3 M f ((eH2.into (e1.free hd2)).trans e3) (eH2.free hd3) dw3 (mp.rk h9 tp.all tp.nd (λp _ q=>hB p q) λp q z=>(FT h0 z).1)
theorem QF:AL ["one","framed","found"] ["one"] (AI UK):=B6
theorem V4(T:B5 K mg t)(G_58:Ak P w K mg base 8 t.f_58 ["one"] (JL t.c_46))(G_24:Ak P w K mg base 4 t.f_24 ["framed"] (HU P w K))(G_36:Ak P w K mg base 2 t.f_36 ["framed"] (JN K)):Ak P w K mg base 9 t.f_60 ["one"] (DS K t.c_46):=by
 refine KD T.d_60 QF λvs H Q E h=>?_;obtain⟨r,g,lo,a7,m,lf,tf,mf,rfl,ok,fw,q0,q1,q2⟩:=h;refine⟨rfl,λae A outer s hr=>?_⟩
 refine⟨_,(AB (AW 1 QF (CL G_58 (hr.mono (by decide)) rfl T.m_58 C5 (AA (pv 0) AD)))
  (AB (AW 2 QF (AS hr G_24 T.m_24 (AA (pv 1) AD)))
  (AB (Ah (AM DJ (Ai (LS (P:=P) (w:=w) (K:=K) rfl rfl rfl) rfl T.z_len YR (AA (pv 2) AD)) (Ai (Jj K) rfl T.z_len YR (AA (AS hr G_36 T.m_36 (AA (pv 1) AD)) AD)) (AQ _)) (AF (AO Cj)) AV)
  (AF (AO (BI (AA (CO (P:=P) (w:=w) (K:=K) rfl rfl rfl (Bw hr) (pv 2) (El rfl T.m_EVEN) (λ_ _=>rfl)) (AA (Ai (Ka (K:=K) rfl) rfl T.z_sorted PyProof.Rows.boot_sorted (AA (MV [(2,"found")] [("found",_)] (DO (P:=P) (w:=w) (K:=K) rfl rfl rfl (pv 2)) (λ_ _ _ _=>(Em (AM (Ga (K:=K) rfl hr.units) (pv 0) (El rfl T.m_EVEN) (AQ _)))) (λ_ _ _ _=>(AH (PL (K:=K) rfl) (pv 0) (BI (AA (by exact CO (P:=P) (w:=w) (K:=K) rfl rfl rfl (Bw hr) (pv 1) (pv 0) (λ_ _=>rfl)) AD))))) AD)) AD)))))))),?_⟩
 have g2:=ok.g2;have gp:=RW.Ao g2 (mf-1);refine Ap λN hN=>?_;walk_at "";refine⟨r,g,lo,a7,m,lf,tf,mf,rfl,ok,fw,λsm r1 H1 e1 ok1=>hN _ _ ?_,q0⟩;clear hN N;have hd9:=Bz g2 ok1.len ok1.m1;obtain⟨h,hh⟩:∃h:Nat,h=tf.length/g.toNat:=⟨_,rfl⟩;unfold Fz at q1;rw[<-hh]at q1 q2 hd9;have h9:h<=9:=by lia
 have h0:0<h:=by lia
 have a9:(0,0)∈Ax h:=Cq.mpr (.inl rfl);refine Ap λN hN=>?_;walk_at "";refine⟨r1,g,lf,tf,mf,rfl,ok1,by lia,λd H2 M f e2 hd dw rk=>hN _ _ ?_⟩;clear hN N;rw[<-hh]at rk;have e12:=e1.trans e2;have lM:M.length<=(Ax h).length:=rk.nd.length_le_of_subset λp hp=>rk.sub p hp
 have lA:=EC (show h<=9 by lia);refine CF (λσ HX=>σ=[some (.ref r),some (.ref r1),some (.ref d)]/\AG H2 HX/\∀p∈Ax h,p∈M) (λN hN=>?_) ?_
 ·obtain⟨u,dr⟩:=dw.r;refine⟨_,rfl,d,u,_,rfl,dr,_,rfl,r1,g,lf,tf,mf,rfl,ok1.same e2,by lia,λD H3 ps e3 hD0 hD hps=>?_⟩;have pn:=Paired.length hps;rw[<-hh]at hps pn;refine⟨D,_,rfl,.inl (Af.of hD),_,_,rfl,rfl,_,rfl,?_⟩;dsimp only;rw[Xf,pn,BK (by rw[Xf])]
  by_cases z:M.length<(Ax h).length
  ·rw[qF (qH (by lia))];refine q1 ⟨sm,λrr hr=>?_⟩ H3 (e12.trans e3);have:=rk.all hr;have:=(Cr h).length_le_of_subset λp hp=>this p hp
   lia
  ·rw[qE (λy=>z (by have:=qN y;lia))];exact hN _ _ ⟨rfl,e3,Lg rk.nd rk.sub (by lia)⟩
 rintro _ hGo σ HX ⟨rfl,eX,all⟩;refine hGo _ _ ?_;have l50:M.length<=100:=by lia
 obtain⟨u,dr⟩:=(dw.same eX).r;refine⟨_,rfl,d,t.k_EVEN,u,_,A8 (0,0),.int (f (0,0):Nat),rfl,rfl,dr,GZ T.q_EVEN HX,DQ rk.nd (all _ a9),_,rfl,d,u,_,rfl,dr,λu' dr' D hD=>?_⟩;have eF:=(e12.trans eX).into (e1.free hd) (o:=u');generalize AT HX d u'=HF at dr' eF hD⊢;refine Es (P:=P) (w:=w) (K:=K) (λi ad Hx=>∃ps:List qR,ad=ps.map V.ref/\ps.length<=i/\AG HF Hx/\Hx D=some (.lst ad)/\Paired (λt ns=>Aa K Hx t (ns.map V.int)/\ns.length=3/\∀x∈ns,0<=x/\x<1000) ps (((M.take i).filter λp=>decide (p≠(0,0))).map (Nt f))/\∀t∈ps,∃ys,Hx t=some (.tup ys)) ⟨[],rfl,Xi _,AG.new hD _,AE,.nil,λ_ z=>qG z X7⟩ (λi ad Hx _ z=>by obtain⟨_,_,_,e,_⟩:=z;exact dr'.same e) ?_ ?_
 ·rintro i b k v ad Hx hk sb ⟨ps,rfl,lp,ex,hDx,hp,ht⟩;obtain⟨a,ha,rfl,rfl⟩:=Kb hk;have aM:=Xq ha;have i50:i<=100:=by have:=(Xg.mp ha).1;lia
  have sb':Aa K Hx b (([(a.1:Int),(a.2:Int)]).map V.int):=sb;refine⟨_,rfl,_,_,Eu sb',Eu (ns:=[0,0]) (GZ T.q_EVEN Hx),Db _,Db _,Fm _,_,rfl,?_⟩;show (if (!PyData.eqv _ (.tuple (([(((0,0):qX).1:Int),(((0,0):qX).2:Int)]).map PyData.int)))=true then _ else _);rw[Wx a (0,0)]
  by_cases z0:a=(0,0)
  ·rw[qH z0,qE (by decide)];refine⟨ps,rfl,by lia,ex,hDx,?_,ht⟩;rw[EN ha,qE (by rw[z0];decide),X6];exact hp
  rw[qI z0,qF (by decide)];refine⟨_,rfl,_,rfl,_,rfl,d,b,u',_,A8 a,.int (f a:Nat),rfl,rfl,dr'.same ex,sb,DQ rk.nd aM,(by show 1<=sizeLine;decide),λp3 hp3=>⟨b,p3,([(a.1:Int),(a.2:Int)]).map V.int,[V.int (f a:Nat)],rfl,rfl,Aa.same' (AG.new hp3 _) sb',Aa.of AE,List.cons_ne_nil _ _,by show 2+1<=sizeLine;decide,λz=>qG z (List.cons_ne_nil _ _),λ_ p4 hp4=>?_⟩⟩;have e4:=(AG.new hp3 (.tup [V.int (f a:Nat)])).trans (AG.new hp4 (.tup (([(a.1:Int),(a.2:Int)]).map V.int++[V.int (f a:Nat)])));have s4:Aa K (AT (AT Hx p3 (.tup [V.int (f a:Nat)])) p4 (.tup (([(a.1:Int),(a.2:Int)]).map V.int++[V.int (f a:Nat)]))) p4 ((Nt f a).map V.int):=Aa.of AE;have t4:AT (AT Hx p3 (.tup [V.int (f a:Nat)])) p4 (.tup (([(a.1:Int),(a.2:Int)]).map V.int++[V.int (f a:Nat)])) p4=some (.tup (([(a.1:Int),(a.2:Int)]).map V.int++[V.int (f a:Nat)])):=AE;generalize AT (AT Hx p3 (.tup [V.int (f a:Nat)])) p4 (.tup (([(a.1:Int),(a.2:Int)]).map V.int++[V.int (f a:Nat)]))=HY at e4 s4 t4⊢;have h4:=e4 _ _ hDx;refine⟨h4,by rw[Xf];exact Ab (by lia),ps++[p4],by rw[Xp];rfl,by rw[Xt,YZ];lia,(ex.trans e4).into hD,AE,?_,λy hy=>?_⟩
  case refine_2 =>
   have up:∀{y:qR} {ys:List V},HY y=some (.tup ys)->AT HY D (.lst (ps.map V.ref++[V.ref p4])) y=some (.tup ys):=λz=>by rw[AJ (Bu z h4 λx=>nomatch x)];exact z
   rcases Xr.mp hy with z|z
   ·obtain⟨ys,z⟩:=ht y z;exact⟨ys,up (e4 _ _ z)⟩
   ·rw[Xu.mp z];exact⟨_,up t4⟩
  have aA:a.1<h/\a.2<h:=by
   rcases Cq.mp (rk.sub a aM) with z|z
   ·rw[z];exact⟨h0,h0⟩
   ·exact⟨z.1,z.2.1⟩
  have f100:=rk.few a aM;rw[EN ha,qF (qH z0),Xp];refine Paired.app (Paired.mapP hp λ_ _ ⟨z1,z2,z3⟩=>⟨Aa.updL h4 (Aa.same' e4 z1),z2,z3⟩) (.cons ⟨Aa.updL h4 s4,rfl,λx hx=>?_⟩ .nil);rcases X3.mp hx with rfl|hx
  ·lia
  rcases X3.mp hx with rfl|hx
  ·lia
  rw[Xu.mp hx];lia
 ·rintro ad H4 ⟨ps,rfl,lp,ex,hDx,hp,ht⟩;rw[BK (by rw[Xf])]at lp hp;rw[YK]at hp;refine⟨D,ps,_,3,rfl,Af.of hDx,by decide,by lia,hp,λD2 ts' ws' hD2 pt pw hw so=>⟨(by show 2<=sizeLine;decide),λp5 hp5=>?_⟩⟩;have e4:=eF.trans ex;have e5:=AG.new hD2 (.lst (ts'.map V.ref));have e6:=AG.new hp5 (.tup [.int (f (0,0):Nat),.ref D2]);rw[P0 h9 rk.few rk.nd rk.sub all pw so]at hw;exact q2 sm p5 D2 _ M f ((e4.trans e5).trans e6) (e4.free (e5.free hp5)) (e4.free hD2) ⟨AE,ts',e6 _ _ AE,Paired.mapP hw (λ_ _ z=>(z.same' e5).same' e6),λt tm=>(ht t (pt.mem_iff.mp tm)).imp λ_ z=>e6 _ _ (e5 _ _ z)⟩ rk all
theorem V5:AL ["one"] ["one"] (AI UL):=B6
theorem V6(T:B5 K mg t)(G_60:Ak P w K mg base 9 t.f_60 ["one"] (DS K t.c_46)):Ak P w K mg base 10 t.f_22 ["one"] (FX t.c_46):=by
 refine KD T.d_22 V5 λvs H Q E h=>?_;obtain⟨r,g,lo,a7,m,lf,tf,mf,rfl,ok,fw,q0,q1,q2⟩:=h;refine⟨rfl,λae A outer s hr=>?_⟩;refine⟨_,(AF (AO (Bv Ly (CL G_60 (hr.mono (by decide)) rfl T.m_60 C5 (AA (pv 0) AD)) Cj (AQ _)))),?_⟩;walk_at "";refine⟨r,g,lo,a7,m,lf,tf,mf,rfl,ok,fw,q0,λwn H' e=>?_,λsm p D H' M f e hp hD rv rk all=>?_⟩
 ·exact q1 wn H' e
 ·exact q2 sm H' e
theorem V7:AL ["one","framed","way"] ["one"] (AI UM):=B6
theorem V8(T:B5 K mg t)(G_22:Ak P w K mg base 10 t.f_22 ["one"] (FX t.c_46)):Ak P w K mg base 11 t.f_61 ["one"] (ES t.c_46):=by
 refine KD T.d_61 V7 λvs H Q E h=>?_;obtain⟨r,g,lo,a7,m,lf,tf,mf,rfl,ok,fw,q0,nn,q2⟩:=h;refine⟨rfl,λae A outer s hr=>?_⟩
 refine⟨_,(AB (Ah (Bb (CL G_22 (hr.mono (by decide)) rfl T.m_22 C5 (AA (pv 0) AD))) (AF (AO Cj)) AV)
  (AB Dm
  (AB Dm
  (AF Dm)))),?_⟩
 walk_at "";refine⟨r,g,lo,a7,m,lf,tf,mf,rfl,ok,fw,q0,λwn=>qG wn nn,λsm H' e=>?_⟩;exact⟨true,rfl,by rw[qF rfl];exact q2 sm H' e⟩
theorem V9:AL ["_law_found"] ["_law_found"] (AI UN):=B6
theorem WA(T:B5 K mg t) :Ak P w K mg base 1 t.f_18 ["_law_found"] (EH):=by
 refine Aj T.d_18 V9 λvs H Q E h=>?_;obtain⟨x,rfl,kd,q⟩:=h;refine⟨rfl,λae A outer s hr=>?_⟩;refine⟨_,(AF (AO (Ej (KL K rfl T.z_isinstance (pv 0) (Ef rfl T.z_int PyProof.Rows.boot_int)) (Ei (Io (KL K rfl T.z_isinstance (pv 0) (Ef rfl T.z_bool PyProof.Rows.boot_bool))))))),?_⟩;walk_at "";cases x with
 |int i =>
  refine⟨_,.of (.int i),_,Ru,?_⟩;rw[qF rfl];exact⟨_,.of (.int i),_,Rv,q⟩
 |bl b =>
  refine⟨_,.of (.bl b),_,Rw,?_⟩;rw[qF rfl];exact⟨_,.of (.bl b),_,Rx,q⟩
 |non =>
  refine⟨_,.of .non,_,Ry,?_⟩;rw[qE (by decide)];exact q
 |str y =>
  refine⟨_,.of (.str y),_,Rz,?_⟩;rw[qE (by decide)];exact q
 |ref a =>
  obtain⟨xs,z|z⟩:=kd
  ·refine⟨_,.of (.lst z),_,R0,?_⟩;rw[qE (by decide)];exact q
  ·refine⟨_,.of (.tup z),_,SB,?_⟩;rw[qE (by decide)];exact q
 |byt _=>exact kd.elim
 |flt _=>exact kd.elim
 |ty _=>exact kd.elim
theorem XE:AL ["_law_script","_law_k"] ["_law_script","_law_k"] (AI W1):=B6
theorem XF(T:B5 K mg t) :Ak P w K mg base 1 t.f_3 ["_law_script","_law_k"] (K3 K):=by
 refine Aj T.d_3 XE λvs H Q E h=>?_;obtain⟨a,ns,k,rfl,hS,h63,q⟩:=h;refine⟨rfl,λae A outer s hr=>?_⟩
 refine⟨_,(AB (Ah (AM DJ (pv 1) (Ai (Jj K) rfl T.z_len YR (AA (pv 0) AD)) (AQ _)) (AF (AO (AK (Cc K) (pv 0) (pv 1) (λ_ _=>rfl)))) AV)
  (AF (AO AC))),?_⟩
 walk_at "";refine⟨_,.inl hS,?_⟩;rw[Xf]
 by_cases h:(k:Int)<(ns.length:Int)
 ·rw[qF h];have hk:k<ns.length:=by lia
  refine⟨a,_,k,.int (ns.getD k 0),rfl,rfl,hS,GO ?_,q⟩;rw[Xl,Xj hk,Xk,Xj hk];rfl
 ·rw[qE h];have e:ns.getD k 0=0:=by rw[Xk,ZY (by lia)];rfl
  rw[e]at q;exact q
theorem QG:AL ["_law_cell","_law_many","_law_found","_law_number","_law_k"] ["_law_cell","_law_many"] (AI W2):=B6
theorem XG(T:B5 K mg t) :Ak P w K mg base 1 t.f_8 ["_law_cell","_law_many"] (Jd):=by
 refine Aj T.d_8 QG λvs H Q E h=>?_;obtain⟨c,m,rfl,m0,m3,q⟩:=h;refine⟨rfl,λae A outer s hr=>?_⟩
 refine⟨_,(AB (AW 2 QG (Aw AD))
  (AB (AW 3 QG (AH Ac (AH Ad (pv 0) AC) AC))
  (AB (Ay PassesOwn.never rfl (Ar rfl T.z_range (AA (pv 1) AD)) (A5 4 QG) (AB (AW 3 QG (AH Ad (AH Ac (AH Ac (AH BB (pv 3) AC) (AH BB (pv 4) (pv 4))) AC) AC))
  (AF (A6 (P4 K (pv 2) (AA (AH A7 (pv 3) AC) AD))))))
  (AF (AO (pv 2)))))),?_⟩
 walk_at "";refine⟨X4 _,λp hp=>⟨by decide,?_⟩⟩;refine⟨_,rfl,m,rfl,by lia,by lia,?_⟩;refine BP (n:=m.toNat) (λi σ H1=>∃(x4:Option V),σ=[some (.int c),some (.int m),some (.ref p),some (.int (Nr c i)),x4]/\H1=AT H p (.lst ((IG c i).map V.int))) ⟨none,rfl,rfl⟩ ?_ ?_
 ·refine Dn ?_;rintro _ _ i _ hGo σ H1 hi ⟨x4,rfl,rfl⟩;refine hGo _ _ ?_;walk_at "";refine⟨.inr ⟨by decide,by decide⟩,.inl ⟨by lia,by lia⟩,by decide,.inl ⟨_,Af.of AE⟩,by decide,by decide,_,AE,?_,?_,?_⟩
  ·rw[Xf,Hl];exact Ab (by lia)
  ·rw[YJ];rfl
  ·rw[GL,YJ];unfold IG;rw[Bc,Xp];rfl
 ·rintro σ H1 ⟨x4,rfl,rfl⟩;walk_at "";exact q p _ (AG.new hp _) hp AE
theorem Mz:AL ["_law_signs","_law_many","_law_size","_law_k"] ["_law_signs","_law_many"] (AI UO):=B6
theorem WB(T:B5 K mg t) :Ak P w K mg base 1 t.f_14 ["_law_signs","_law_many"] (Ce):=by
 refine Aj T.d_14 Mz λvs H Q E h=>?_;obtain⟨g,m,rfl,g2,g9,m0,m3,q⟩:=h;refine⟨rfl,λae A outer s hr=>?_⟩
 refine⟨_,(AB (AW 2 Mz AC)
  (AB (Ay PassesOwn.never rfl (Ar rfl T.z_range (AA (pv 1) AD)) (A5 3 Mz) (AF (AW 2 Mz (AH BB (pv 2) (pv 0)))))
  (AF (AO (pv 2))))),?_⟩
 walk_at "";refine⟨_,rfl,m,rfl,by lia,by lia,?_⟩;refine BP (n:=m.toNat) (λi σ H1=>∃x,σ=[some (.int g),some (.int m),some (.int (g^i)),x]/\H1=H) ⟨none,by rw[Ya],rfl⟩ ?_ ?_
 ·refine Dn ?_;rintro _ _ i _ hGo σ H1 hi ⟨x,rfl,rfl⟩;refine hGo _ _ ?_;walk_at "";refine⟨.inr ⟨by lia,by lia⟩,?_⟩;rw[YH];exact⟨rfl,_,rfl⟩
 ·rintro σ H1 ⟨x,rfl,rfl⟩;walk_at "";exact q
theorem Kq:AL ["_law_number","_law_signs","_law_many","_law_word_here","_law_k"] ["_law_number","_law_signs","_law_many"] (AI UP):=B6
theorem WC(T:B5 K mg t) :Ak P w K mg base 1 t.f_35 ["_law_number","_law_signs","_law_many"] (EK):=by
 refine Aj T.d_35 Kq λvs H Q E h=>?_;obtain⟨n,g,m,rfl,g2,g9,m0,m3,q⟩:=h;refine⟨rfl,λae A outer s hr=>?_⟩
 refine⟨_,(AB (AW 3 Kq (Aw AD))
  (AB (Ay PassesOwn.never rfl (Ar rfl T.z_range (AA (pv 2) AD)) (A5 4 Kq) (AB (AW 3 Kq (AH Ky (Aw (AA (AH Ad (pv 0) (pv 1)) AD)) (pv 3)))
  (AF (AW 0 Kq (AH A7 (pv 0) (pv 1))))))
  (AF (AO (pv 3))))),?_⟩
 walk_at "";refine⟨X4 _,λp hp=>?_⟩;refine⟨_,rfl,m,rfl,by lia,by lia,?_⟩;refine BP (n:=m.toNat) (λi σ H1=>∃p' x4,σ=[some (.int (dr g n i)),some (.int g),some (.int m),some (.ref p'),x4]/\Qw H H1 p' (BD g n i)) ⟨p,none,rfl,AG.new hp _,hp,AE⟩ ?_ ?_
 ·refine Dn ?_;rintro _ _ i _ hGo σ H1 hi ⟨p',x4,rfl,hN⟩;refine hGo _ _ ?_;walk_at "";refine⟨by lia,by decide,λp2 hp2=>?_⟩;have e2:=AG.new hp2 (.lst [V.int (dr g n i%g)]);refine JE AE (e2 _ _ hN.2.2) ?_ λp3 H3 e3 f3 h3=>?_
  ·rw[Xf,CB];simp only[List.length_cons,List.length_nil];lia
  refine⟨by lia,by lia,rfl,p3,rfl,(hN.1.trans e2).trans e3,(hN.1.trans e2).free f3,?_⟩;rw[h3];unfold BD;rw[Cy,List.reverse_append];rfl
 ·rintro σ H1 ⟨p',x4,rfl,hN⟩;walk_at "";exact q p' H1 hN
theorem Ue:AL ["_law_signs","_law_xs","_law_here","_law_there","_law_share"] ["_law_signs","_law_xs","_law_here","_law_there"] (AI W3):=B6
theorem XH(T:B5 K mg t) :Ak P w K mg base 1 t.f_9 ["_law_signs","_law_xs","_law_here","_law_there"] (DE 1):=by
 refine Aj T.d_9 Ue λvs H Q E h=>?_;obtain⟨G,p,l,h,t,rfl,kg,xs,hh,ht,q⟩:=h;refine⟨rfl,λae A outer s hr=>?_⟩
 refine⟨_,(AB (AW 4 Ue (AK (Cc K) (Aw (AN (AN AD))) (Bs En rfl T.z_int Z2 (AA (Uu (Bv BL (pv 0) AC (AQ _)) (Ei (Ej (Bv BL (pv 0) AC (AQ _)) (Ei (Bv BL (AH Ad (AK (Cc K) (pv 1) AC (λ_ _=>rfl)) AC) AC (AQ _)))))) AD)) (λ_ _=>rfl)))
  (AB (Ah (PW.pt (FY (AM BL (pv 0) AC (AQ _)) (EF (AM BL (AH Ad (AK (Cc K) (pv 1) AC (λ_ _=>rfl)) AC) AC (AQ _))))) (AF (AW 4 Ue AC)) AV)
  (AF (AO (AH Ac (AH BB (AH A7 (pv 2) (pv 4)) (pv 4)) (AH Ad (pv 3) (pv 4))))))),?_⟩
 have e10:=xs.at (i:=10) (by decide);have hG:G=4\/G=6\/G=8\/G=9:=by unfold KG at kg;lia
 clear kg;have hp:Ds 1 G l=if G=9\/(G=6/\xn l 10%2=1) then 3 else if G=8/\xn l 10%2=1 then 4 else 2:=rfl;have hf:∀s,EZ 1 G s h t=h/s*s+t%s:=λs=>rfl
 rw[qE (by decide),hf,hp]at q;clear hf hp;obtain⟨x,hx⟩:∃x,x=xn l 10:=⟨_,rfl⟩;rw[<-hx]at q e10;refine CF (λσ HX=>∃s:Nat,σ=[some (.int (G:Int)),some (.ref p),some (.int (h:Int)),some (.int (t:Int)),some (.int (s:Int))]/\AG H HX/\s=if G=9\/(G=6/\x%2=1) then 3 else 2) (λN hN=>?_) ?_
 ·walk_at "";refine⟨by decide,λa ha=>?_⟩;have e1:=AG.new ha (.lst [V.int 2,V.int 3]);have h1:AT H a (.lst [V.int 2,V.int 3]) a=some (.lst [V.int 2,V.int 3]):=AE;generalize AT H a (.lst [V.int 2,V.int 3])=H1 at e1 h1⊢
  by_cases c:G=9
  ·rw[qF (by lia)];exact⟨_,.inr rfl,C0 (Af.of h1) rfl (hN _ _ ⟨3,rfl,e1,(qF (.inl c)).symm⟩)⟩
  rw[qE (by lia)]
  by_cases c6:G=6
  ·rw[qF (by lia)];refine (C0 (Af.of (e1 _ _ xs.1)) e10 ⟨_,rfl,by decide,_,.inr rfl,?_⟩)
   by_cases o:x%2=1
   ·rw[qF (by lia)];exact (C0 (Af.of h1) rfl (hN _ _ ⟨3,rfl,e1,(qF (.inr ⟨c6,o⟩)).symm⟩))
   ·rw[qE (by lia)];exact (C0 (Af.of h1) rfl (hN _ _ ⟨2,rfl,e1,(qE (by lia)).symm⟩))
  ·rw[qE (by lia)];exact⟨_,.inr rfl,C0 (Af.of h1) rfl (hN _ _ ⟨2,rfl,e1,(qE (by lia)).symm⟩)⟩
 rintro _ hGo σ HX ⟨s,rfl,eX,hs⟩;refine hGo _ _ ?_;refine CF (λσ HY=>∃s:Nat,σ=[some (.int (G:Int)),some (.ref p),some (.int (h:Int)),some (.int (t:Int)),some (.int (s:Int))]/\AG H HY/\s=if G=9\/(G=6/\x%2=1) then 3 else if G=8/\x%2=1 then 4 else 2) (λN hN=>?_) ?_
 ·walk_at ""
  by_cases c:G=8
  ·rw[qF (by lia)];refine (C0 (Af.of (eX _ _ xs.1)) e10 ⟨_,rfl,by decide,?_⟩)
   by_cases o:x%2=1
   ·rw[qF (by lia)];exact hN _ _ ⟨4,rfl,eX,by rw[qE (by lia),qF ⟨c,o⟩]⟩
   ·rw[qE (by lia)];exact hN _ _ ⟨s,rfl,eX,by rw[hs,qE (by lia),qE (by lia),qE (by lia)]⟩
  ·rw[qE (by lia)];refine hN _ _ ⟨s,rfl,eX,?_⟩;rw[hs];split
   ·rfl
   ·rw[qE (by lia)]
 rintro _ hGo σ HY ⟨s,rfl,eY,hs⟩;refine hGo _ _ ?_;rw[<-hs]at q;have s4:s=2\/s=3\/s=4:=by rw[hs];split;exact .inr (.inl rfl);split;exact .inr (.inr rfl);exact .inl rfl
 walk_at "";refine⟨by lia,by lia,.inr ⟨by lia,by lia⟩,by lia,?_⟩;rw[show (h:Int)/(s:Int)*(s:Int)+(t:Int)%(s:Int)=((h/s*s+t%s:Nat):Int) by rw[aD,ZM,Yq,YO]];exact q _ eY
theorem WD:AL ["_law_signs","_law_xs","_law_here","_law_there"] ["_law_signs","_law_xs","_law_here","_law_there"] (AI UQ):=B6
theorem WE(T:B5 K mg t) :Ak P w K mg base 1 t.f_13 ["_law_signs","_law_xs","_law_here","_law_there"] (DE 2):=by
 refine Aj T.d_13 WD λvs H Q E h=>?_;obtain⟨G,p,l,h,t,rfl,kg,xs,hh,ht,q⟩:=h;refine⟨rfl,λae A outer s hr=>?_⟩
 refine⟨_,(AB (Ah (PW.pt (CI (AM BL (pv 2) (AH Am (pv 0) AC) (AQ _)) (Cm (AM Ed (pv 3) (AH Am (pv 0) AC) (AQ _))))) (AF (AO (pv 2))) AV)
  (AF (AO (AH Ad (AH Ac (AH Ac (pv 2) AC) (AH Ad (AK (Cc K) (pv 1) AC (λ_ _=>rfl)) (AH Am (pv 0) AC))) (AH Am (pv 0) AC))))),?_⟩
 have e10:=xs.at (i:=10) (by decide);have hG:3<=G/\G<=7:=by unfold KG at kg;lia
 have hf:EZ 2 G (Ds 2 G l) h t=if h=G-1\/t≠G-1 then h else (h+(1+xn l 10%(G-2)))%(G-1):=rfl;rw[qE (by decide),hf]at q;clear hf kg;have q:=q H (AG.refl _);walk_at ""
 by_cases c:h=G-1
 ·rw[qF (by lia)];rw[qF (.inl c)]at q;exact q
 rw[qE (by lia)]
 by_cases c2:t=G-1
 ·rw[qE (by lia)];rw[qE (by lia)]at q;refine (C0 (Af.of xs.1) e10 ⟨_,rfl,by lia,by lia,?_⟩);rw[show ((h:Int)+1+((xn l 10:Nat):Int)%((G:Int)-2))%((G:Int)-1)=(((h+(1+xn l 10%(G-2)))%(G-1):Nat):Int) by rw[YO,aD,aD,YO,aG (by lia),aG (by lia),Int.add_assoc];rfl];exact q
 ·rw[qF (by lia)];rw[qF (.inr c2)]at q;exact q
theorem QH:AL ["_law_signs","_law_xs","_law_here","_law_there","_law_unit","_law_part"] ["_law_signs","_law_xs","_law_here","_law_there"] (AI UR):=B6
theorem WF(T:B5 K mg t) :Ak P w K mg base 1 t.f_32 ["_law_signs","_law_xs","_law_here","_law_there"] (DE 4):=by
 refine Aj T.d_32 QH λvs H Q E h=>?_;obtain⟨G,p,l,h,t,rfl,kg,xs,hh,ht,q⟩:=h;refine⟨rfl,λae A outer s hr=>?_⟩
 refine⟨_,(AB (Ah (AM BL (pv 0) AC (AQ _)) (AB (AW 4 QH (AH Ac (AH Ac AC (AH Ad (AK (Cc K) (pv 1) AC (λ_ _=>rfl)) AC)) (AH BB (AH Ad (AK (Cc K) (pv 1) AC (λ_ _=>rfl)) AC) AC)))
  (AF (AO (AH Ad (AH Ac (AH Ac (AH BB (pv 4) (pv 2)) (AH BB (AH BB (AH Ad (AK (Cc K) (pv 1) AC (λ_ _=>rfl)) AC) AC) (pv 3))) (AK (Cc K) (pv 1) AC (λ_ _=>rfl))) AC)))) AV)
  (AB (AW 5 QH (AH BB (AH Ad (AK (Cc K) (pv 1) AC (λ_ _=>rfl)) (AH A7 (pv 0) AC)) AC))
  (AF (AO (AH Ad (AH Ac (AH Ac (AH BB (AH Ac AC (AH BB (AH Ad (AK (Cc K) (pv 1) AC (λ_ _=>rfl)) AC) AC)) (pv 2)) (AH BB (pv 5) (pv 3))) (AK (Cc K) (pv 1) AC (λ_ _=>rfl))) (pv 0)))))),?_⟩
 have e10:=xs.at (i:=10) (by decide);have e11:=xs.at (i:=11) (by decide);have e12:=xs.at (i:=12) (by decide);have e13:=xs.at (i:=13) (by decide);have hG:G=4\/G=8\/G=9:=by unfold KG at kg;lia
 have hf:∀s,EZ 4 G s h t=(s/16*h+s%16*t)%G:=λs=>rfl
 rw[qF rfl,hf,Nat.mod_add_mod]at q;clear hf kg;have q:=q H (AG.refl _);walk_at ""
 by_cases c:G=9
 ·rw[qF (by lia)];refine (C0 (Af.of xs.1) e10 ⟨_,rfl,by decide,C0 (Af.of xs.1) e11 ⟨_,rfl,by decide,.inr ⟨by decide,by decide⟩,.inr ⟨by lia,by lia⟩,C0 (Af.of xs.1) e12 ⟨_,rfl,by decide,.inr ⟨by decide,by decide⟩,.inr ⟨by lia,by lia⟩,C0 (Af.of xs.1) e13 ⟨_,rfl,by decide,?_⟩⟩⟩⟩);have hp:Ds 4 G l=(1+xn l 10%2+xn l 11%3*3)*16+xn l 12%3*3:=by rw[c];rfl
  rw[hp,show ((1+xn l 10%2+xn l 11%3*3)*16+xn l 12%3*3)/16=1+xn l 10%2+xn l 11%3*3 by lia,show ((1+xn l 10%2+xn l 11%3*3)*16+xn l 12%3*3)%16=xn l 12%3*3 by lia,c]at q;simp only[Int.natCast_emod,Int.natCast_add,Int.natCast_mul]at q;exact q
 ·rw[qE (by lia)];have g2:(G:Int)/2=((G/2:Nat):Int):=by lia
  refine (C0 (Af.of xs.1) e12 ⟨by decide,by decide,_,rfl,by lia,.inr ⟨by decide,by decide⟩,C0 (Af.of xs.1) e10 ⟨_,rfl,by decide,.inr ⟨by decide,by decide⟩,.inr ⟨by lia,by lia⟩,.inr ⟨by lia,by lia⟩,C0 (Af.of xs.1) e13 ⟨_,rfl,by lia,?_⟩⟩⟩)
  have hp:Ds 4 G l=(1+xn l 10%4*2)%G*16+xn l 12%(G/2)*2:=by show (if G=9 then _ else (1+xn l 10%4*2)%G*16+xn l 12%(G/2)*2)=_;rw[qE c]
  have pl:xn l 12%(G/2)<4:=Xn (Yn _ (by lia)) (by lia);rw[hp,show ((1+xn l 10%4*2)%G*16+xn l 12%(G/2)*2)/16=(1+xn l 10%4*2)%G by lia,show ((1+xn l 10%4*2)%G*16+xn l 12%(G/2)*2)%16=xn l 12%(G/2)*2 by lia]at q
  have e:((1+xn l 10%4*2)%G*h+xn l 12%(G/2)*2*t+xn l 13)%G=((1+xn l 10%4*2)*h+xn l 12%(G/2)*2*t+xn l 13)%G:=by rw[aB,Nat.add_mod,Nat.mod_mul_mod,<-Nat.add_mod,aB]
  rw[e]at q;simp only[Int.natCast_emod,Int.natCast_add,Int.natCast_mul]at q;rw[g2];exact q
theorem WG:AL ["_law_here","_law_there"] ["_law_here","_law_there"] (AI US):=B6
theorem WH(T:B5 K mg t) :Ak P w K mg base 1 t.f_17 ["_law_here","_law_there"] (F0):=by
 refine Aj T.d_17 WG λvs H Q E h=>?_;obtain⟨h,t,rfl,q⟩:=h;refine⟨rfl,λae A outer s hr=>?_⟩;refine⟨_,(AF (AO (AH Ac (AH Ac (AH BB (AH Ad (AH Ac (AH A7 (pv 0) AC) (AH A7 (pv 1) AC)) AC) AC) (AH BB (AH Ad (AH Ac (AH A7 (pv 0) AC) (pv 1)) AC) AC)) (AH Ad (pv 0) AC)))),?_⟩;walk_at "";refine⟨by decide,by decide,by decide,by decide,by decide,.inr ⟨by decide,by decide⟩,by decide,by decide,by decide,.inr ⟨by decide,by decide⟩,by decide,?_⟩
 rw[show ((h:Int)/4+(t:Int)/2)%2*4+((h:Int)/2+(t:Int))%2*2+(h:Int)%2=((EZ 5 8 0 h t:Nat):Int) by show _=(((h/4+t/2)%2*4+(h/2+t)%2*2+h%2:Nat):Int);lia]
 exact q
theorem XI:AL ["_law_signs","_law_here","_law_there"] ["_law_signs","_law_here","_law_there"] (AI W4):=B6
theorem XJ(T:B5 K mg t) :Ak P w K mg base 1 t.f_0 ["_law_signs","_law_here","_law_there"] (Hm):=by
 refine Aj T.d_0 XI λvs H Q E h=>?_;obtain⟨G,h,t,rfl,g5,g7,hh,ht,q⟩:=h;refine⟨rfl,λae A outer s hr=>?_⟩
 refine⟨_,(AB (Ah (AM DJ (pv 1) AC (AQ _)) (AF (AO (AH Ad (AH Ac (pv 1) (Bs En rfl T.z_int Z2 (AA (Bv BL (pv 2) AC (AQ _)) AD))) AC))) AV)
  (AB (Ah (PW.pt (FY (AM DJ (pv 1) (AH Am (pv 0) AC) (AQ _)) (EF (AM BL (pv 2) (AH Am (pv 0) AC) (AQ _))))) (AF (AO (AH Ac AC (AH Ad (AH Am (pv 1) AC) (AH Am (pv 0) AC))))) AV)
  (AF (AO (pv 1))))),?_⟩
 walk_at "";have e:EZ 6 G 0 h t=if h<2 then (h+if t=3 then 1 else 0)%2 else if h<G-1/\t=G-1 then 2+(h-1)%(G-3) else h:=rfl;rw[e]at q
 by_cases c:h<2
 ·rw[qF (by lia)];rw[qF c]at q;refine⟨_,.inr rfl,by decide,?_⟩;rw[show ((h:Int)+if (t:Int)=3 then 1 else 0)%2=(((h+if t=3 then 1 else 0)%2:Nat):Int) by split<;>split<;>lia];exact q
 rw[qE (by lia)];rw[qE c]at q
 by_cases c2:h<G-1
 ·rw[qF (by lia)]
  by_cases c3:t=G-1
  ·rw[qF (by lia)];rw[qF ⟨c2,c3⟩]at q;refine⟨by lia,?_⟩;have em:((h:Int)-1)%((G:Int)-3)=(((h-1)%(G-3):Nat):Int):=by rw[YO,aG (by lia),aG (by lia)];rfl
   rw[em,show (2:Int)+(((h-1)%(G-3):Nat):Int)=((2+(h-1)%(G-3):Nat):Int) by lia];exact q
  ·rw[qE (by lia)];rw[qE (λz=>c3 z.2)]at q;exact q
 ·rw[qE (by lia)];rw[qE (λz=>c2 z.1)]at q;exact q
theorem M4:AL ["_law_xs","_law_word_here","_law_at","_law_others","_law_due"] ["_law_xs","_law_word_here"] (AI UT):=B6
theorem WI(T:B5 K mg t) :Ak P w K mg base 1 t.f_29 ["_law_xs","_law_word_here"] (Ho):=by
 refine Aj T.d_29 M4 λvs H Q E h=>?_;obtain⟨p,a,l,n,rfl,xs,ha,q⟩:=h;refine⟨rfl,λae A outer s hr=>?_⟩
 refine⟨_,(AB (AW 2 M4 (AH Ac AC (AH Ad (AK (Cc K) (pv 0) AC (λ_ _=>rfl)) AC)))
  (AB (AW 3 M4 (AH Ky (Gk Iw (pv 1) Iq (Ir (pv 2))) (Gk Iw (pv 1) (Ir (AH Ac (pv 2) AC)) Iq)))
  (AB (AW 4 M4 (AK (Cc K) (Aw (AA (Aw (AN (AN (AN AD)))) (AA (Aw (AN (AN (AN AD)))) AD))) (AH Ad (AK (Cc K) (pv 0) AC (λ_ _=>rfl)) AC) (λ_ _=>rfl)))
  (AF (AO (AH Ad (AH Ac (AK (Cc K) (pv 1) (pv 2) (λ_ _=>rfl)) (Bs En rfl T.z_int Z2 (AA (Bv (S0 hr.units) (pv 3) (pv 4) (AQ _)) AD))) AC)))))),?_⟩
 have e10:=xs.at (i:=10) (by decide);have e11:=xs.at (i:=11) (by decide);obtain⟨x,hx⟩:∃x,x=xn l 10:=⟨_,rfl⟩;obtain⟨y,hy⟩:∃y,y=xn l 11:=⟨_,rfl⟩;have hf:Ca 3 2 (Ds 3 2 l) 0 n=Ca 3 2 (x%2+2*(y%2)) 0 n:=by rw[hx,hy];rfl
 rw[hf]at q;rw[<-hx]at e10;rw[<-hy]at e11;clear hf hx hy
 have hw:BD 2 (n:Int) 4=[((n/8%2:Nat):Int),((n/4%2:Nat):Int),((n/2%2:Nat):Int),((n%2:Nat):Int)]:=by show[(n:Int)/2/2/2%2,(n:Int)/2/2%2,(n:Int)/2%2,(n:Int)%2]=_;rw[show (n:Int)/2/2/2%2=((n/8%2:Nat):Int) by lia,show (n:Int)/2/2%2=((n/4%2:Nat):Int) by lia,show (n:Int)/2%2=((n/2%2:Nat):Int) by lia,show (n:Int)%2=((n%2:Nat):Int) by lia]
 rw[hw]at ha;clear hw;refine Ap λN hN=>?_;walk_at "";refine (C0 (Af.of xs.1) e10 ⟨_,rfl,by decide,hN _ _ ?_⟩);clear hN N;rw[show (1:Int)+((x:Nat):Int)%2=((1+x%2:Nat):Int) by lia];obtain⟨ws,hws⟩:∃ws:qW,ws=[((n/8%2:Nat):Int),((n/4%2:Nat):Int),((n/2%2:Nat):Int),((n%2:Nat):Int)]:=⟨_,rfl⟩;rw[<-hws]at ha;have wl:ws.length=4:=by rw[hws];rfl
 refine Ap λN hN=>?_;walk_at "";refine LB (Af.of ha) λp1 H1 e1 _ h1=>?_;refine LB (Af.of (e1 _ _ ha)) λp2 H2 e2 _ h2=>?_;rw[ML,<-List.map_take]at h1;rw[show ((1+x%2:Nat):Int)+1=((2+x%2:Nat):Int) by lia,NP,<-List.map_drop]at h2;refine JE (e2 _ _ h1) h2 (by rw[Xf,Xf,YL,Yp];lia) λp3 H3 e3 _ h3=>hN _ _ ?_
 clear hN N;rw[<-Xp]at h3;have eH:=(e1.trans e2).trans e3;refine Fg (λHX=>AG H HX/\HX p3=some (.lst ((ws.take (1+x%2)++ws.drop (2+x%2)).map V.int))) ⟨eH,h3⟩ ?_;clear eH h3 e3 h2 e2 h1 e1;rintro H4 ⟨e4,h4⟩;refine Ap λN hN=>?_;walk_at "";refine⟨by decide,λd1 hd1=>⟨by decide,λd2 hd2=>⟨by decide,λd3 hd3=>?_⟩⟩⟩;have f1:=AG.new hd1 (.lst [V.int 0,V.int 1,V.int 0]);have f2:=AG.new hd2 (.lst [V.int 1,V.int 0,V.int 1]);have f3:=AG.new hd3 (.lst [V.ref d1,V.ref d2]);have k1:=f3 _ _ (f2 _ _ (show AT H4 d1 (.lst [V.int 0,V.int 1,V.int 0]) d1=some (.lst [V.int 0,V.int 1,V.int 0]) from AE));have k2:=f3 _ _ (show AT (AT H4 d1 (.lst [V.int 0,V.int 1,V.int 0])) d2 (.lst [V.int 1,V.int 0,V.int 1]) d2=some (.lst [V.int 1,V.int 0,V.int 1]) from AE);have k3:AT (AT (AT H4 d1 (.lst [V.int 0,V.int 1,V.int 0])) d2 (.lst [V.int 1,V.int 0,V.int 1])) d3 (.lst [V.ref d1,V.ref d2]) d3=some (.lst [V.ref d1,V.ref d2]):=AE;have f:=(f1.trans f2).trans f3;generalize AT (AT (AT H4 d1 (.lst [V.int 0,V.int 1,V.int 0])) d2 (.lst [V.int 1,V.int 0,V.int 1])) d3 (.lst [V.ref d1,V.ref d2])=H5 at k1 k2 k3 f⊢;have e5:=e4.trans f;have h5:=f _ _ h4;have ha5:=e5 _ _ ha;clear f f1 f2 f3;refine (C0 (Af.of (e5 _ _ xs.1)) e11 ⟨_,rfl,by decide,?_⟩);have y2:y%2=0\/y%2=1:=by lia
 obtain⟨du,hdu,kdu⟩:∃du,Kt [V.ref d1,V.ref d2] (((y:Nat):Int)%2)=some (.ref du)/\H5 du=some (.lst (([((y%2:Nat):Int),((1-y%2:Nat):Int),((y%2:Nat):Int)]:qW).map V.int)):=by
  rcases y2 with c|c
  ·exact⟨d1,by rw[show ((y:Nat):Int)%2=0 by lia];rfl,by rw[c];exact k1⟩
  ·exact⟨d2,by rw[show ((y:Nat):Int)%2=1 by lia];rfl,by rw[c];exact k2⟩
 refine (C0 (Af.of k3) hdu (hN _ _ ?_));clear hN N hdu k1 k2 k3;walk_at "";have x2:x%2=0\/x%2=1:=by lia
 refine (C0 (Af.of ha5) (D0 (by lia)) ⟨_,Af.of h5,_,Af.of kdu,_,.inr rfl,_,rfl,by decide,?_⟩);have q:=q H5 e5;clear h5 kdu ha5 e5 h4 e4
 have fin:∀(A B C D y:Nat),y=0\/y=1->A<2->B<2->C<2->((D:Int)+if [(A:Int),(B:Int),(C:Int)]=[(y:Int),((1-y:Nat):Int),(y:Int)] then 1 else 0)%2=(((D+if A=y/\B=1-y/\C=y then 1 else 0)%2:Nat):Int):=λA B C D y hy _ _ _=>by
  by_cases c:A=y/\B=1-y/\C=y
  ·rw[qF c,qF (by rw[c.1,c.2.1,c.2.2])];lia
  ·rw[qE c,qE (λz=>c (by
    injection z with z1 z2
    injection z2 with z2 z3
    injection z3 with z3 z4
    exact⟨by lia,by lia,by lia⟩))];lia
 rcases x2 with c|c
 ·rw[c,hws];show Q (.int ((((n/4%2:Nat):Int)+if [((n/8%2:Nat):Int),((n/2%2:Nat):Int),((n%2:Nat):Int)]=[((y%2:Nat):Int),((1-y%2:Nat):Int),((y%2:Nat):Int)] then 1 else 0)%2)) H5;rw[fin _ _ _ _ _ y2 (by lia) (by lia) (by lia)];have e:Ca 3 2 (x%2+2*(y%2)) 0 n=(n/4%2+if n/8%2=y%2/\n/2%2=1-y%2/\n%2=y%2 then 1 else 0)%2:=by unfold Ca;rw[qF rfl,c,qF (by lia),show (0+2*(y%2))/2=y%2 by lia]
  rw[e]at q;exact q
 ·rw[c,hws];show Q (.int ((((n/2%2:Nat):Int)+if [((n/8%2:Nat):Int),((n/4%2:Nat):Int),((n%2:Nat):Int)]=[((y%2:Nat):Int),((1-y%2:Nat):Int),((y%2:Nat):Int)] then 1 else 0)%2)) H5;rw[fin _ _ _ _ _ y2 (by lia) (by lia) (by lia)];have e:Ca 3 2 (x%2+2*(y%2)) 0 n=(n/2%2+if n/8%2=y%2/\n/4%2=1-y%2/\n%2=y%2 then 1 else 0)%2:=by unfold Ca;rw[qF rfl,c,qE (by lia),show (1+2*(y%2))/2=y%2 by lia]
  rw[e]at q;exact q
theorem Kr:AL ["_law_kind","_law_signs","_law_xs","_law_word_here","_law_here","_law_there"] ["_law_kind","_law_signs","_law_xs","_law_word_here"] (AI UU):=B6
theorem WJ(T:B5 K mg t)(G_29:Ak P w K mg base 1 t.f_29 ["_law_xs","_law_word_here"] (Ho))(G_9:Ak P w K mg base 1 t.f_9 ["_law_signs","_law_xs","_law_here","_law_there"] (DE 1))(G_13:Ak P w K mg base 1 t.f_13 ["_law_signs","_law_xs","_law_here","_law_there"] (DE 2))(G_32:Ak P w K mg base 1 t.f_32 ["_law_signs","_law_xs","_law_here","_law_there"] (DE 4))(G_17:Ak P w K mg base 1 t.f_17 ["_law_here","_law_there"] (F0))(G_0:Ak P w K mg base 1 t.f_0 ["_law_signs","_law_here","_law_there"] (Hm)):Ak P w K mg base 2 t.f_33 ["_law_kind","_law_signs","_law_xs","_law_word_here"] (Hq):=by
 refine Aj T.d_33 Kr λvs H Q E h=>?_;obtain⟨k,G,p,a,l,n,rfl,kg,xs,ha,hn,q⟩:=h;refine⟨rfl,λae A outer s hr=>?_⟩
 refine⟨_,(AB (Ah (AM BL (pv 0) AC (AQ _)) (AF (AO (AS hr G_29 T.m_29 (AA (pv 2) (AA (pv 3) AD))))) AV)
  (AB (AW 4 Kr (AK (Cc K) (pv 3) AC (λ_ _=>rfl)))
  (AB (AW 5 Kr (AK (Cc K) (pv 3) (Jm Gi AC) (λ_ _=>rfl)))
  (AB (Ah (AM BL (AH Ad (AK (Cc K) (pv 2) AC (λ_ _=>rfl)) AC) AC (AQ _)) (AB (AW 4 Kr (AK (Cc K) (pv 3) (Jm Gi AC) (λ_ _=>rfl)))
  (AF (AW 5 Kr (AK (Cc K) (pv 3) AC (λ_ _=>rfl))))) AV)
  (AB (Ah (AM BL (pv 0) AC (AQ _)) (AF (AO (AS hr G_9 T.m_9 (AA (pv 1) (AA (pv 2) (AA (pv 4) (AA (pv 5) AD))))))) AV)
  (AB (Ah (AM BL (pv 0) AC (AQ _)) (AF (AO (AS hr G_13 T.m_13 (AA (pv 1) (AA (pv 2) (AA (pv 4) (AA (pv 5) AD))))))) AV)
  (AB (Ah (AM BL (pv 0) AC (AQ _)) (AF (AO (AS hr G_32 T.m_32 (AA (pv 1) (AA (pv 2) (AA (pv 4) (AA (pv 5) AD))))))) AV)
  (AB (Ah (AM BL (pv 0) AC (AQ _)) (AF (AO (AS hr G_17 T.m_17 (AA (pv 4) (AA (pv 5) AD))))) AV)
  (AB (Ah (AM BL (pv 0) AC (AQ _)) (AF (AO (AS hr G_0 T.m_0 (AA (pv 1) (AA (pv 4) (AA (pv 5) AD)))))) AV)
  (AF (AO (pv 4)))))))))))),?_⟩
 have e14:=xs.at (i:=14) (by decide);have G2:2<=G:=by unfold KG at kg;lia
 have wl:=CB (G:Int) (n:Int) (mK k);refine CF (λσ HX=>σ=[some (.int (k:Int)),some (.int (G:Int)),some (.ref p),some (.ref a),none,none]/\HX=H/\k≠3) (λN hN=>?_) ?_
 ·walk_at ""
  by_cases c:k=3
  ·rw[qF (by lia)];have g:G=2:=by unfold KG at kg;lia
   subst c g;exact⟨p,a,l,n,rfl,xs,ha,λH' e=>q H' e⟩
  ·rw[qE (by lia)];exact hN _ _ ⟨rfl,rfl,c⟩
 rintro _ hGo σ HX ⟨rfl,hHX,k3⟩;refine hGo _ _ ?_;rw[hHX];clear hHX HX
 obtain⟨w0,w1,hw0,hw1,b0,b1,hk0,hk⟩:∃w0 w1:Nat,Kt ((BD (G:Int) (n:Int) (mK k)).map V.int) 0=some (.int (w0:Int))/\Kt ((BD (G:Int) (n:Int) (mK k)).map V.int) (-1)=some (.int (w1:Int))/\w0<G/\w1<G/\(k=0->w0=n/\w1=n)/\(k≠0->w0=n/G/\w1=n%G):=by
  by_cases c:k=0
  ·subst c;have z:n<G:=by have:=hn;rw[show mK 0=1 from rfl,Nat.pow_one]at this;exact this
   refine⟨n,n,?_,?_,z,z,λ_=>⟨rfl,rfl⟩,λz=>qG rfl z⟩
   ·show some (V.int ((n:Int)%(G:Int)))=_;rw[Ym (by lia) (by lia)]
   ·show some (V.int ((n:Int)%(G:Int)))=_;rw[Ym (by lia) (by lia)]
  ·have m2:mK k=2:=by unfold mK;rw[qE c,qE k3]
   rw[m2]at hn⊢;rw[Nat.pow_two]at hn;have d:n/G<G:=Yc hn;refine⟨n/G,n%G,?_,?_,d,Yn _ (by lia),λz=>qG z c,λ_=>⟨rfl,rfl⟩⟩
   ·show some (V.int ((n:Int)/(G:Int)%(G:Int)))=_;rw[<-Yq,<-YO,Yx d]
   ·show some (V.int ((n:Int)%(G:Int)))=_;rw[<-YO]
 refine Ap λN hN=>?_;walk_at "";refine (C0 (Af.of ha) hw0 (hN _ _ ?_));clear hN N;refine Ap λN hN=>?_;walk_at "";refine (C0 (Af.of ha) hw1 (hN _ _ ?_));clear hN N;refine CF (λσ HX=>∃h t:Nat,σ=[some (.int (k:Int)),some (.int (G:Int)),some (.ref p),some (.ref a),some (.int (h:Int)),some (.int (t:Int))]/\HX=H/\h<G/\t<G/\(k=0->h=n)/\(k≠0->∀s,Ca k G s (IH k l) n=EZ k G s h t)) (λN hN=>?_) ?_
 ·have fa:∀s d,Ca k G s d n=if d=0 then EZ k G s (n/G) (n%G) else EZ k G s (n%G) (n/G):=λs d=>by unfold Ca;rw[qE k3]
  have dk:IH k l=xn l 14%2:=by unfold IH;rw[qE k3]
  walk_at "";refine (C0 (Af.of xs.1) e14 ⟨_,rfl,by decide,?_⟩)
  by_cases c:xn l 14%2=1
  ·rw[qF (by lia)];refine (C0 (Af.of ha) hw1 (C0 (Af.of ha) hw0 (hN _ _ ⟨w1,w0,rfl,rfl,b1,b0,λz=>(hk0 z).2,λz s=>?_⟩)));rw[fa,dk,qE (by lia),(hk z).1,(hk z).2]
  ·rw[qE (by lia)];refine hN _ _ ⟨w0,w1,rfl,rfl,b0,b1,λz=>(hk0 z).1,λz s=>?_⟩;rw[fa,dk,qF (by lia),(hk z).1,(hk z).2]
 rintro _ hGo σ HX ⟨h,t,rfl,hHX,hh,ht,z0,zk⟩;refine hGo _ _ ?_;rw[hHX];clear hHX HX;clear hw0 hw1 b0 b1 hk0 hk wl
 have tv:∀j,k=j->j≠0->j≠3->j≠4->Cu k G l n=EZ j G (Ds j G l) h t:=λj e j0 _ j4=>by subst e;unfold Cu;rw[qE j0,qE j4,zk j0]
 have two:∀j,k=j->(j=1\/j=2\/j=4)->DE j [.int (G:Int),.ref p,.int (h:Int),.int (t:Int)] H Q E0:=λj e hj=>by
  subst e;refine⟨G,p,l,h,t,rfl,kg,xs,hh,ht,λH' e=>?_⟩;have q:=q H' e
  by_cases c:k=4
  ·rw[qF c];unfold Cu at q;rw[qE (by lia),qF c]at q;have z:=zk (by lia);rw[c]at z;rw[z]at q;exact q
  ·rw[qE c];rw[tv k rfl (by lia) (by lia) c]at q;exact q
 refine Ap λN hN=>?_;walk_at ""
 by_cases c1:k=1
 ·rw[qF (by lia)];exact two 1 c1 (.inl rfl)
 rw[qE (by lia)];refine hN _ _ ?_;clear hN N;refine Ap λN hN=>?_;walk_at ""
 by_cases c2:k=2
 ·rw[qF (by lia)];exact two 2 c2 (.inr (.inl rfl))
 rw[qE (by lia)];refine hN _ _ ?_;clear hN N;refine Ap λN hN=>?_;walk_at ""
 by_cases c4:k=4
 ·rw[qF (by lia)];exact two 4 c4 (.inr (.inr rfl))
 rw[qE (by lia)];refine hN _ _ ?_;clear hN N two;refine Ap λN hN=>?_;walk_at ""
 by_cases c5:k=5
 ·rw[qF (by lia)];have g:G=8:=by unfold KG at kg;lia
  have q:=q H (AG.refl _);rw[tv 5 c5 (by decide) (by decide) (by decide),g]at q;exact⟨h,t,rfl,q⟩
 rw[qE (by lia)];refine hN _ _ ?_;clear hN N;walk_at ""
 by_cases c6:k=6
 ·rw[qF (by lia)];have q:=q H (AG.refl _);rw[tv 6 c6 (by decide) (by decide) (by decide)]at q;exact⟨G,h,t,rfl,by unfold KG at kg;lia,by unfold KG at kg;lia,hh,ht,q⟩
 rw[qE (by lia)];have k0:k=0:=by unfold KG at kg;lia
 have q:=q H (AG.refl _);rw[show Cu k G l n=n by unfold Cu;rw[qF k0],<-z0 k0]at q;exact q
theorem Do:AL ["_law_first","_law_second","_law_low_here","_law_kind","_law_part","_law_signs","_law_many","_law_xs","_law_names","_law_words","_law_table"] ["_law_first","_law_second","_law_low_here"] (AI UV):=B6
theorem WK(T:B5 K mg t)(hB:HV mg base)(G_8:Ak P w K mg base 1 t.f_8 ["_law_cell","_law_many"] (Jd))(G_35:Ak P w K mg base 1 t.f_35 ["_law_number","_law_signs","_law_many"] (EK))(G_33:Ak P w K mg base 2 t.f_33 ["_law_kind","_law_signs","_law_xs","_law_word_here"] (Hq))(G_14:Ak P w K mg base 1 t.f_14 ["_law_signs","_law_many"] (Ce)):Ak P w K mg base 4 t.f_28 ["_law_first","_law_second","_law_low_here"] (Hr LP t.p_28):=by
 refine VN T.d_28 Do (λ_ _ _ _ _ _=>b3 λ_ _ _=>rfl) λvs H Q E h=>?_;obtain⟨c1,c2,lo,rfl,tb,q⟩:=h;refine⟨rfl,λA outer s hr=>?_⟩;refine VQ ?_
 refine⟨_,(Bj (Cf (i:=3) Do.nd rfl (Or.inr rfl) (JJ (Cc K) (GV (AU (AU (AU (AU (AU (AU (AU (AU (AU (AU (AU (AU (AU (AU GU))))))))))))))) (.of (AH Ad (pv 0) AC)) (λ_ _=>rfl)) rfl (by first|exact .inl rfl|exact .inr rfl))
  (Bj (Cf (i:=4) Do.nd rfl (Or.inl rfl) (.of (AH A7 (pv 0) AC)) rfl (by first|exact .inl rfl|exact .inr rfl))
  (Bj (Cf (i:=5) Do.nd rfl (Or.inr rfl) (.of (AH Ac AC (AH Ad (pv 4) AC))) rfl (by first|exact .inl rfl|exact .inr rfl))
  (Bj (LJ (AM BL (pv 3) AC (AQ _)) (GS (Cf (i:=5) Do.nd rfl (Or.inr rfl) (JJ (Cc K) (GV (AU (AU (AU (AU (AU (AU (AU (AU GU))))))))) (.of (AH Ad (pv 4) AC)) (λ_ _=>rfl)) rfl (by first|exact .inl rfl|exact .inr rfl))) JK)
  (Bj (LJ (AM BL (pv 3) AC (AQ _)) (GS (Cf (i:=5) Do.nd rfl (Or.inr rfl) (JJ (Cc K) (GV (AU (AU (AU (AU (AU (AU (AU (AU GU))))))))) (.of (AH Ad (pv 4) AC)) (λ_ _=>rfl)) rfl (by first|exact .inl rfl|exact .inr rfl))) JK)
  (Bj (LJ (AM E3 (pv 3) AC (AQ _)) (GS (Cf (i:=5) Do.nd rfl (Or.inr rfl) (.of (AK (Cc K) (Aw (AN (AA (AK (Cc K) (Aw (AN (AN (AN (AN AD))))) (AH Ad (pv 4) AC) (λ_ _=>rfl)) (AN (AA (AK (Cc K) (Aw (AN (AN (AN (AN AD))))) (AH Ad (pv 4) AC) (λ_ _=>rfl)) AD))))) (AH Am (pv 3) AC) (λ_ _=>rfl))) rfl (by first|exact .inl rfl|exact .inr rfl))) JK)
  (Bj (Cf (i:=6) Do.nd rfl (Or.inr rfl) (JJ (Cc K) (GV (AU (AU (AU (AU (AU (AU (AU GU)))))))) (.of (pv 3)) (λ_ _=>rfl)) rfl (by first|exact .inl rfl|exact .inr rfl))
  (Bj (Cf (i:=7) Do.nd rfl (Or.inr rfl) (.of (AS hr G_8 T.m_8 (AA (pv 1) (AN AD)))) rfl (by first|exact .inl rfl|exact .inr rfl))
  (Bj (Cf (i:=8) Do.nd rfl (Or.inr rfl) (.of (No (k:=1) (cl:=[("_law_xs",_)]) (is:=[7]) rfl rfl (hr.mono (by decide)) rfl T.z_range rfl T.z_sorted (AA (pv 5) AD) (QY (Th (clos:=[("_law_xs",_)]) hB rfl T.hd_28 (by with_unfolding_all rfl) rfl) Su) (.cons ⟨rfl,rfl,by with_unfolding_all rfl,rfl⟩ .nil))) rfl (by first|exact .inl rfl|exact .inr rfl))
  (Bj (.of (Da (iy:=9) (fv:=[(5,"_law_signs"),(6,"_law_many")]) (cl:=[("_law_signs",_),("_law_many",_)]) rfl Do.nd rfl (Or.inl rfl) (Ar rfl T.z_range (AA (AS hr G_14 T.m_14 (AA (pv 5) (AA (pv 6) AD))) AD)) (by with_unfolding_all rfl) (by with_unfolding_all rfl) (by decide +kernel) rfl (by decide +kernel) rfl ⟨(by with_unfolding_all rfl),⟨(by with_unfolding_all rfl),trivial⟩⟩ (by with_unfolding_all rfl) ⟨⟨rfl,rfl,(by with_unfolding_all rfl),rfl⟩,⟨⟨rfl,rfl,(by with_unfolding_all rfl),rfl⟩,trivial⟩⟩ (by decide) (λ_ _ _ _=>Gv) (λ_ _ _ _=>(AS hr G_35 T.m_35 (AA (pv 0) (AA (pv 1) (AA (pv 2) AD)))))))
  (Bj (.of (Da (iy:=10) (fv:=[(7,"_law_xs"),(5,"_law_signs"),(8,"_law_names"),(3,"_law_kind")]) (cl:=[("_law_xs",_),("_law_signs",_),("_law_names",_),("_law_kind",_)]) rfl Do.nd rfl (Or.inl rfl) (P3 K (pv 9)) (by with_unfolding_all rfl) (by with_unfolding_all rfl) (by decide +kernel) rfl (by decide +kernel) rfl ⟨(by with_unfolding_all rfl),⟨(by with_unfolding_all rfl),⟨(by with_unfolding_all rfl),⟨(by with_unfolding_all rfl),trivial⟩⟩⟩⟩ (by with_unfolding_all rfl) ⟨⟨rfl,rfl,(by with_unfolding_all rfl),rfl⟩,⟨⟨rfl,rfl,(by with_unfolding_all rfl),rfl⟩,⟨⟨rfl,rfl,(by with_unfolding_all rfl),rfl⟩,⟨⟨rfl,rfl,(by with_unfolding_all rfl),rfl⟩,trivial⟩⟩⟩⟩ (by decide) (λ_ _ _ _=>Gv) (λ_ _ _ _=>(AK (Oc (K:=K) rfl) (pv 3) (AS hr G_33 T.m_33 (AA (pv 4) (AA (pv 2) (AA (pv 1) (AA (pv 0) AD))))) (λ_ _=>rfl)))))
  (GS (.of (AO (Aw (AA (BI (AA (pv 5) (AA (pv 2) (AA (Bs CG rfl T.z_tuple ZR (AA (pv 10) AD)) AD)))) (AA (pv 6) AD))))))))))))))))),?_⟩
 have k6:=Py c1;have kg:=Xe c1
 have ek:((Mp c1:Nat):Int)=([0,1,1,2,2,3,4,5,6,6,3,4,6,1]:qW).getD (c1%14).toNat 0:=by
  unfold Mp;have h:(c1%14).toNat<14:=by lia
  generalize (c1%14).toNat=i at h;have z:∀i<14,((([0,1,1,2,2,3,4,5,6,6,3,4,6,1]:List Nat).getD i 0:Nat):Int)=([0,1,1,2,2,3,4,5,6,6,3,4,6,1]:qW).getD i 0:=by decide
  exact z i h
 refine Ap λN hN=>?_;walk_at "";refine⟨by decide,λp hp=>⟨by decide,C0 (Af.of AE) (BF (ns:=[0,1,1,2,2,3,4,5,6,6,3,4,6,1]) (by lia) (by show (c1%14).toNat<14;lia)) (hN _ _ ?_)⟩⟩;clear hN N;rw[<-ek];have e1:=AG.new hp (.lst (([0,1,1,2,2,3,4,5,6,6,3,4,6,1]:qW).map V.int));have tb1:=tb.same e1;refine Fg (λHX=>AG H HX) e1 ?_;clear e1 tb1 hp p ek;rintro H1 e1;refine Ap λN hN=>?_;walk_at "";refine⟨by decide,by decide,hN _ _ ?_⟩;clear hN N;obtain⟨k,hk⟩:∃k,k=Mp c1:=⟨_,rfl⟩;obtain⟨G,hG⟩:∃G,G=gF c1:=⟨_,rfl⟩;have g0:k=0->((G:Nat):Int)=2+c1/14%8:=λz=>by rw[hG];unfold gF;rw[qF (by rw[<-hk];exact z)];lia
 have i8:(c1/14%8).toNat<8:=by lia
 have i4:(c1/14%4).toNat<4:=by lia
 have g1:k=1->((G:Nat):Int)=([4,4,6,4,4,8,6,9]:qW).getD (c1/14%8).toNat 0:=λz=>by
  rw[hG];unfold gF;rw[<-hk,z];generalize (c1/14%8).toNat=i at i8;have y:∀i<8,((([4,4,6,4,4,8,6,9]:List Nat).getD i 0:Nat):Int)=([4,4,6,4,4,8,6,9]:qW).getD i 0:=by decide
  exact y i i8
 have g2:k=2->((G:Nat):Int)=([3,4,5,3,4,3,6,7]:qW).getD (c1/14%8).toNat 0:=λz=>by
  rw[hG];unfold gF;rw[<-hk,z];generalize (c1/14%8).toNat=i at i8;have y:∀i<8,((([3,4,5,3,4,3,6,7]:List Nat).getD i 0:Nat):Int)=([3,4,5,3,4,3,6,7]:qW).getD i 0:=by decide
  exact y i i8
 have g3:2<k->((G:Nat):Int)=([2,([4,4,8,9]:qW).getD (c1/14%4).toNat 0,8,([5,6,5,7]:qW).getD (c1/14%4).toNat 0]:qW).getD (k-3) 0:=λz=>by
  rw[<-hk]at k6;have e4:∀i<4,((([4,4,8,9]:List Nat).getD i 0:Nat):Int)=([4,4,8,9]:qW).getD i 0:=by decide
  have e6:∀i<4,((([5,6,5,7]:List Nat).getD i 0:Nat):Int)=([5,6,5,7]:qW).getD i 0:=by decide
  rw[hG];unfold gF;rw[<-hk];obtain rfl|rfl|rfl|rfl:k=3\/k=4\/k=5\/k=6:=by lia
  ·rfl
  ·exact e4 _ i4
  ·rfl
  ·exact e6 _ i4
 rw[<-hk]at kg k6⊢;rw[<-hG]at kg;refine Ap λN hN=>?_;walk_at "";refine⟨by decide,hN _ _ ?_⟩;clear hN N;refine CF (λσ HX=>(∃s:Int,σ=[some (.int c1),some (.int c2),some (.int lo),some (.int (k:Int)),some (.int (c1/14)),some (.int s),none,none,none,none,none]/\(k<=1->s=(G:Int)))/\AG H HX) (λN hN=>?_) ?_
 ·walk_at ""
  by_cases c:k=1
  ·rw[qF (by lia)];refine⟨by decide,λp hp=>⟨by decide,C0 (Af.of AE) (BF (ns:=[4,4,6,4,4,8,6,9]) (by lia) i8) (hN _ _ ⟨⟨_,rfl,λ_=>(g1 c).symm⟩,e1.trans (AG.new hp _)⟩)⟩⟩
  ·rw[qE (by lia)];exact hN _ _ ⟨⟨_,rfl,λz=>(g0 (by lia)).symm⟩,e1⟩
 rintro _ hGo σ HX ⟨⟨s,rfl,hs⟩,eX⟩;refine hGo _ _ ?_;refine CF (λσ HX=>(∃s:Int,σ=[some (.int c1),some (.int c2),some (.int lo),some (.int (k:Int)),some (.int (c1/14)),some (.int s),none,none,none,none,none]/\(k<=2->s=(G:Int)))/\AG H HX) (λN hN=>?_) ?_
 ·walk_at ""
  by_cases c:k=2
  ·rw[qF (by lia)];refine⟨by decide,λp hp=>⟨by decide,C0 (Af.of AE) (BF (ns:=[3,4,5,3,4,3,6,7]) (by lia) i8) (hN _ _ ⟨⟨_,rfl,λ_=>(g2 c).symm⟩,eX.trans (AG.new hp _)⟩)⟩⟩
  ·rw[qE (by lia)];exact hN _ _ ⟨⟨_,rfl,λz=>hs (by lia)⟩,eX⟩
 clear hs eX s HX;rintro _ hGo σ HX ⟨⟨s,rfl,hs⟩,eX⟩;refine hGo _ _ ?_;refine CF (λσ HX=>σ=[some (.int c1),some (.int c2),some (.int lo),some (.int (k:Int)),some (.int (c1/14)),some (.int (G:Int)),none,none,none,none,none]/\AG H HX) (λN hN=>?_) ?_
 ·walk_at ""
  by_cases c:2<k
  ·rw[qF (by lia)];refine⟨by decide,λp1 h1=>⟨by decide,C0 (Af.of AE) (BF (ns:=[4,4,8,9]) (by lia) i4) ⟨by decide,λp2 h2=>⟨by decide,C0 (Af.of AE) (BF (ns:=[5,6,5,7]) (by lia) i4) ⟨by decide,λp3 h3=>?_⟩⟩⟩⟩⟩;refine (C0 (Af.of AE) (BF (ns:=[2,([4,4,8,9]:qW).getD (c1/14%4).toNat 0,8,([5,6,5,7]:qW).getD (c1/14%4).toNat 0]) (by lia) (by show ((k:Int)-3).toNat<4;lia)) (hN _ _ ⟨?_,((eX.trans (AG.new h1 _)).trans (AG.new h2 _)).trans (AG.new h3 _)⟩));rw[show ((k:Int)-3).toNat=k-3 by lia,<-g3 c]
  ·rw[qE (by lia)];exact hN _ _ ⟨by rw[hs (by lia)],eX⟩
 clear hs eX s HX;rintro _ hGo σ H2 ⟨rfl,e2⟩;refine hGo _ _ ?_
 have em:((mK k:Nat):Int)=([1,2,2,4,2,2,2]:qW).getD k 0:=by
  have z:∀k<7,((mK k:Nat):Int)=([1,2,2,4,2,2,2]:qW).getD k 0:=by decide
  exact z k (by lia)
 refine Ap λN hN=>?_;walk_at "";refine⟨by decide,λp hp=>(C0 (Af.of AE) (BF (ns:=[1,2,2,4,2,2,2]) (by lia) (by show ((k:Nat):Int).toNat<7;lia)) (hN _ _ ?_))⟩;clear hN N;rw[Xo,<-em];clear em;refine Fg (λHX=>AG H HX) (e2.trans (AG.new hp _)) ?_;clear hp p e2 H2 g0 g1 g2 g3 i8 i4;rintro H3 e3;refine Ap λN hN=>?_;walk_at "";refine⟨_,_,rfl,by decide,by decide,λpx H4 e4 _ h4=>hN _ _ ?_⟩;clear hN N;obtain⟨l,hl⟩:∃l,l=IG c2 15:=⟨_,rfl⟩;have xs:QO H4 px l:=⟨by rw[hl];exact h4,by rw[hl];exact Hl c2 15,by rw[hl];exact Mn c2 15⟩;clear h4;have e34:=e3.trans e4;refine Ap λN hN=>?_;refine⟨_,rfl,G,rfl,by unfold KG at kg;lia,tb.same e34,λf H5 s5 tb5 hf la=>?_⟩;dsimp only[IC];have xs5:QO H5 px l:=⟨s5.get (tb.same e34) xs.1 (λ_ z=>by cases z),xs.2⟩;have G9:G<=9/\2<=G:=by unfold KG at kg;lia
 refine⟨f,[.ref px],λx=>((xn l x:Nat):Int)*16+(x:Int),rfl,.cons rfl .nil,Nn (k:=0) (x1:="_law_k") (fns:=["_law_xs"]) la ⟨rfl,rfl,rfl,by decide,λx hx=>by rw[Xu.mp hx];exact .inl rfl,λx hx=>by rw[Xu.mp hx];rfl,by decide +kernel,by decide +kernel⟩ rfl (Yd.mpr ⟨X7,Y2⟩) (λ_ _ _=>b1 λ_=>rfl) (λc' A2 outer2 s2 HC x hr hx eC=>⟨_,(AH Ac (AH BB (AK (Cc K) (pv 1) (pv 0) (λ_ _=>rfl)) AC) (pv 0)),?B⟩),λD zs H6 e6 hD h6 pz=>hN _ _ ?_⟩
 case B =>
  intro QB qB;have xsC:=xs5.same eC;exact⟨_,rfl,_,rfl,px,_,_,_,rfl,rfl,Af.of xsC.1,xsC.at (i:=x) (by lia),_,_,rfl,rfl,.inr ⟨by decide,by decide⟩,_,rfl,_,_,rfl,rfl,qB _ (AG.refl _)⟩
 clear hN N;have s6:DB t.p_28 H H6:=(e34.t.trans s5).trans e6.t;have tb6:=tb5.same e6;have xs6:=xs5.same e6;have zl:zs.length=G:=by rw[pz.length_eq,Bx]
 have nm:=Pz pz;have m1:mK k=1\/mK k=2\/mK k=4:=by unfold mK;split;exact .inl rfl;split;exact .inr (.inr rfl);exact .inr (.inl rfl)
 obtain⟨cd,ctf,cmf,ctop,core⟩:=Px kg l nm;have csz:=core.sz;have gpw:(G:Int)^mK k=((G^mK k:Nat):Int):=by rw[ZN]
 refine Ap λN hN=>?_;walk_at "";refine⟨_,rfl,_,rfl,(G:Int),((mK k:Nat):Int),rfl,by lia,by lia,by lia,by lia,_,rfl,by rw[Xo,gpw];lia,by rw[Xo];lia,λD2 hD2=>?_⟩;rw[Xo,gpw,Xo];obtain⟨n,hn⟩:∃n,n=G^mK k:=⟨_,rfl⟩;have n256:n<=256:=by rw[gpw,<-hn]at csz;lia
 rw[<-hn];refine CA (n:=n) (λi ad Hx=>∃ps:List qR,ad=ps.map V.ref/\ps.length=i/\AG H6 Hx/\Hx D2=some (.lst ad)/\∀(j:Nat) (a:qR),ps[j]?=some a->Hx a=some (.lst ((BD (G:Int) (j:Int) (mK k)).map V.int))) ⟨[],rfl,rfl,AG.new hD2 _,AE,λj a z=>by simp at z⟩ ?_ ?_
 ·refine F1 ?_;rintro i _ hGo ad Hx hi ⟨ps,rfl,pl,ex,hDx,hp⟩;refine hGo _ _ ?_;rw[YJ];refine⟨_,rfl,_,rfl,_,rfl,(i:Int),(G:Int),((mK k:Nat):Int),rfl,by lia,by lia,by lia,by lia,λp7 H7 n7=>?_⟩;rw[Xo]at n7;have hD7:=n7.1 _ _ hDx;have ne:p7≠D2:=λz=>by have z2:=n7.2.1;rw[z,hDx]at z2;cases z2
  refine⟨hD7,by rw[Xf];exact Ab (by lia),ps++[p7],by rw[Xp];rfl,by rw[Xt,pl];rfl,(ex.trans n7.1).into hD2,AE,λj a z=>?_⟩
  by_cases c:j<ps.length
  ·rw[YQ c]at z;have w:=hp j a z;have na:a≠D2:=λy=>by rw[y,hDx]at w;have w:=HO.lst.inj (Option.some.inj w);have c0:(ps.map V.ref)[0]?=((BD (G:Int) (j:Int) (mK k)).map V.int)[0]?:=qP (λl:List V=>l[0]?) w;rw[Xl,Xl,Xj (show 0<ps.length by lia),Xj (show 0<(BD (G:Int) (j:Int) (mK k)).length by rw[CB];lia)]at c0;cases c0
   rw[AJ na];exact n7.1 _ _ w
  ·have:j=ps.length:=by
    have:=(Xg.mp z).1;rw[Xt]at this;simp at this;lia
   subst this;rw[X9 (Xi _),ZH]at z;have z:p7=a:=Option.some.inj z;rw[<-z,AJ ne,pl];exact n7.2.2
 rintro ad H7 ⟨ps,rfl,pl,e7,hD7,hp⟩;refine hN _ _ ?_;clear hN N;have xs7:=xs6.same e7;have h67:=e7 _ _ h6;refine Ap λN hN=>?_;walk_at "";refine⟨_,rfl,D2,rfl,⟨_,Af.of hD7⟩,λD3 hD3=>?_⟩;refine IR (xs:=ps.map V.ref) (λi ad Hx=>ad=((List.range i).map λa=>zs.getD (Cu k G l a) 0).map V.int/\AG H7 Hx/\Hx D3=some (.lst ad)) ⟨rfl,AG.new hD3 _,AE⟩ (λi ad Hx _ z=>Af.of (z.2.1 _ _ hD7)) ?_ ?_
 ·refine P5 ?_;rintro i x _ hGo ad Hx hx ⟨rfl,ex,hDx⟩;refine hGo _ _ ?_;obtain⟨a,hai,rfl⟩:∃a,ps[i]?=some a/\x=V.ref a:=by rw[Xl]at hx;obtain⟨c,h1,h2⟩:=Xz.mp hx;exact⟨c,h1,h2.symm⟩
  have il:i<n:=by have:=(Xg.mp hai).1;lia
  have tl:=Ra kg l (n:=i) (by rw[<-hn];exact il);dsimp only[Qs];rw[qF rfl];refine⟨_,rfl,_,rfl,_,rfl,_,rfl,_,rfl,k,G,px,a,l,i,rfl,kg,xs7.same ex,ex _ _ (hp i a hai),by rw[<-hn];exact il,λH8 e8=>?_⟩;refine (C0 (Af.of ((ex.trans e8) _ _ h67)) (D0 (by lia)) ⟨e8 _ _ hDx,?_,?_,(ex.trans e8).into hD3,AE⟩)
  ·rw[Xf,Xf,YF];exact Ab (by lia)
  ·rw[Bc,Xp];rfl
 rintro ad H8 ⟨rfl,e8,h8⟩;rw[Xf,pl]at h8;refine hN _ _ ?_;clear hN N;walk_at "";refine⟨_,.inl ⟨Af.of h8,λl9 hl9=>⟨by decide,λp9 hp9=>⟨by decide,λp10 hp10=>?_⟩⟩⟩⟩;have tabe:(List.range n).map (λa=>zs.getD (Cu k G l a) 0)=BH (G^mK k) (λv=>zs.getD v 0) (Cu k G l):=by rw[hn];rfl
 rw[tabe]at h8 hp9 hp10⊢;have f9:=AG.new hl9 (.tup ((BH (G^mK k) (λv=>zs.getD v 0) (Cu k G l)).map V.int));have f10:=AG.new hp9 (.tup [.int (G:Int),.int lo,.ref l9]);have f11:=AG.new hp10 (.lst [.ref p9,.int ((mK k:Nat):Int)]);have ff:=(((e7.trans e8).trans f9).trans f10).trans f11;have tw:Xa c1 c2=SR k G l:=by rw[hk,hG,hl];rfl
 have m8:mK k<=8:=by lia
 refine q p10 p9 _ (G:Int) _ (mK k) cd ctf cmf ctop (s6.trans ff.t) (tb6.same ff) AE ⟨⟨l9,f11 _ _ AE,f11 _ _ (f10 _ _ AE)⟩,core.g2,core.g9,core.m1,m8,core.len,core.sz,core.tb⟩ ?_;rw[tw];exact core
theorem WL:AL ["_law_cell"] ["_law_cell"] (AI UW):=B6
theorem WM(T:B5 K mg t) :Ak P w K mg base 1 t.f_42 ["_law_cell"] (Jh):=by
 refine Aj T.d_42 WL λvs H Q E h=>?_;obtain⟨c,rfl,q⟩:=h;refine⟨rfl,λae A outer s hr=>?_⟩
 refine⟨_,(AB (Ah (AM BL (AH Ad (pv 0) AC) AC (AQ _)) (AF (AO (AH Am (AH Ad (AH A7 (pv 0) AC) AC) AC))) AV)
  (AF (AO (AH Ac (AH Am (AH Ad (AH BB (AH A7 (pv 0) AC) AC) (AH Am (AH BB AC (AH OC AC AC)) AC)) (AH OC AC AC)) AC)))),?_⟩
 walk_at "";refine⟨by decide,?_⟩;split
 ·exact⟨by decide,by decide,by decide,q _⟩
 exact⟨by decide,by decide,.inr ⟨by decide,by decide⟩,by decide,by decide,by decide,.inl ⟨by decide,by decide⟩,by decide,by decide,by decide,by decide,q _⟩
theorem M5:AL ["_law_core_here","_law_many","_law_low_here","_law_word_here","_law_at","_law_j"] ["_law_core_here","_law_many","_law_low_here","_law_word_here"] (AI UX):=B6
theorem WN(T:B5 K mg t) :Ak P w K mg base 1 t.f_31 ["_law_core_here","_law_many","_law_low_here","_law_word_here"] (LL K):=by
 refine Aj T.d_31 M5 λvs H Q E h=>?_;obtain⟨r,a,g,lo,a7,m,low,ws,rfl,ok,hS,hb,l1,l2,q⟩:=h;refine⟨rfl,λae A outer s hr=>?_⟩
 refine⟨_,(AB (AW 4 M5 AC)
  (AB (Ay PassesOwn.never rfl (Ar rfl T.z_range (AA (pv 1) AD)) (A5 5 M5) (AF (AW 4 M5 (AH Ac (AH BB (pv 4) (AK (Bm K) (pv 0) AC (λ_ _=>rfl))) (AK (Cc K) (pv 3) (AH Am (AH Ac (AK (Bm K) (pv 0) AC (λ_ _=>rfl)) (pv 5)) (pv 2)) (λ_ _=>rfl))))))
  (AF (AO (AK (Bm K) (AK (Bm K) (pv 0) AC (λ_ _=>rfl)) (pv 4) (λ_ _=>rfl)))))),?_⟩
 refine BV.el ok.v λtb h1 h2=>?_;have g2:=ok.g2;have g9:=ok.g9;have m8:=ok.m8;have hl:=ok.len;have wl:=CH ws (lo-low) m;have wb:=Ep g2 hb (lo-low) m;have nb:=DG g2 wb;rw[wl,<-hl]at nb;walk_at "";refine⟨_,rfl,_,rfl,by lia,by lia,?_⟩;rw[Xo];refine BP (n:=m) (λj σ H2=>(∃x5,σ=[some (.ref r),some (.int ((m:Nat):Int)),some (.int low),some (.ref a),some (.int (BM g ((GA ws (lo-low) m).take j))),x5])/\H2=H) ⟨⟨_,rfl⟩,rfl⟩ ?_ ?_
 ·refine Dn ?_;rintro _ _ j _ hGo σ H2 hj ⟨⟨x5,rfl⟩,rfl⟩;refine hGo _ _ ?_;walk_at "";refine (CQ (Aa.of h1) rfl ?_);walk_at "";have gj:(GA ws (lo-low) m)[j]?=some (ws.getD (lo+(j:Int)-low).toNat 0):=by unfold GA;rw[Xl,Zk hj];show some (sn ws (lo-low+(j:Int)))=_;rw[show lo-low+(j:Int)=(((lo+(j:Int)-low).toNat:Nat):Int) by lia,Fk (by lia)]
  refine⟨.inr ⟨by lia,by lia⟩,CQ (Aa.of h1) rfl ⟨lo,rfl,?_⟩⟩;rw[YJ];refine⟨a,_,_,_,rfl,rfl,hS,BF (by lia) (by lia),_,rfl,?_,⟨_,rfl⟩,rfl⟩;rw[Dx gj]
 ·rintro σ H2 ⟨⟨x5,rfl⟩,rfl⟩;have tk:(GA ws (lo-low) m).take m=GA ws (lo-low) m:=YX (by lia);rw[tk];walk_at "";exact (CQ (Aa.of h1) rfl (CQ (Aa.of h2) (BF nb.1 (by lia)) q))
theorem Hz:AL ["_law_core_here","_law_many","_law_cell","_law_most","_law_ahead","_law_behind","_law_low_here","_law_size","_law_table"] ["_law_core_here","_law_many","_law_cell"] (AI UY):=B6
theorem WO(T:B5 K mg t)(G_31:Ak P w K mg base 1 t.f_31 ["_law_core_here","_law_many","_law_low_here","_law_word_here"] (LL K))(G_35:Ak P w K mg base 1 t.f_35 ["_law_number","_law_signs","_law_many"] (EK))(G_14:Ak P w K mg base 1 t.f_14 ["_law_signs","_law_many"] (Ce)):Ak P w K mg base 2 t.f_34 ["_law_core_here","_law_many","_law_cell"] (Hs):=by
 refine Aj T.d_34 Hz λvs H Q E h=>?_;obtain⟨r,g,lo,a7,m,c,rfl,ok,m4,m3,q⟩:=h;refine⟨rfl,λae A outer s hr=>?_⟩
 refine⟨_,(AB (AW 3 Hz (AK (Cc K) (RS (ns:=[6,4,3,3,3,2,2,2]) (by rfl)) (AH Am (AK (Bm K) (pv 0) AC (λ_ _=>rfl)) AC) (λ_ _=>rfl)))
  (AB (AW 4 Hz (AH Ad (pv 2) (AH Ac (AH Am (pv 3) (pv 1)) AC)))
  (AB (AW 5 Hz (AH Ad (AH A7 (pv 2) AC) (AH Ac (AH Am (AH Am (pv 3) (pv 1)) (pv 4)) AC)))
  (AB (AW 6 Hz (AH Am (AK (Bm K) (pv 0) AC (λ_ _=>rfl)) (pv 4)))
  (AB (AW 7 Hz (AH Ac (AH Ac (pv 1) (pv 4)) (pv 5)))
  (AB (Da (iy:=8) (fv:=[(7,"_law_size"),(1,"_law_many"),(6,"_law_low_here"),(0,"_law_core_here")]) (cl:=[("_law_size",_),("_law_many",_),("_law_low_here",_),("_law_core_here",_)]) rfl Hz.nd rfl (Or.inl rfl) (Ar rfl T.z_range (AA (AS hr G_14 T.m_14 (AA (AK (Bm K) (pv 0) AC (λ_ _=>rfl)) (AA (pv 7) AD))) AD)) (by with_unfolding_all rfl) (by with_unfolding_all rfl) (by decide +kernel) rfl (by decide +kernel) rfl ⟨(by with_unfolding_all rfl),⟨(by with_unfolding_all rfl),⟨(by with_unfolding_all rfl),⟨(by with_unfolding_all rfl),trivial⟩⟩⟩⟩ (by with_unfolding_all rfl) ⟨⟨rfl,rfl,(by with_unfolding_all rfl),rfl⟩,⟨⟨rfl,rfl,(by with_unfolding_all rfl),rfl⟩,⟨⟨rfl,rfl,(by with_unfolding_all rfl),rfl⟩,⟨⟨rfl,rfl,(by with_unfolding_all rfl),rfl⟩,trivial⟩⟩⟩⟩ (by decide) (λ_ _ _ _=>Gv) (λ_ _ _ _=>(AS hr G_31 T.m_31 (AA (pv 4) (AA (pv 2) (AA (pv 3) (AA (AS hr G_35 T.m_35 (AA (pv 0) (AA (AK (Qr (K:=K) rfl) (pv 4) AC (λ_ _=>rfl)) (AA (pv 1) AD)))) AD)))))))
  (AF (AO (BI (AA (AK (Bm K) (pv 0) AC (λ_ _=>rfl)) (AA (pv 6) (AA (Bs CG rfl T.z_tuple ZR (AA (pv 8) AD)) AD)))))))))))),?_⟩
 refine BV.el ok.v λtb h1 h2=>?_;have g2:=ok.g2;have g9:=ok.g9;have m1:=ok.m1;have hl:=ok.len;have wm:=Ik g2 g9;have cw:=Ki g2 g9 m4 m3;refine Ap λN hN=>?_;walk_at "";refine⟨by decide,λp hp=>?_⟩;have e1:=AG.new hp (.lst (([6,4,3,3,3,2,2,2]:qW).map V.int));refine (CQ (Aa.of (e1 _ _ h1)) rfl ⟨_,rfl,p,_,_,_,rfl,rfl,Af.of AE,BF (ns:=[6,4,3,3,3,2,2,2]) (by lia) (by show (g-2).toNat<8;lia),hN _ _ ?_⟩);clear hN N;obtain⟨w',hw⟩:∃w':Int,w'=F2 g:=⟨_,rfl⟩;rw[show ([6,4,3,3,3,2,2,2]:qW).getD (g-2).toNat 0=w' from hw.symm];rw[<-hw]at wm cw;clear hw;obtain⟨w2,w7,_,wz⟩:=wm;refine Fg (λHX=>AG H HX) e1 ?_;clear e1 hp p;rintro H2 e2;refine Ap λN hN=>?_;walk_at "";refine⟨by lia,hN _ _ ?_⟩;clear hN N;obtain⟨ah,hah,ah0,ah1⟩:∃ah:Int,ah=c%(w'-(m:Int)+1)/\0<=ah/\ah<w'-(m:Int)+1:=⟨_,rfl,Y4 _ (by lia),Y7 _ (by lia)⟩;rw[<-hah];clear hah;refine Ap λN hN=>?_;walk_at "";refine⟨by decide,by decide,by lia,hN _ _ ?_⟩;clear hN N;obtain⟨be,hbe,be0,be1⟩:∃be:Int,be=c/8%(w'-(m:Int)-ah+1)/\0<=be/\be<w'-(m:Int)-ah+1:=⟨_,rfl,Y4 _ (by lia),Y7 _ (by lia)⟩;rw[<-hbe];clear hbe;refine Ap λN hN=>?_;walk_at "";refine (CQ (Aa.of (e2 _ _ h1)) rfl ⟨_,rfl,hN _ _ ?_⟩);clear hN N;refine Ap λN hN=>?_;walk_at "";refine hN _ _ ?_;clear hN N;obtain⟨M,hM⟩:∃M:Nat,(M:Int)=(m:Int)+ah+be:=⟨((m:Int)+ah+be).toNat,by lia⟩;rw[<-hM]
 have gM:g^M<=256:=by have:=By g2 (show M<=w'.toNat by lia);lia
 have gp:=RW.Ao g2 M;obtain⟨low,hlow⟩:∃low:Int,low=lo-ah:=⟨_,rfl⟩;rw[<-hlow];refine Ap λN hN=>?_;walk_at "";refine⟨_,rfl,r,_,0,_,rfl,rfl,Aa.of (e2 _ _ h1),rfl,_,rfl,g,_,rfl,g2,g9,by lia,by lia,_,rfl,by rw[Xo];lia,by rw[Xo];lia,λD hD=>?_⟩;rw[Xo];refine CA (n:=(g^M).toNat) (λi ad Hx=>ad=((List.range i).map λn:Nat=>a7.getD (BM g (GA (BD g (n:Int) M) (lo-low) m)).toNat 0).map V.int/\AG H2 Hx/\Hx D=some (.lst ad)) ⟨rfl,AG.new hD _,AE⟩ ?_ ?_
 ·refine F1 ?_;rintro i _ hGo ad Hx hi ⟨rfl,ex,hDx⟩;refine hGo _ _ ?_;have e3:=e2.trans ex;walk_at "";refine (CQ (Aa.of (e3 _ _ h1)) rfl ⟨_,g,_,rfl,g2,g9,by lia,by lia,λp5 H5 hN5=>?_⟩);rw[Xo,YJ]at hN5;have wl:=CB g (i:Int) M;refine⟨r,p5,g,lo,a7,m,low,BD g (i:Int) M,rfl,ok.same (e3.trans hN5.1),Af.of hN5.2.2,D4 g2 _ _,by lia,by lia,hN5.1 _ _ hDx,?_,?_,(ex.trans hN5.1).into hD,AE⟩
  ·rw[Xf,Xf,YF];exact Ab (by lia)
  ·rw[Bc,Xp];rfl
 rintro ad Hx ⟨rfl,ex,hDx⟩;refine hN _ _ ?_;clear hN N;have e3:=e2.trans ex;walk_at "";refine (CQ (Aa.of (e3 _ _ h1)) rfl ⟨_,.inl ⟨Af.of hDx,λl8 hl8=>⟨by decide,λp9 hp9=>?_⟩⟩⟩);have f8:=AG.new hl8 (.tup ((Dd g lo a7 m low M).map V.int));have f9:=AG.new hp9 (.tup [.int g,.int low,.ref l8]);exact q p9 low (Dd g lo a7 m low M) M _ ((e3.trans f8).trans f9) (ok.bw (by lia) gM ⟨l8,AE,f9 _ _ AE⟩) λx hx=>KA g2 hl (by lia) (by lia) hx
theorem Uf:AL ["_law_one","_law_many","_law_j","_law_weight","_law_k"] ["_law_one","_law_many","_law_j"] (AI W5):=B6
theorem XM(T:B5 K mg t)(G_14:Ak P w K mg base 1 t.f_14 ["_law_signs","_law_many"] (Ce)):Ak P w K mg base 2 t.f_7 ["_law_one","_law_many","_law_j"] (Ey):=by
 refine Aj T.d_7 Uf λvs H Q E h=>?_;obtain⟨r,g,lo,a7,m,j,rfl,g2,g9,hR,hl,hj,m8,gm,q⟩:=h;refine⟨rfl,λae A outer s hr=>?_⟩
 refine⟨_,(AB (AW 3 Uf (AS hr G_14 T.m_14 (AA (AK (Bm K) (pv 0) AC (λ_ _=>rfl)) (AA (AH Am (AH Am (pv 1) AC) (pv 2)) AD))))
  (AB (Ay PassesOwn.never rfl (Ar rfl T.z_range (AA (Ai (Jj K) rfl T.z_len YR (AA (AK (Bm K) (pv 0) AC (λ_ _=>rfl)) AD)) AD)) (A5 4 Uf) (AF (Ah (AM Ed (AK (Bm K) (AK (Bm K) (pv 0) AC (λ_ _=>rfl)) (pv 4) (λ_ _=>rfl)) (AK (Bm K) (AK (Bm K) (pv 0) AC (λ_ _=>rfl)) (AH Am (pv 4) (AH BB (AH Ad (AH A7 (pv 4) (pv 3)) (AK (Bm K) (pv 0) AC (λ_ _=>rfl))) (pv 3))) (λ_ _=>rfl)) (AQ _)) (AF (AO Eb)) AV)))
  (AF (AO Eb)))),?_⟩
 refine BV.el hR λtb h1 h2=>?_;walk_at "";refine (CQ (Aa.of h1) rfl ?_);walk_at "";refine⟨g,_,rfl,g2,g9,by lia,by lia,?_⟩;rw[show ((m:Int)-1-(j:Int)).toNat=m-1-j by lia];have wp:=RW.Ao g2 (m-1-j);have wq:=By g2 (show m-1-j<=m by lia);obtain⟨wt,hwt⟩:∃wt:Int,wt=g^(m-1-j):=⟨_,rfl⟩;rw[<-hwt]at wp wq q⊢;have hlm:(a7.map V.int).length=a7.length:=Xf ..;refine⟨_,rfl,r,_,2,_,rfl,rfl,Aa.of h1,rfl,tb,rfl,_,.inr (Aa.of h2),_,rfl,by lia,by lia,?_⟩;rw[hlm];refine BP (n:=a7.length) (λi σ H1=>(∃x4,σ=[some (.ref r),some (.int ((m:Nat):Int)),some (.int ((j:Nat):Int)),some (.int wt),x4])/\H1=H/\∀k,k<i->a7.getD k 0=a7.getD ((k:Int)-(k:Int)/wt%g*wt).toNat 0) ⟨⟨none,rfl⟩,rfl,λk hk=>qG hk (aE _)⟩ ?_ ?_
 ·refine Dn ?_;rintro _ _ i _ hGo σ H1 hi ⟨⟨x4,rfl⟩,rfl,hall⟩;refine hGo _ _ ?_;have ix:=Ol (k:=(i:Int)) (w:=wt) (g:=g) (by lia) wp g2;have gA:=BF (ns:=a7) ix.1 (by lia);walk_at "";rw[YJ];refine (CQ (Aa.of h1) rfl (CQ (Aa.of h2) (D0 hi) ?_));refine (CQ (Aa.of h1) rfl ⟨wp,by lia,?_⟩);refine (CQ (Aa.of h1) rfl ⟨g,rfl,by lia,.inr ⟨by lia,by lia⟩,CQ (Aa.of h2) gA ⟨rfl,?_⟩⟩)
  by_cases hd:V.int (a7.getD i 0)=V.int (a7.getD ((i:Int)-(i:Int)/wt%g*wt).toNat 0)
  ·rw[qE (λz=>z hd)];refine⟨⟨_,rfl⟩,rfl,λk hk=>?_⟩
   by_cases z:k=i
   ·subst z;exact V.int.inj hd
   ·exact hall k (by lia)
  ·rw[qF hd];have z:A1 g a7 wt=true:=DM.mpr ⟨i,hi,λy=>hd (by rw[y])⟩;rw[z]at q;exact q
 ·rintro σ H1 ⟨⟨x4,rfl⟩,rfl,hall⟩;walk_at ""
  have z:A1 g a7 wt=false:=by
   cases z:A1 g a7 wt with
   |false=>rfl
   |true =>
    obtain⟨k,hk,h⟩:=DM.mp z;exact qG (hall k hk) h
  rw[z]at q;exact q
theorem DU:AL ["_law_one","_law_many","_law_some","_law_first","_law_size","_law_table","_law_k","_law_word_here","_law_at","_law_j"] ["_law_one","_law_many"] (AI UZ):=B6
theorem WP(T:B5 K mg t)(G_14:Ak P w K mg base 1 t.f_14 ["_law_signs","_law_many"] (Ce))(G_35:Ak P w K mg base 1 t.f_35 ["_law_number","_law_signs","_law_many"] (EK))(G_7:Ak P w K mg base 2 t.f_7 ["_law_one","_law_many","_law_j"] (Ey)):Ak P w K mg base 3 t.f_12 ["_law_one","_law_many"] (F4):=by
 refine Aj T.d_12 DU λvs H Q E h=>?_;obtain⟨r,g,lo,a7,m,lf,tf,mf,rfl,ok,fw,q⟩:=h;refine⟨rfl,λae A outer s hr=>?_⟩
 refine⟨_,(AB (Da (iy:=2) (fv:=[(0,"_law_one"),(1,"_law_many")]) (cl:=[("_law_one",_),("_law_many",_)]) rfl DU.nd rfl (Or.inl rfl) (Ar rfl T.z_range (AA (pv 1) AD)) (by with_unfolding_all rfl) (by with_unfolding_all rfl) (by decide +kernel) rfl (by decide +kernel) rfl ⟨(by with_unfolding_all rfl),⟨(by with_unfolding_all rfl),trivial⟩⟩ (by with_unfolding_all rfl) ⟨⟨rfl,rfl,(by with_unfolding_all rfl),rfl⟩,⟨⟨rfl,rfl,(by with_unfolding_all rfl),rfl⟩,trivial⟩⟩ (by decide) (λ_ _ _ _=>(Em (Bb (AS hr G_7 T.m_7 (AA (pv 1) (AA (pv 2) (AA (pv 0) AD))))))) (λ_ _ _ _=>(pv 0)))
  (AB (AW 3 DU AC)
  (AB (AW 4 DU AC)
  (AB (Ah (AM (RC (K:=K) rfl hr.units) (pv 2) (Aw AD) (AQ _)) (AB (AW 3 DU (AK (Cc K) (pv 2) AC (λ_ _=>rfl)))
  (AF (AW 4 DU (Ai (IK rfl) rfl T.z_max PyProof.Rows.boot_max (AN (AA (AH Ac (AH Am (AK (Cc K) (pv 2) (Jm Gi AC) (λ_ _=>rfl)) (pv 3)) AC) AD)))))) AV)
  (AB (AW 5 DU (Aw AD))
  (AB (Ay PassesOwn.never rfl (Ar rfl T.z_range (AA (AS hr G_14 T.m_14 (AA (AK (Bm K) (pv 0) AC (λ_ _=>rfl)) (AA (pv 4) AD))) AD)) (A5 6 DU) (AB (AW 7 DU (AS hr G_35 T.m_35 (AA (pv 6) (AA (AK (Bm K) (pv 0) AC (λ_ _=>rfl)) (AA (pv 4) AD)))))
  (AB (AW 8 DU AC)
  (AB (Ay PassesOwn.never rfl (Ar rfl T.z_range (AA (pv 1) AD)) (A5 9 DU) (AB (AW 8 DU (AH BB (pv 8) (AK (Bm K) (pv 0) AC (λ_ _=>rfl))))
  (AF (Ah (PW.pt (FY (AM OE (pv 3) (pv 9) (AQ _)) (EF (AM DJ (pv 9) (AH Ac (pv 3) (pv 4)) (AQ _))))) (AF (AW 8 DU (AH Ac (pv 8) (AK (Cc K) (pv 7) (AH Am (pv 9) (pv 3)) (λ_ _=>rfl))))) AV))))
  (AF (A6 (P4 K (pv 5) (AA (AK (Bm K) (AK (Bm K) (pv 0) AC (λ_ _=>rfl)) (pv 8) (λ_ _=>rfl)) AD))))))))
  (AF (AO (Aw (AA (pv 5) (AA (pv 4) AD))))))))))),?_⟩
 refine BV.el ok.v λtb h1 h2=>?_;have g2:=ok.g2;have g9:=ok.g9;have hl:=ok.len;have m8:=ok.m8;have m1:=ok.m1;have sz:=ok.sz;obtain⟨l,el⟩:∃l,((List.range m).filter λj=>A1 g a7 (g^(m-1-j)))=l:=⟨_,rfl⟩;obtain⟨f0,f1⟩:=Nu g2 hl fw el
 have lm:l.length<=m:=by rw[<-el];exact YG (Ye ..) (by rw[YF];exact Xi _)
 refine Ap λN hN=>?_;refine⟨_,rfl,_,rfl,by lia,by lia,λD hD=>?_⟩;rw[Xo];refine CA (n:=m) (λi ad Hx=>ad=(((List.range i).filter λj=>A1 g a7 (g^(m-1-j))).map λj:Nat=>(j:Int)).map V.int/\AG H Hx/\Hx D=some (.lst ad)) ⟨rfl,AG.new hD _,AE⟩ ?_ ?_
 ·refine F1 ?_;rintro i _ hGo ad Hx hi ⟨rfl,ex,hDx⟩;refine hGo _ _ ?_;walk_at "";rw[YJ];refine⟨r,g,lo,a7,m,i,rfl,g2,g9,ok.v.same ex,hl,hi,m8,sz,A1 g a7 (g^(m-1-i)),rfl,?_⟩;rw[Yb,Yj]
  by_cases z:A1 g a7 (g^(m-1-i))=true
  ·rw[qF z,HK (p:=λj=>A1 g a7 (g^(m-1-j))) z,Xp,Xp];refine⟨hDx,?_,rfl,ex.into hD,AE⟩;rw[Xf,Xf];have:=Ye (λj=>A1 g a7 (g^(m-1-j))) (List.range i);rw[YF]at this;exact Ab (by lia)
  ·rw[qE z,GF (p:=λj=>A1 g a7 (g^(m-1-j))) (by cases y:A1 g a7 (g^(m-1-i));rfl;exact qG y z),X6];exact⟨rfl,ex,hDx⟩
 rintro ad H1 ⟨rfl,e1,hD1⟩;rw[el]at hD1;refine hN _ _ ?_;clear hN N el;refine Ap λN hN=>?_;walk_at "";refine hN _ _ ?_;clear hN N;refine Ap λN hN=>?_;walk_at "";refine hN _ _ ?_;clear hN N;refine CF (λσ HX=>∃(lw:Nat),σ=[some (.ref r),some (.int ((m:Nat):Int)),some (.ref D),some (.int ((lw:Nat):Int)),some (.int ((mf:Nat):Int)),none,none,none,none,none]/\AG H HX/\tf=Dd g lo a7 m (lo+((lw:Nat):Int)) mf/\mf<=8/\g^mf<=256/\lw<m) (λN hN=>?_) ?_
 ·walk_at "";refine⟨X4 _,λp hp=>?_⟩;have e2:=AG.new hp (.lst []);have hD2:=e2 _ _ hD1;have eH:=e1.trans e2;have gg:g^2<=256:=by have:=ZT g9 g9 (show (0:Int)<=g by lia) (by decide);rw[show (2:Nat)=0+1+1 from rfl,YH,YH,Ya,ZI];lia
  refine⟨_,Af.of hD2,[],Af.of AE,?_⟩
  by_cases z:l=[]
  ·rw[qE (by rw[z];exact λy=>y rfl)];obtain⟨rfl,rfl⟩:=f0 z;exact hN _ _ ⟨0,rfl,eH,by rw[show lo+((0:Nat):Int)=lo by lia],by decide,gg,m1⟩
  ·rw[qF (λy=>z (Zl.mp y))];obtain⟨a,b,c,d⟩:=f1 z;have l0:0<l.length:=ZQ.mpr z;refine (C0 (Af.of hD2) (BF (z:=0) (by decide) (by rw[Xf];exact l0)) (C0 (Af.of hD2) (Fo (by rw[Xf];exact l0)) ⟨_,rfl,_,rfl,hN _ _ ?_⟩));rw[Xf,Bi (show l.length-1<l.length by lia),show Int.toNat 0=0 from rfl,Bi l0];refine⟨l.getD 0 0,?_,eH,b,by lia,?_,by lia⟩
   ·rw[show (if ((l.getD (l.length-1) 0:Nat):Int)-((l.getD 0 0:Nat):Int)+1>2 then ((l.getD (l.length-1) 0:Nat):Int)-((l.getD 0 0:Nat):Int)+1 else 2)=((mf:Nat):Int) by rw[a];split<;>lia]
   ·by_cases y:mf=2
    ·rw[y];exact gg
    ·have:=By g2 (show mf<=m by lia);lia
 rintro _ hGo σ H2 ⟨lw,rfl,e2,et,mf8,sz2,lwm⟩;refine hGo _ _ ?_;refine Ap λN hN=>?_;walk_at "";refine⟨X4 _,λDT hT=>hN _ _ ?_⟩;clear hN N;have hTf:H DT=none:=e2.free hT;have e3:=e2.trans (AG.new hT (.lst []));have hT3:AT H2 DT (.lst []) DT=some (.lst []):=AE;generalize AT H2 DT (.lst [])=H3 at e3 hT3⊢;have gp:=RW.Ao g2 mf;refine CF (λσ HX=>(∃x6 x7 x8 x9,σ=[some (.ref r),some (.int ((m:Nat):Int)),some (.ref D),some (.int ((lw:Nat):Int)),some (.int ((mf:Nat):Int)),some (.ref DT),x6,x7,x8,x9])/\AG H HX/\HX DT=some (.lst (tf.map V.int))) (λN hN=>?_) ?_
 ·refine⟨_,rfl,r,_,0,_,rfl,rfl,Aa.of (e3 _ _ h1),rfl,_,rfl,g,_,rfl,g2,g9,by lia,by lia,_,rfl,by rw[Xo];lia,by rw[Xo];lia,?_⟩;rw[Xo];refine BP (n:=(g^mf).toNat) (λi σ HX=>(∃x6 x7 x8 x9,σ=[some (.ref r),some (.int ((m:Nat):Int)),some (.ref D),some (.int ((lw:Nat):Int)),some (.int ((mf:Nat):Int)),some (.ref DT),x6,x7,x8,x9])/\AG H HX/\HX DT=some (.lst (((List.range i).map λn:Nat=>a7.getD (BM g (GA (BD g (n:Int) mf) (lo-(lo+((lw:Nat):Int))) m)).toNat 0).map V.int))) ⟨⟨none,none,none,none,rfl⟩,e3,hT3⟩ ?_ ?_
  ·refine Dn ?_;rintro _ _ i _ hGo σ HX hi ⟨⟨x6,x7,x8,x9,rfl⟩,eX,hX⟩;refine hGo _ _ ?_;refine Ap λN hN=>?_;walk_at "";refine (CQ (Aa.of (eX _ _ h1)) rfl ⟨_,g,_,rfl,g2,g9,by lia,by lia,λpw H4 n4=>hN _ _ ?_⟩);clear hN N;rw[Xo,YJ]at n4;refine Ap λN hN=>?_;walk_at "";refine hN _ _ ?_;clear hN N;have hw4:=n4.2.2;have hX4:=n4.1 _ _ hX;have e4:=eX.trans n4.1;have wl:=CB g (i:Int) mf;have wb:=D4 g2 (i:Int) mf;obtain⟨ws,hws⟩:∃ws,ws=BD g (i:Int) mf:=⟨_,rfl⟩;rw[<-hws]at wl wb hw4;have Wl:=CH ws (lo-(lo+((lw:Nat):Int))) m;have Wb:=Ep g2 wb (lo-(lo+((lw:Nat):Int))) m;have nb:=DG g2 Wb;rw[Wl,<-hl]at nb;have gj:∀j,j<m->(GA ws (lo-(lo+((lw:Nat):Int))) m)[j]?=some (sn ws ((j:Int)-(lw:Int))):=λj hj=>by unfold GA;rw[Xl,Zk hj];show some (sn ws _)=_;rw[show lo-(lo+((lw:Nat):Int))+(j:Int)=(j:Int)-(lw:Int) by lia]
   obtain⟨W,hW⟩:∃W,W=GA ws (lo-(lo+((lw:Nat):Int))) m:=⟨_,rfl⟩;rw[<-hW]at Wl Wb nb;simp only[<-hW]at gj;refine CF (λσ HX=>(∃x9,σ=[some (.ref r),some (.int ((m:Nat):Int)),some (.ref D),some (.int ((lw:Nat):Int)),some (.int ((mf:Nat):Int)),some (.ref DT),some (.int (0+(i:Int))),some (.ref pw),some (.int (BM g W)),x9])/\HX=H4) (λN hN=>?_) ?_
   ·refine⟨_,rfl,_,rfl,by lia,by lia,?_⟩;rw[Xo];refine BP (n:=m) (λj σ HX=>(∃x9,σ=[some (.ref r),some (.int ((m:Nat):Int)),some (.ref D),some (.int ((lw:Nat):Int)),some (.int ((mf:Nat):Int)),some (.ref DT),some (.int (0+(i:Int))),some (.ref pw),some (.int (BM g (W.take j))),x9])/\HX=H4) ⟨⟨_,rfl⟩,rfl⟩ ?_ ?_
    ·refine Dn ?_;rintro _ _ j _ hGo σ HY hj ⟨⟨x9,rfl⟩,rfl⟩;refine hGo _ _ ?_;walk_at "";have gJ:=gj j hj;refine (CQ (Aa.of (e4 _ _ h1)) rfl ⟨_,rfl,.inr ⟨by lia,by lia⟩,?_⟩)
     by_cases a:((lw:Nat):Int)<=0+(j:Int)
     ·rw[qF a]
      by_cases b:0+(j:Int)<((lw:Nat):Int)+((mf:Nat):Int)
      ·rw[qF b];refine (C0 (Af.of hw4) (BF (by lia) (by lia)) ⟨_,rfl,?_,⟨_,rfl⟩,rfl⟩);unfold sn at gJ;rw[qE (by lia)]at gJ;rw[Dx gJ,YJ]
      ·rw[qE b];unfold sn at gJ;rw[qF (by lia)]at gJ;exact⟨by rw[Dx gJ,ZA],⟨_,rfl⟩,rfl⟩
     ·rw[qE a];unfold sn at gJ;rw[qF (by lia)]at gJ;exact⟨by rw[Dx gJ,ZA],⟨_,rfl⟩,rfl⟩
    ·rintro σ HY ⟨⟨x9,rfl⟩,rfl⟩;rw[YX (show W.length<=m by lia)];exact hN _ _ ⟨⟨_,rfl⟩,rfl⟩
   rintro _ hGo σ HY ⟨⟨x9,rfl⟩,rfl⟩;refine hGo _ _ ?_;walk_at "";refine⟨.inl ⟨_,Af.of hX4⟩,CQ (Aa.of (e4 _ _ h1)) rfl (CQ (Aa.of (e4 _ _ h2)) (BF nb.1 (by lia)) ⟨_,hX4,?_,⟨_,rfl⟩,e4.into hTf,?_⟩)⟩
   ·rw[Xf,Xf,YF];exact Ab (by lia)
   ·rw[AE,Bc,Xp,<-hws,<-hW];rfl
  ·rintro σ HX ⟨⟨x6,x7,x8,x9,rfl⟩,eX,hX⟩;exact hN _ _ ⟨⟨_,_,_,_,rfl⟩,eX,by rw[et];exact hX⟩
 rintro _ hGo σ H6 ⟨⟨x6,x7,x8,x9,rfl⟩,e6,h6⟩;refine hGo _ _ ?_;walk_at "";refine⟨by decide,λp hp=>?_⟩;have f6:=AG.new hp (.lst [.ref DT,.int ((mf:Nat):Int)]);exact q p DT _ (e6.trans f6) AE (f6 _ _ h6)
theorem Lq:AL ["_law_xs","_law_low_here","_law_signs","_law_many","_law_table","_law_k","_law_word_here","_law_amid"] ["_law_xs","_law_low_here"] (AI W6):=B6
theorem XN(T:B5 K mg t)(G_14:Ak P w K mg base 1 t.f_14 ["_law_signs","_law_many"] (Ce))(G_35:Ak P w K mg base 1 t.f_35 ["_law_number","_law_signs","_law_many"] (EK)):Ak P w K mg base 2 t.f_1 ["_law_xs","_law_low_here"] (F3 K):=by
 refine Aj T.d_1 Lq λvs H Q E h=>?_;obtain⟨p,lo,l,rfl,hS,hl,lb,q⟩:=h;refine⟨rfl,λae A outer s hr=>?_⟩
 refine⟨_,(AB (AW 2 Lq (AH Ac AC (AH Ad (AK (Cc K) (pv 0) AC (λ_ _=>rfl)) AC)))
  (AB (AW 3 Lq (AH Ac (AK (Cc K) (Aw (AN (AN (AN (AN (AN AD)))))) (AH Am (pv 2) AC) (λ_ _=>rfl)) (AH Ad (AK (Cc K) (pv 0) AC (λ_ _=>rfl)) (AK (Cc K) (Aw (AN (AN (AN (AN (AN AD)))))) (AH Am (pv 2) AC) (λ_ _=>rfl)))))
  (AB (AW 4 Lq (Aw AD))
  (AB (Ay PassesOwn.never rfl (Ar rfl T.z_range (AA (AS hr G_14 T.m_14 (AA (pv 2) (AA (pv 3) AD))) AD)) (A5 5 Lq) (AB (AW 6 Lq (AS hr G_35 T.m_35 (AA (pv 5) (AA (pv 2) (AA (pv 3) AD)))))
  (AB (AW 7 Lq (AH BB (AK (Cc K) (pv 6) (AH Ac AC (AH Ad (AK (Cc K) (pv 0) AC (λ_ _=>rfl)) (AH Am (pv 3) AC))) (λ_ _=>rfl)) (AK (Cc K) (pv 6) (AH Ac AC (AH Ad (AK (Cc K) (pv 0) AC (λ_ _=>rfl)) (AH Am (pv 3) AC))) (λ_ _=>rfl))))
  (AF (A6 (P4 K (pv 4) (AA (AH Ad (AH Ac (AH Ac (AK (Cc K) (pv 6) AC (λ_ _=>rfl)) (AH BB (AK (Cc K) (pv 6) (Jm Gi AC) (λ_ _=>rfl)) (AH Am (pv 2) AC))) (pv 7)) (pv 2)) AD)))))))
  (AF (AO (BI (AA (pv 2) (AA (pv 1) (AA (Bs CG rfl T.z_tuple ZR (AA (pv 4) AD)) AD)))))))))),?_⟩
 refine Ap λN hN=>?_;walk_at "";refine⟨p,_,_,_,rfl,rfl,hS,BF (by lia) (by lia),_,rfl,by decide,hN _ _ ?_⟩;clear hN N;obtain⟨g,hg⟩:∃g:Int,g=2+l.getD (Int.toNat 0) 0%5:=⟨_,rfl⟩;rw[<-hg];have g2:2<=g:=by lia
 have g6:g<=6:=by lia
 clear hg;refine Ap λN hN=>?_;walk_at "";refine⟨by decide,λp1 hp1=>?_⟩;have f1:=AG.new hp1 (.lst [.int 5,.int 4,.int 3,.int 3,.int 3]);obtain⟨b0,m,hm,m3,m8,gm,big⟩:=Rh (x:=l.getD (Int.toNat 1) 0) g2 g6;refine (C0 (Af.of AE) (BF (ns:=[5,4,3,3,3]) (by lia) (by show (g-2).toNat<5;lia)) ⟨p,_,_,_,rfl,rfl,f1.seq hS,BF (by lia) (by rw[hl];decide),by decide,λp2 hp2=>?_⟩);have f2:=AG.new hp2 (.lst [.int 4,.int 2,.int 2,.int 1,.int 1]);refine (C0 (Af.of AE) (BF (ns:=[4,2,2,1,1]) (by lia) (by show (g-2).toNat<5;lia)) ⟨_,rfl,_,rfl,b0,_,rfl,hN _ _ ?_⟩);rw[<-hm];clear hN N;clear hm b0;have e2:=f1.trans f2;generalize AT (AT H p1 _) p2 _=H2 at e2⊢;refine Ap λN hN=>?_;walk_at "";refine⟨by decide,λD hD=>hN _ _ ?_⟩;clear hN N;have hDf:H D=none:=e2.free hD;have e3:=e2.trans (AG.new hD (.lst []));have hD3:AT H2 D (.lst []) D=some (.lst []):=AE;generalize AT H2 D (.lst [])=H3 at e3 hD3⊢;clear e2;have gp:=RW.Ao g2 m;obtain⟨a,ha⟩:∃a:Nat,((a:Nat):Int)=1+l.getD (Int.toNat 2) 0%((m:Int)-2):=⟨(1+l.getD (Int.toNat 2) 0%((m:Int)-2)).toNat,by have:=Y4 (l.getD (Int.toNat 2) 0) (show (m:Int)-2≠0 by lia);lia⟩;obtain⟨b,hb⟩:∃b:Nat,((b:Nat):Int)=1+l.getD (Int.toNat 3) 0%((m:Int)-2):=⟨(1+l.getD (Int.toNat 3) 0%((m:Int)-2)).toNat,by have:=Y4 (l.getD (Int.toNat 3) 0) (show (m:Int)-2≠0 by lia);lia⟩
 have ha1:1<=a/\a+1<m:=by have:=Y4 (l.getD (Int.toNat 2) 0) (show (m:Int)-2≠0 by lia);have:=Y7 (l.getD (Int.toNat 2) 0) (show 0<(m:Int)-2 by lia);lia
 have hb1:1<=b/\b+1<m:=by have:=Y4 (l.getD (Int.toNat 3) 0) (show (m:Int)-2≠0 by lia);have:=Y7 (l.getD (Int.toNat 3) 0) (show 0<(m:Int)-2 by lia);lia
 refine CF (λσ HX=>(∃x5 x6 x7,σ=[some (.ref p),some (.int lo),some (.int g),some (.int ((m:Nat):Int)),some (.ref D),x5,x6,x7])/\AG H HX/\HX D=some (.lst ((QR g m a b).map V.int))) (λN hN=>?_) ?_
 ·refine⟨_,rfl,_,rfl,g,_,rfl,g2,by lia,by lia,by lia,?_⟩;refine⟨_,rfl,by rw[Xo];lia,by rw[Xo];lia,?_⟩;rw[Xo];refine BP (n:=(g^m).toNat) (λi σ HX=>(∃x5 x6 x7,σ=[some (.ref p),some (.int lo),some (.int g),some (.int ((m:Nat):Int)),some (.ref D),x5,x6,x7])/\AG H HX/\HX D=some (.lst (((List.range i).map λk:Nat=>QQ g a b (BD g (k:Int) m)).map V.int))) ⟨⟨none,none,none,rfl⟩,e3,hD3⟩ ?_ λσ HX z=>hN _ _ z
  refine Dn ?_;rintro _ _ i _ hGo σ HX hi ⟨⟨x5,x6,x7,rfl⟩,eX,hX⟩;refine hGo _ _ ?_;refine Ap λN hN=>?_;walk_at "";refine⟨_,g,_,rfl,g2,by lia,by lia,by lia,λpw H4 n4=>hN _ _ ?_⟩;clear hN N;rw[Xo]at n4;refine Ap λN hN=>?_;walk_at "";have hS4:=(eX.trans n4.1).seq hS;have wl:=CB g (0+(i:Int)) m;have wb:=D4 g2 (0+(i:Int)) m;have hw4:=n4.2.2;refine⟨p,_,_,_,rfl,rfl,hS4,BF (by lia) (by rw[hl];decide),_,rfl,by lia,?_⟩;rw[<-ha];refine (C0 (Af.of hw4) (D0 (by rw[wl];lia)) ⟨p,_,_,_,rfl,rfl,hS4,BF (by lia) (by rw[hl];decide),_,rfl,by lia,?_⟩);rw[<-hb];have ga:=FC g2 wb a;refine (C0 (Af.of hw4) (D0 (by rw[wl];lia)) ⟨_,rfl,_,rfl,.inl (by lia),hN _ _ ?_⟩);clear hN N;have hD4:=n4.1 _ _ hX;walk_at "";refine⟨.inl ⟨_,Af.of hD4⟩,C0 (Af.of hw4) (BF (by lia) (by rw[wl];show 0<m;lia)) (C0 (Af.of hw4) (Fo (by lia)) ⟨_,rfl,.inr (by lia),_,rfl,by lia,_,hD4,?_,⟨_,rfl⟩,(eX.trans n4.1).into hDf,?_⟩)⟩
  ·rw[Xf,Xf,YF];exact Ab (by lia)
  ·rw[AE,Yb,Xp,Xp];rw[YJ];rfl
 rintro _ hGo σ H6 ⟨⟨x5,x6,x7,rfl⟩,e6,h6⟩;refine hGo _ _ ?_;walk_at "";refine⟨_,.inl ⟨Af.of h6,λl9 hl9=>⟨by decide,λp9 hp9=>?_⟩⟩⟩;have f8:=AG.new hl9 (.tup ((QR g m a b).map V.int));have f9:=AG.new hp9 (.tup [.int g,.int lo,.ref l9]);have en:=P7 g2 ha1.1 ha1.2 hb1.1 hb1.2;have le:=Mt g2 m a b;exact q p9 g _ m _ ((e6.trans f8).trans f9) ⟨⟨l9,AE,f9 _ _ AE⟩,g2,by lia,by lia,m8,le,gm,Ud g2 _ _ _⟩ (HI g2 le le (λ_ _=>rfl) (by lia) en.1 en.2) big
theorem Dp:AL ["_law_table","_law_signs","_law_size","_law_many","_law_words","_law_k","_law_steps_here","_law_some","_law_left","_law_right","_law_begin","_law_end"] ["_law_table","_law_signs","_law_size"] (AI Ua):=B6
theorem WQ(T:B5 K mg t)(G_14:Ak P w K mg base 1 t.f_14 ["_law_signs","_law_many"] (Ce)):Ak P w K mg base 2 t.f_16 ["_law_table","_law_signs","_law_size"] (F5 K):=by
 refine Aj T.d_16 Dp λvs H Q E h=>?_;obtain⟨D,g,tf,mf,rfl,g2,g9,mf2,mf8,tl,sz,tb,hD,q⟩:=h;refine⟨rfl,λae A outer s hr=>?_⟩
 refine⟨_,(AB (AW 3 Dp (AS hr G_14 T.m_14 (AA (pv 1) (AA (AH Am (pv 2) AC) AD))))
  (AB (AW 4 Dp Os)
  (AB (Ay PassesOwn.never rfl (Ar rfl T.z_range (AA (Ai (Jj K) rfl T.z_len YR (AA (pv 0) AD)) AD)) (A5 5 Dp) (AF (A6 (P4 K (TQ (K:=K) rfl Zr Yu ZW LU (pv 4) (AA (AK (Cc K) (pv 0) (pv 5) (λ_ _=>rfl)) (AA (Aw AD) AD))) (AA (pv 5) AD)))))
  (AB (AW 6 Dp (Aw AD))
  (AB (Ay PassesOwn.never rfl (O8 (RD (K:=K) rfl Zr PySem.F.slot_dict_values PySem.F.type_dict_values NZ (pv 4))) (A5 7 Dp) (AF (Ay PassesOwn.never rfl (P3 K (pv 7)) (A5 8 Dp) (AF (Ay PassesOwn.never rfl (P3 K (pv 7)) (A5 9 Dp) (AB (AW 10 Dp (BI (AA (AH A7 (pv 8) (pv 1)) (AA (AH A7 (pv 9) (pv 1)) AD))))
  (AB (AW 11 Dp (BI (AA (AH Ad (pv 8) (pv 3)) (AA (AH Ad (pv 9) (pv 3)) AD))))
  (AB (Ah (AM BL (AK (Bm K) (pv 10) AC (λ_ _=>rfl)) (AK (Bm K) (pv 10) AC (λ_ _=>rfl)) (AQ _)) (AF (AW 10 Dp (BI (AN (AN AD))))) AV)
  (AB (Ah (AM BL (AK (Bm K) (pv 11) AC (λ_ _=>rfl)) (AK (Bm K) (pv 11) AC (λ_ _=>rfl)) (AQ _)) (AF (AW 11 Dp (BI (AN (AN AD))))) AV)
  (AF (Ah (PW.pt (CI (AM (Ga (K:=K) rfl hr.units) (pv 10) (BI (AN (AN AD))) (AQ _)) (Cm (AM (Ga (K:=K) rfl hr.units) (pv 11) (BI (AN (AN AD))) (AQ _))))) (AF (A6 (P4 K (pv 6) (AA (BI (AA (pv 10) (AA (pv 11) AD))) AD)))) AV)))))))))))
  (AF (AO (pv 6)))))))),?_⟩
 obtain⟨h,hh⟩:∃h:Nat,h=tf.length/g.toNat:=⟨_,rfl⟩;have hd9:=Bz g2 tl (show 1<=mf by lia);have hm:=Ic g2 tl (show 1<=mf by lia);rw[<-hh]at q hd9 hm;refine Ap λN hN=>?_;walk_at "";refine⟨g,_,rfl,g2,g9,by lia,by lia,hN _ _ ?_⟩;clear hN N;refine Ap λN hN=>?_;walk_at "";intro d hd;refine hN _ _ ?_;clear hN N;have e0:=AG.new hd (.dK []);have d0:AT H d (.dK []) d=some (.dK []):=AE;generalize AT H d (.dK [])=H0 at e0 d0⊢;rw[show ((mf:Int)-1).toNat=mf-1 by lia,<-hd9.1];have hD0:=e0 _ _ hD;have tl2:tf.length<=256:=by lia
 have Al9:∀A:qW,A.Nodup->(∀v∈A,v∈tf)->A.length<=9:=λA nd mem=>by
  have z:=nd.length_le_of_subset (l₂:=(List.range 9).map λk:Nat=>(k:Int)) λv hv=>by have:=tb v (mem v hv);exact Xy.mpr ⟨v.toNat,X1.mpr (by lia),by lia⟩
  rw[Xf,YF]at z;exact z
 have tfm:∀k,k<tf.length->tf.getD k 0∈tf:=λk hk=>by rw[Xk,Xj hk];exact YY _
 refine CF (λσ HX=>(∃x5,σ=[some (.ref D),some (.int g),some (.int ((mf:Nat):Int)),some (.int ((h:Nat):Int)),some (.ref d),x5,none,none,none,none,none,none])/\AG H HX/\∃(A:qW) (ls:List qR),(∀l∈ls,H l=none)/\HX d=some (.dK (Bl A (ls.map V.ref)))/\FU HX ls A (Ji tf tf.length)/\A.Nodup/\(∀v,v∈A↔v∈tf)) (λN hN=>?_) ?_
 ·refine⟨_,rfl,D,_,rfl,.inl (Af.of hD0),_,rfl,by rw[Xf];lia,by rw[Xf];lia,?_⟩;rw[Xf,Xo];refine BP (n:=tf.length) (λi σ HX=>(∃x5,σ=[some (.ref D),some (.int g),some (.int ((mf:Nat):Int)),some (.int ((h:Nat):Int)),some (.ref d),x5,none,none,none,none,none,none])/\AG H HX/\∃(A:qW) (ls:List qR),(∀l∈ls,H l=none)/\HX d=some (.dK (Bl A (ls.map V.ref)))/\FU HX ls A (Ji tf i)/\A.Nodup/\(∀v,v∈A↔∃k,k<i/\tf.getD k 0=v)) ⟨⟨none,rfl⟩,e0,[],[],λ_ z=>qG z X7,d0,FU.nil,Y2,λv=>⟨λz=>qG z X7,λ⟨k,hk,_⟩=>qG hk (aE _)⟩⟩ ?_ ?_
  ·refine Dn ?_;rintro _ _ i _ hGo σ HX hi ⟨⟨x5,rfl⟩,eX,A,ls,ln,dX,gX,nd,mem⟩;refine hGo _ _ ?_;have A9:=Al9 A nd λv hv=>by obtain⟨k,hk,rfl⟩:=(mem v).mp hv;exact tfm k (by lia)
   obtain⟨v,hv⟩:∃v,v=tf.getD i 0:=⟨_,rfl⟩;have st:∀a,Ji tf (i+1) a=if v=a then Ji tf i a++[((i:Nat):Int)] else Ji tf i a:=λa=>by rw[hv];exact Rc tf i a
   walk_at "";rw[YJ];refine⟨.inr (.inr (.inl (.inl ⟨_,dX⟩))),C0 (Af.of (eX _ _ hD)) (D0 hi) ⟨X4 _,λl' hl'=>?_⟩⟩;have f1:=AG.new hl' (.lst []);have nl:=gX.new hl';have h0:=eX.free hl';have lY:AT HX l' (.lst []) l'=some (.lst []):=AE;have eY:=eX.trans f1;have dY:=f1 _ _ dX;have gY:=gX.same f1;generalize AT HX l' (.lst [])=HY at lY eY dY gY⊢;have rl:(Bl A (ls.map V.ref)).length=A.length:=Ig (by rw[Xf];exact gY.n);rw[<-hv];refine⟨_,Sum.inl v,rfl,dY,by rw[rl];exact Ab (by lia),λz hz=>?_,λhz=>?_⟩
   ·have m:v∈A:=by
     by_cases m:v∈A
     ·exact m
     ·rw[EQ m]at hz;cases hz
    obtain⟨j,hj⟩:=YC.mp m;obtain⟨l2,hl2⟩:∃l2,ls[j]?=some l2:=⟨ls[j]'(by rw[gY.n];exact (Xg.mp hj).1),Xj _⟩;rw[Fv nd hj (v:=.ref l2) (by rw[Xl,hl2];rfl)]at hz;cases hz;have h2:=gY.e j _ l2 hj hl2;refine⟨.inl ⟨_,Af.of h2⟩,l2,rfl,_,h2,?_,⟨_,rfl⟩,eY.into (ln l2 (Xq hl2)),A,ls,ln,?_,?_,nd,λa=>?_⟩
    ·unfold Ji;rw[Xf,Xf];have:=Ln tf i v;exact Ab (by lia)
    ·rw[AJ (Bu dY h2 λz=>by cases z)];exact dY
    ·rw[show (Ji tf i v).map V.int++[V.int (i:Int)]=(Ji tf i v++[((i:Nat):Int)]).map V.int by rw[Xp];rfl];exact (gY.push nd hj hl2).congr λa _=>st a
    ·rw[mem]
     exact⟨λ⟨k,h1,h2⟩=>⟨k,by lia,h2⟩,λ⟨k,h1,h2⟩=>by
      by_cases y:k=i
      ·rw[<-mem,<-h2,y,<-hv];exact m
      ·exact⟨k,by lia,h2⟩⟩
   ·have m:v∉A:=λm=>by
     have y:=Pn (a:=v) (vs:=ls.map V.ref) (by rw[Xf];exact gY.n) nd;rw[hz,qH m]at y;cases y
    have hB:Ji tf i v=[]:=by unfold Ji N1;rw[List.filter_eq_nil_iff.mpr λk hk y=>m ((mem v).mpr ⟨k,X1.mp hk,qN y⟩)];rfl
    obtain⟨ln2,w2,g2⟩:=AhI.put ln dY gY lY nl h0 m hB;have ld:l'≠d:=Bu lY dY λz=>by cases z
    have h2:AT HY d (.dK (CV (Bl A (ls.map V.ref)) (Sum.inl v) (.ref l'))) l'=some (.lst []):=by rw[AJ ld];exact lY
    have nd2:(A++[v]).Nodup:=Yh.mpr ⟨nd,Yd.mpr ⟨X7,Y2⟩,λx hx y hy e=>m (by rw[<-Xu.mp hy,<-e];exact hx)⟩;have hj:(A++[v])[A.length]?=some v:=by rw[X9 (Xi _),ZH];rfl
    have hl2:(ls++[l'])[A.length]?=some l':=by rw[<-gY.n,X9 (Xi _),ZH];rfl
    have pu:=(g2.push nd2 hj hl2 (x:=((i:Nat):Int))).congr λa _=>st a
    rw[hB]at pu;refine⟨.inl ⟨_,Af.of h2⟩,_,h2,by decide,⟨_,rfl⟩,(eY.into hd).into h0,A++[v],ls++[l'],ln2,by rw[AJ (Ne.symm ld)];exact w2,pu,nd2,λa=>?_⟩;rw[Xr,Xu,mem];constructor
    ·rintro (⟨k,h1,h2⟩|rfl)
     ·exact⟨k,by lia,h2⟩
     ·exact⟨i,by lia,hv.symm⟩
    ·rintro⟨k,h1,h2⟩
     by_cases y:k=i
     ·exact .inr (by rw[hv,<-h2,y])
     ·exact .inl ⟨k,by lia,h2⟩
  ·rintro σ HX ⟨⟨x5,rfl⟩,eX,A,ls,ln,dX,gX,nd,mem⟩;refine hN _ _ ⟨⟨_,rfl⟩,eX,A,ls,ln,dX,gX,nd,λv=>?_⟩;rw[mem,YC];constructor
   ·rintro⟨k,hk,rfl⟩;exact⟨k,by rw[Xk,Xj hk];rfl⟩
   ·rintro⟨k,hk⟩;exact⟨k,(Xg.mp hk).1,by rw[Xk,hk];rfl⟩
 rintro _ hGo σ H1 ⟨⟨x5,rfl⟩,e1,A,ls,ln,d1,g1,nd,mem⟩;refine hGo _ _ ?_;have Al:=Al9 A nd λv hv=>(mem v).mp hv
 refine Ap λN hN=>?_;walk_at "";refine⟨X4 _,λS hS=>hN _ _ ?_⟩;clear hN N;have e2:=AG.new hS (.lst []);have hSf:=e1.free hS;have Sn:=g1.new hS;have S2:AT H1 S (.lst []) S=some (.lst []):=AE;have d2:=e2 _ _ d1;have g2':=g1.same e2;replace e2:=e1.trans e2;generalize AT H1 S (.lst [])=H2 at e2 S2 d2 g2'⊢;clear e1 d1 g1 hS;refine CF (λσ HX=>(∃x7 x8 x9 x10 x11,σ=[some (.ref D),some (.int g),some (.int ((mf:Nat):Int)),some (.int ((h:Nat):Int)),some (.ref d),x5,some (.ref S),x7,x8,x9,x10,x11])/\AG H HX/\∃ts,HX S=some (.lst (ts.map V.ref))/\Ea K HX ts (Nw g.toNat h tf A A.length)) (λN hN=>?_) ?_
 ·refine⟨_,rfl,.inr (.inr (.inl ⟨rfl,.inl ⟨_,d2⟩⟩)),d,_,rfl,rfl,.inl d2,λp hp=>?_⟩;have ep:=AG.new hp (TY p d);refine⟨p,d,_,rfl,AE,ep _ _ d2,λo=>?_⟩;have dn:d∉ls:=g2'.out λxs z=>by rw[d2]at z;cases z
  have Sd:S≠d:=Bu S2 d2 λz=>by cases z
  obtain⟨U,hU⟩:∃U,U=HO.frz o (.dK (Bl A (ls.map V.ref))):=⟨_,rfl⟩;rw[<-hU];have e3:=(e2.trans ep).into hd (o:=U);have d3:AT (AT H2 p (TY p d)) d U d=some U:=AE;have S3:AT (AT H2 p (TY p d)) d U S=some (.lst []):=by rw[AJ Sd];exact ep _ _ S2
  have g3:=(g2'.same ep).keep dn U;generalize AT (AT H2 p (TY p d)) d U=H3 at e3 d3 S3 g3⊢;clear e2 d2 S2 g2' ep hp;have rl:(Bl A (ls.map V.ref)).length=A.length:=Ig (by rw[Xf];exact g3.n);refine Na (d:=d) (o:=o) (kvs:=Bl A (ls.map V.ref)) (λi σ HX=>(∃x7 x8 x9 x10 x11,σ=[some (.ref D),some (.int g),some (.int ((mf:Nat):Int)),some (.int ((h:Nat):Int)),some (.ref d),x5,some (.ref S),x7,x8,x9,x10,x11])/\AG H HX/\HX d=some U/\FU HX ls A (Ji tf tf.length)/\∃ts,HX S=some (.lst (ts.map V.ref))/\Ea K HX ts (Nw g.toNat h tf A i)) ⟨⟨_,_,_,_,_,rfl⟩,e3,d3,g3,[],S3,.nil⟩ (λi σ HX _ z=>by rw[<-hU];exact z.2.2.1) ?_ ?_
  ·clear e3 d3 S3 g3;rintro i k v σ HX hk ⟨⟨x7,x8,x9,x10,x11,rfl⟩,eX,dX,gX,ts,SX,stX⟩;obtain⟨a,ha,hv,rfl⟩:=RO hk;rw[Xl]at hv;obtain⟨l,hl,rfl⟩:=Xz.mp hv;have i9:i<9:=by have:=(Xg.mp ha).1;lia
   have lX:=gX.e i a l ha hl;have wl:=Ln tf tf.length a;have aL:=Rf g.toNat h tf A 256 tl2 i;unfold Ji at lX;obtain⟨ws,hws⟩:∃ws,ws=N1 tf tf.length a:=⟨_,rfl⟩;rw[<-hws]at lX wl;have lm:l∈ls:=Xq hl;have lS:S≠l:=λz=>Sn (by rw[z];exact lm)
   refine⟨_,rfl,l,rfl,⟨_,Af.of lX⟩,?_⟩;refine Bq (xs:=(ws.map λk:Nat=>(k:Int)).map V.int) (λj σ HY=>(∃x8 x9 x10 x11,σ=[some (.ref D),some (.int g),some (.int ((mf:Nat):Int)),some (.int ((h:Nat):Int)),some (.ref d),x5,some (.ref S),some (.ref l),x8,x9,x10,x11])/\AG H HY/\HY d=some U/\FU HY ls A (Ji tf tf.length)/\HY l=some (.lst ((ws.map λk:Nat=>(k:Int)).map V.int))/\∃ts,HY S=some (.lst (ts.map V.ref))/\Ea K HY ts (Nw g.toNat h tf A i++Nv g.toNat h ws j)) ⟨⟨_,_,_,_,rfl⟩,eX,dX,gX,lX,ts,SX,by rw[show Nv g.toNat h ws 0=[] from rfl,X6];exact stX⟩ (λj σ HY _ z=>Af.of z.2.2.2.2.1) ?_ ?_
   ·clear eX dX gX lX SX stX;rintro j x σ HY hx ⟨⟨x8,x9,x10,x11,rfl⟩,eX,dX,gX,lX,ts,SX,stX⟩;obtain⟨lw,hlw,rfl⟩:∃lw:Nat,ws[j]?=some lw/\x=V.int ((lw:Nat):Int):=by rw[Xl,Xl]at hx;obtain⟨y,h1,h2⟩:=Xz.mp hx;obtain⟨z,h3,h4⟩:=Xz.mp h1;exact⟨z,h3,by rw[<-h2,<-h4]⟩
    have j2:j<256:=by have:=(Xg.mp hlw).1;lia
    have cL:=Ms g.toNat h ws j;refine⟨_,rfl,l,rfl,⟨_,Af.of lX⟩,?_⟩;refine Bq (xs:=(ws.map λk:Nat=>(k:Int)).map V.int) (λk σ HY=>(∃x9 x10 x11,σ=[some (.ref D),some (.int g),some (.int ((mf:Nat):Int)),some (.int ((h:Nat):Int)),some (.ref d),x5,some (.ref S),some (.ref l),some (.int ((lw:Nat):Int)),x9,x10,x11])/\AG H HY/\HY d=some U/\FU HY ls A (Ji tf tf.length)/\HY l=some (.lst ((ws.map λk:Nat=>(k:Int)).map V.int))/\∃ts,HY S=some (.lst (ts.map V.ref))/\Ea K HY ts (Nw g.toNat h tf A i++Nv g.toNat h ws j++QP g.toNat h (ws.take k) lw)) ⟨⟨_,_,_,rfl⟩,eX,dX,gX,lX,ts,SX,by rw[show QP g.toNat h (ws.take 0) lw=[] from rfl,X6];exact stX⟩ (λk σ HY _ z=>Af.of z.2.2.2.2.1) ?_ ?_
    ·clear eX dX gX lX SX stX;rintro k x σ HY hx ⟨⟨x9,x10,x11,rfl⟩,eX,dX,gX,lX,ts,SX,stX⟩;obtain⟨rw',hrw,rfl⟩:∃lw:Nat,ws[k]?=some lw/\x=V.int ((lw:Nat):Int):=by rw[Xl,Xl]at hx;obtain⟨y,h1,h2⟩:=Xz.mp hx;obtain⟨z,h3,h4⟩:=Xz.mp h1;exact⟨z,h3,by rw[<-h2,<-h4]⟩
     have iL:=Mr g.toNat h (ws.take k) lw;rw[P1 hrw];have gn:((g.toNat:Nat):Int)=g:=by lia
     have h1:0<h:=by have:=RW.Ao g2 (mf-1);lia
     refine Ap λN hN=>?_;walk_at "";refine⟨by lia,by lia,by lia,by lia,by decide,λpb hpb=>hN _ _ ?_⟩;clear hN N;have eB:((lw:Nat):Int)/g=((lw/g.toNat:Nat):Int)/\((rw':Nat):Int)/g=((rw'/g.toNat:Nat):Int):=⟨by rw[Yq,gn],by rw[Yq,gn]⟩;rw[eB.1,eB.2];clear eB;refine Fg (λHX=>AG HY HX/\HX pb=some (.tup [V.int ((lw/g.toNat:Nat):Int),V.int ((rw'/g.toNat:Nat):Int)])) ⟨AG.new hpb _,AE⟩ ?_;rintro H1 ⟨e1,hb1⟩;refine Ap λN hN=>?_;walk_at "";refine⟨by lia,by lia,by decide,λpe hpe=>hN _ _ ?_⟩;clear hN N;rw[<-YO,<-YO];refine Fg (λHX=>AG HY HX/\HX pb=some (.tup [V.int ((lw/g.toNat:Nat):Int),V.int ((rw'/g.toNat:Nat):Int)])/\HX pe=some (.tup [V.int ((lw%h:Nat):Int),V.int ((rw'%h:Nat):Int)])) ⟨e1.trans (AG.new hpe _),(AG.new hpe _) _ _ hb1,AE⟩ ?_;clear hb1 hpb hpe e1;rintro H2 ⟨e2,hb2,he2⟩;refine CF (λσ HX=>∃b,σ=[some (.ref D),some (.int g),some (.int ((mf:Nat):Int)),some (.int ((h:Nat):Int)),some (.ref d),x5,some (.ref S),some (.ref l),some (.int ((lw:Nat):Int)),some (.int ((rw':Nat):Int)),some (.ref b),some (.ref pe)]/\AG H2 HX/\Aa K HX b (Ku (C9 (lw/g.toNat,rw'/g.toNat)))) (λN hN=>?_) ?_
     ·walk_at "";refine (CQ (Aa.of hb2) rfl (CQ (Aa.of hb2) rfl ⟨rfl,?_⟩))
      by_cases z:lw/g.toNat=rw'/g.toNat
      ·have nz:=FW.mpr z;rw[qF (show V.int _=V.int _ by rw[z])];exact⟨by decide,λp hp=>hN _ _ ⟨p,rfl,AG.new hp _,by rw[nz];exact Aa.of AE⟩⟩
      ·rw[qE (λy=>z (by have:=V.int.inj y;lia))];exact hN _ _ ⟨pb,rfl,AG.refl _,by unfold C9;rw[qE z];exact Aa.of hb2⟩
     rintro _ hGo σ H3 ⟨b,rfl,e3,sb⟩;refine hGo _ _ ?_;refine CF (λσ HX=>∃c,σ=[some (.ref D),some (.int g),some (.int ((mf:Nat):Int)),some (.int ((h:Nat):Int)),some (.ref d),x5,some (.ref S),some (.ref l),some (.int ((lw:Nat):Int)),some (.int ((rw':Nat):Int)),some (.ref b),some (.ref c)]/\AG H3 HX/\Aa K HX c (Ku (C9 (lw%h,rw'%h)))) (λN hN=>?_) ?_
     ·have he3:=e3 _ _ he2;walk_at "";refine (CQ (Aa.of he3) rfl (CQ (Aa.of he3) rfl ⟨rfl,?_⟩))
      by_cases z:lw%h=rw'%h
      ·have nz:=FW.mpr z;rw[qF (show V.int _=V.int _ by rw[z])];exact⟨by decide,λp hp=>hN _ _ ⟨p,rfl,AG.new hp _,by rw[nz];exact Aa.of AE⟩⟩
      ·rw[qE (λy=>z (by have:=V.int.inj y;lia))];exact hN _ _ ⟨pe,rfl,AG.refl _,by unfold C9;rw[qE z];exact Aa.of he3⟩
     rintro _ hGo σ H4 ⟨c,rfl,e4,sc⟩;refine hGo _ _ ?_;have e24:=(e2.trans e3).trans e4;replace sb:=sb.same' e4;refine VJ (λb HX=>AG H4 HX/\b=Tr (SS g.toNat h lw rw')) (λQ hQ=>?_) ?_ ?_
     ·have ne:∀{HX:Hp} {a p:qR} {x:qX} {R:V->Hp->Prop},Aa K HX a (Ku x)->HX p=some (.tup [V.int 0,V.int 0])->R (.bl !decide (x=(0,0))) HX->TC K (V.ref a) (V.ref p) HX R:=λ{HX a p x R} sa hp r=>by
       have sa':Aa K HX a (([(x.1:Int),(x.2:Int)]).map V.int):=sa;have sp':Aa K HX p (([((0:Nat):Int),((0:Nat):Int)]).map V.int):=Aa.of hp;refine⟨_,_,Eu sa',Eu sp',Db _,Db _,Fm _,?_⟩;have z:=Wx x (0,0);dsimp only at z;rw[z];exact r
      walk_at "";refine⟨by decide,λp hp=>ne (sb.same' (AG.new hp _)) AE ⟨_,rfl,?_⟩⟩
      by_cases z:C9 (lw/g.toNat,rw'/g.toNat)=(0,0)
      ·rw[qH z,qE (by decide)];refine⟨by decide,λp2 hp2=>ne ((sc.same' (AG.new hp _)).same' (AG.new hp2 _)) AE ⟨_,rfl,hQ _ _ ⟨(AG.new hp _).trans (AG.new hp2 _),?_⟩⟩⟩;unfold Tr SS;rw[z,<-decide_not];exact decide_eq_decide.mpr ⟨.inr,λy=>y.resolve_left λx=>x rfl⟩
      ·rw[qI z,qF (by decide)];exact hQ _ _ ⟨AG.new hp _,(qH (.inl z)).symm⟩
     ·rintro HZ ⟨eZ,ok⟩;have eH:=e24.trans eZ;have SZ:=eH _ _ SX;walk_at "";refine⟨.inl ⟨_,Af.of SZ⟩,by decide,λp hp=>⟨_,(AG.new hp _) _ _ SZ,?_,⟨_,rfl⟩,?_,?_,?_,?_,ts++[p],?_,?_⟩⟩
      ·rw[Xf,Paired.length stX,Xt,Xt,sizeLine_eq];have:(ws.take k).length<=256:=by rw[YL];lia
       have:j*ws.length<=256*256:=Yo (by lia) (by lia);lia
      ·exact (eX.trans (eH.trans (AG.new hp _))).into hSf
      ·rw[AJ (Ne.symm Sd)];exact (AG.new hp _) _ _ (eH _ _ dX)
      ·exact ((gX.same eH).same (AG.new hp _)).keep Sn _
      ·rw[AJ (Ne.symm lS)];exact (AG.new hp _) _ _ (eH _ _ lX)
      ·rw[AE,Xp];rfl
      ·rw[<-ok,qF rfl,<-YD];have eP:=AG.new hp (.tup [V.ref b,V.ref c]);exact Paired.app (Ea.updL (eP _ _ SZ) ((stX.same eH).same eP)) (.cons ⟨b,c,by rw[AJ (Bu AE (eP _ _ SZ) λy=>nomatch y)];exact AE,((sb.same' eZ).same' eP).updL (eP _ _ SZ),((sc.same' eZ).same' eP).updL (eP _ _ SZ)⟩ .nil)
     ·rintro HZ ⟨eZ,ok⟩;have eH:=e24.trans eZ;rw[<-ok,qE (by decide),X6];exact⟨⟨_,_,_,rfl⟩,eX.trans eH,eH _ _ dX,gX.same eH,eH _ _ lX,ts,eH _ _ SX,stX.same eH⟩
    ·rintro σ HZ ⟨⟨x9,x10,x11,rfl⟩,eZ,dZ,gZ,lZ,ts,SZ,stZ⟩;rw[Xf,Xf,YK,YD,<-Kf hlw]at stZ;exact⟨⟨_,_,_,_,rfl⟩,eZ,dZ,gZ,lZ,ts,SZ,stZ⟩
   ·rintro σ HY ⟨⟨x8,x9,x10,x11,rfl⟩,eY,dY,gY,lY,ts,SY,stY⟩;rw[Xf,Xf,hws,<-Kg ha]at stY;exact⟨⟨_,_,_,_,_,rfl⟩,eY,dY,gY,ts,SY,stY⟩
  ·rintro σ HX ⟨⟨x7,x8,x9,x10,x11,rfl⟩,eX,dX,gX,ts,SX,stX⟩;rw[rl]at stX;exact hN _ _ ⟨⟨_,_,_,_,_,rfl⟩,eX,ts,SX,stX⟩
 rintro _ hGo σ H6 ⟨⟨x7,x8,x9,x10,x11,rfl⟩,e6,ts,h6,st⟩;refine hGo _ _ ?_;walk_at "";refine q S H6 ts _ e6 hSf h6 st λa b=>Re (by lia) ?_ hm mem a b
 have z:g^(mf-1)=g^(mf-2)*g:=by rw[<-YH];congr 1;lia
 have y:((h%g.toNat:Nat):Int)=0:=by rw[YO,hd9.1,z,YN (by lia)];exact Int.mul_emod_left ..
 lia
theorem Ks:AL ["_law_found","_law_many","_law_pairs","_law_rank","_law_row","_law_pair"] ["_law_found","_law_many"] (AI Ub):=B6
theorem WR(T:B5 K mg t)(G_18:Ak P w K mg base 1 t.f_18 ["_law_found"] (EH)):Ak P w K mg base 2 t.f_15 ["_law_found","_law_many"] (Lp P w K):=by
 refine Aj T.d_15 Ks λvs H Q E h=>?_;obtain⟨p,D,h,f,rfl,h1,h9,⟨hp,ts,hD,pr,ht⟩,q⟩:=h;refine⟨rfl,λae A outer s hr=>?_⟩
 refine⟨_,(AB (Ah (PW.pt (CI (Bp (Bb (KL K rfl T.z_isinstance (pv 0) (Ef rfl T.z_tuple PyProof.Rows.boot_tuple)))) (CI (AM Ed (Ai (Jj K) rfl T.z_len PySem.boot_len (AA (pv 0) AD)) AC (AQ _)) (CI (Bp (Bb (AS hr G_18 T.m_18 (AA (AK (Bm K) (pv 0) AC (λ_ _=>rfl)) AD)))) (Cm (Bp (Bb (KL K rfl T.z_isinstance (AK (Bm K) (pv 0) AC (λ_ _=>rfl)) (Ef rfl T.z_list PyProof.Rows.boot_list))))))))) (AF (AO Cj)) AV)
  (AB (Da (iy:=2) (fv:=[(1,"_law_many")]) (cl:=[("_law_many",_)]) rfl Ks.nd rfl (Or.inl rfl) (Ar rfl T.z_range (AA (AH BB (pv 1) (pv 1)) AD)) (by with_unfolding_all rfl) (by with_unfolding_all rfl) (by decide +kernel) rfl (by decide +kernel) rfl ⟨(by with_unfolding_all rfl),trivial⟩ (by with_unfolding_all rfl) ⟨⟨rfl,rfl,(by with_unfolding_all rfl),rfl⟩,trivial⟩ (by decide) (λ_ _ _ _=>(Em (AM Ed (AH A7 (pv 0) (pv 1)) (AH Ad (pv 0) (pv 1)) (AQ _)))) (λ_ _ _ _=>(BI (AA (AH A7 (pv 0) (pv 1)) (AA (AH Ad (pv 0) (pv 1)) AD)))))
  (AB (Ah (AM Ed (Ai (Jj K) rfl T.z_len YR (AA (AK (Bm K) (pv 0) AC (λ_ _=>rfl)) AD)) (Ai (Jj K) rfl T.z_len YR (AA (pv 2) AD)) (AQ _)) (AF (AO Cj)) AV)
  (AB (AW 3 Ks (O6 (P:=P) (w:=w) (K:=K) rfl rfl rfl (Nat.lt_of_succ_lt (Bw hr)) (BI (AN (AN AD))) (AK (Bm K) (pv 0) AC (λ_ _=>rfl))))
  (AB (Ay PassesOwn.never rfl (Wu K rfl T.z_zip (AA (AK (Bm K) (pv 0) AC (λ_ _=>rfl)) (AA (pv 2) AD))) (VI K 2 rfl (BG (A5 4 Ks) (BG (A5 5 Ks) C1))) (AB (Ah (PW.pt (CI (Bp (Bb (KL K rfl T.z_isinstance (pv 4) (Ef rfl T.z_tuple PyProof.Rows.boot_tuple)))) (CI (AM Ed (Ai (Jj K) rfl T.z_len PySem.boot_len (AA (pv 4) AD)) AC (AQ _)) (CI (Bp (Bb (AS hr G_18 T.m_18 (AA (AK (Bm K) (pv 4) AC (λ_ _=>rfl)) AD)))) (Cm (Bp (Bb (AS hr G_18 T.m_18 (AA (AK (Bm K) (pv 4) AC (λ_ _=>rfl)) AD))))))))) (AF (AO Cj)) AV)
  (AB (Ah (PW.pt (CI (Bp (Bb (AS hr G_18 T.m_18 (AA (AK (Bm K) (pv 4) AC (λ_ _=>rfl)) AD)))) (Cm (AM (Ga (K:=K) rfl hr.units) (BI (AA (AK (Bm K) (pv 4) AC (λ_ _=>rfl)) (AA (AK (Bm K) (pv 4) AC (λ_ _=>rfl)) AD))) (pv 5) (AQ _))))) (AF (AO Cj)) AV)
  (AF (D8 (P:=P) (w:=w) (K:=K) rfl rfl rfl (Bw hr) (pv 3) (pv 5) (AK (Bm K) (pv 4) AC (λ_ _=>rfl)) rfl)))))
  (AF (AO (pv 3)))))))),?_⟩
 have hh9:h*h<=81:=Yo h9 h9;have hb:((h:Nat):Int)*((h:Nat):Int)=((h*h:Nat):Int):=(ZM ..).symm;refine Ap λN hN=>?_;walk_at "";refine⟨_,.of (.tup hp),_,SA,?_⟩;rw[qE (by decide)];refine⟨_,.inr (Aa.of hp),?_⟩;rw[qE (by exact λz=>z rfl)];refine (CQ (Aa.of hp) rfl ⟨.int _,rfl,True.intro,true,rfl,?_⟩);rw[qE (by decide)];refine (CQ (Aa.of hp) rfl ⟨_,.of (.lst hD),_,R9,?_⟩);rw[qE (by decide)];refine hN _ _ ?_;clear hN N;refine Ap λN hN=>?_;refine⟨_,rfl,_,rfl,_,_,rfl,rfl,.inr ⟨by lia,by lia⟩,_,rfl,by rw[hb];lia,by rw[hb];lia,λB hB=>?_⟩;rw[hb,Xo];refine CA (n:=h*h) (λi ad Hx=>∃ps:List qR,ad=ps.map V.ref/\AG H Hx/\Hx B=some (.lst ad)/\Bt K Hx ps (N3 h i)) ⟨[],rfl,AG.new hB _,AE,.nil⟩ ?_ ?_
 ·refine F1 ?_;rintro i _ hGo ad Hx hi ⟨ps,rfl,ex,hBx,pv'⟩;refine hGo _ _ ?_;have ed:(0+(i:Int))/((h:Nat):Int)=((i/h:Nat):Int)/\(0+(i:Int))%((h:Nat):Int)=((i%h:Nat):Int):=⟨by rw[YJ,Yq],by rw[YJ,YO]⟩;walk_at "";rw[ed.1,ed.2];refine⟨by lia,by lia,by lia,?_⟩;rw[P2]
  by_cases z:i/h=i%h
  ·rw[qE (λy=>y (by rw[z])),qF z];exact⟨ps,rfl,ex,hBx,pv'⟩
  ·rw[qF (λy=>z (by lia)),qE z];refine⟨by lia,by lia,by lia,by decide,λa ha=>?_⟩;have ea:=AG.new ha (.tup [V.int ((i/h:Nat):Int),V.int ((i%h:Nat):Int)]);have ba:=ea _ _ hBx;refine⟨ba,?_,ps++[a],by rw[Xp];rfl,(ex.trans ea).into hB,AE,Paired.app (Bt.upd ba (Bt.same ea pv')) (.cons (Aa.updL ba (Aa.of AE)) .nil)⟩;rw[Xf,Paired.length pv'];have:=Jg h i;exact Ab (by lia)
 rintro ad H1 ⟨ps,rfl,e1,hB1,pv'⟩;rw[Lo (by lia)]at pv';refine hN _ _ ?_;clear hN N;have nts:=Paired.length pr;rw[Xf]at nts;have nps:=Paired.length pv';refine Ap λN hN=>?_;walk_at "";refine (CQ (Aa.of (e1 _ _ hp)) rfl ⟨D,rfl,_,.inl (Af.of (e1 _ _ hD)),_,.inl (Af.of hB1),?_⟩);rw[Xf,Xf,nts,nps,qE (λz=>z rfl)];refine hN _ _ ?_;clear hN N;refine Ap λN hN=>?_;intro d u0 hd0 dw0;refine⟨by decide,λb hb=>?_⟩;have e2:=AG.new hd0 u0;have e3:=AG.new hb (.tup [V.int 0,V.int 0]);have hdf:=e1.free hd0;refine⟨_,rfl,p,_,0,_,rfl,rfl,Aa.of (e3 _ _ (e2 _ _ (e1 _ _ hp))),rfl,b,A8 (0,0),rfl,dw0.same e3,Aa.of AE,λu1 dw1=>hN _ _ ?_⟩;clear hN N;have e4:=((e1.trans e2).trans e3).into hdf (o:=u1);have hB4:AT (AT (AT H1 d u0) b (.tup [V.int 0,V.int 0])) d u1 B=some (.lst (ps.map V.ref)):=(dw0.same e3).lst (e3 _ _ (e2 _ _ hB1)) u1;have pv4:Bt K (AT (AT (AT H1 d u0) b (.tup [V.int 0,V.int 0])) d u1) ps (Cz h):=(dw0.same e3).prv (Bt.same e3 (Bt.same e2 pv')) u1;generalize AT (AT (AT H1 d u0) b (.tup [V.int 0,V.int 0])) d u1=H4 at e4 hB4 pv4 dw1⊢;clear dw0 hb e2 e3 hd0;refine CF (λσ HX=>(∃x4 x5,σ=[some (.ref p),some (.int ((h:Nat):Int)),some (.ref B),some (.ref d),x4,x5])/\AG H HX/\DW P w K HX d (Cv h f)) (λN hN=>?_) ?_
 ·refine⟨_,rfl,p,_,1,_,rfl,rfl,Aa.of (e4 _ _ hp),rfl,_,rfl,D,B,_,_,rfl,Af.of (e4 _ _ hD),Af.of hB4,?_⟩;have lA:(Cz h).length<=81:=by rw[<-Lo (by lia)];exact YG (Jg ..) hh9
  refine Q5 (D:={nx:=N,rt:=Q}) (xs:=ts.map V.ref) (ys:=ps.map V.ref) (by rw[Xf,Xf];lia) (λi σ HX=>(∃x4 x5,σ=[some (.ref p),some (.int ((h:Nat):Int)),some (.ref B),some (.ref d),x4,x5])/\AG H HX/\HX B=some (.lst (ps.map V.ref))/\Bt K HX ps (Cz h)/\DW P w K HX d (Ae ((0,0)::(Cz h).take i) (((0,0)::(Cz h).take i).map λp=>V.int ((f p:Nat):Int)))) ⟨⟨none,none,rfl⟩,e4,hB4,pv4,dw1⟩ (λi σ HX _ z=>⟨Af.of (z.2.1 _ _ hD),Af.of z.2.2.1⟩) ?_ ?_
  case refine_2 =>
   rintro σ HX ⟨⟨x4,x5,rfl⟩,eX,BX,pX,dX⟩;rw[Xf,nts,YK]at dX;exact hN _ _ ⟨⟨_,_,rfl⟩,eX,dX⟩
  clear dw1 hB4 pv4 e4 hN;rintro i x y pu σ HX hx hy ⟨⟨x4,x5,rfl⟩,eX,BX,pX,dX⟩ hpu
  obtain⟨ta,hta,rfl⟩:∃ta,ts[i]?=some ta/\V.ref ta=x:=by rw[Xl]at hx;exact Xz.mp hx
  obtain⟨pa,hpa,rfl⟩:∃pa,ps[i]?=some pa/\V.ref pa=y:=by rw[Xl]at hy;exact Xz.mp hy
  obtain⟨ns,hns,sr⟩:=A3 pr hta;obtain⟨a,ha,sp⟩:=A3 pX hpa;rw[Xl,ha]at hns;cases hns;have il:=(Xg.mp ha).1;have eu:=AG.new hpu (.tup [V.ref ta,V.ref pa]);have hu:AT HX pu (.tup [V.ref ta,V.ref pa]) pu=some (.tup [V.ref ta,V.ref pa]):=AE;have eY:=eX.trans eu;have BY:=eu _ _ BX;have pY:=Bt.same eu pX;have dY:=dX.same eu;have sY:=sp.same' eu;generalize AT HX pu (.tup [V.ref ta,V.ref pa])=HY at hu eY BY pY dY sY⊢;have rY:Aa K HY ta [V.int (a.1:Int),V.int (a.2:Int),V.int ((f a:Nat):Int)]:=sr.same' eY;refine⟨pu,_,rfl,Aa.of hu,rfl,_,_,rfl,_,_,rfl,rfl,?_⟩;obtain⟨ys,hty⟩:=ht ta (Xq hta);have tY:=eY _ _ hty;refine Ap λN hN=>?_;walk_at "";refine⟨_,.of (.tup tY),_,SA,?_⟩;rw[qE (by decide)];refine⟨_,.inr rY,?_⟩;rw[qE (by exact λz=>z rfl)];refine⟨ta,_,0,_,rfl,rfl,rY,rfl,.int _,rfl,True.intro,true,rfl,?_⟩;rw[qE (by decide)];refine⟨ta,_,1,_,rfl,rfl,rY,rfl,.int _,rfl,True.intro,true,rfl,?_⟩;rw[qE (by decide)];refine hN _ _ ?_;clear hN N;refine Ap λN hN=>?_;walk_at "";refine⟨ta,_,2,_,rfl,rfl,rY,rfl,.int _,rfl,True.intro,true,rfl,?_⟩;rw[qE (by decide)];refine⟨ta,_,0,_,rfl,rfl,rY,rfl,ta,_,1,_,rfl,rfl,rY,rfl,by decide,λpn hpn=>?_⟩;have en:=AG.new hpn (.tup [V.int (a.1:Int),V.int (a.2:Int)]);have s1:Aa K (AT HY pn (.tup [V.int (a.1:Int),V.int (a.2:Int)])) pn (([(a.1:Int),(a.2:Int)]).map V.int):=Aa.of AE;have s2:Aa K (AT HY pn (.tup [V.int (a.1:Int),V.int (a.2:Int)])) pa (([(a.1:Int),(a.2:Int)]).map V.int):=sY.same' en;refine⟨_,_,Eu s1,Eu s2,Db _,Db _,Fm _,_,rfl,?_⟩;rw[Wx a a,qH rfl,qE (by decide)];refine hN _ _ ?_;clear hN N s1 s2;have eZ:=eY.trans en;have BZ:=en _ _ BY;have pZ:=Bt.same en pY;have dZ:=dY.same en;have sZ:=sY.same' en;have rZ:=rY.same' en;generalize AT HY pn (.tup [V.int (a.1:Int),V.int (a.2:Int)])=HZ at eZ BZ pZ dZ sZ rZ⊢
  have na:a∉(0,0)::(Cz h).take i:=λz=>by
   rcases X3.mp z with y|y
   ·have:=(CP.mp (Xq ha)).2.2;rw[y]at this;exact this rfl
   ·exact Cg (Ex h) ha y
  refine⟨_,rfl,ta,_,2,_,rfl,rfl,rZ,rfl,_,rfl,_,rfl,d,pa,_,A8 a,rfl,rfl,dZ,sZ,?_,λu' dw'=>⟨⟨_,_,rfl⟩,eZ.into hdf,dZ.lst BZ u',dZ.prv pZ u',?_⟩⟩
  ·rw[BK (by rw[Xf]),YT,YL];exact Ab (by lia)
  ·rw[D9 (by rw[Xf]) na]at dw';rw[YM,ha];rw[Yg]at dw';rw[Yg,Xp];exact dw'
 rintro _ hGo σ H6 ⟨⟨x4,x5,rfl⟩,e6,dw⟩;refine hGo _ _ ?_;walk_at "";exact q d H6 e6 hdf dw
theorem Il:AL ["_law_found","_law_table","_law_signs","_law_size","_law_rank","_law_due","_law_pair","_law_begin","_law_end"] ["_law_found","_law_table","_law_signs","_law_size"] (AI Uc):=B6
theorem WS(T:B5 K mg t)(G_15:Ak P w K mg base 2 t.f_15 ["_law_found","_law_many"] (Lp P w K))(G_16:Ak P w K mg base 2 t.f_16 ["_law_table","_law_signs","_law_size"] (F5 K))(G_14:Ak P w K mg base 1 t.f_14 ["_law_signs","_law_many"] (Ce)):Ak P w K mg base 3 t.f_30 ["_law_found","_law_table","_law_signs","_law_size"] (Ht K):=by
 refine Aj T.d_30 Il λvs H Q E h=>?_;obtain⟨p,D,DT,g,tf,mf,M,f,rfl,g2,g9,mf2,mf8,tl,sz,sm,tb,hDT,rv,rk,all,q⟩:=h;refine⟨rfl,λae A outer s hr=>?_⟩
 refine⟨_,(AB (AW 4 Il (AS hr G_15 T.m_15 (AA (pv 0) (AA (AS hr G_14 T.m_14 (AA (pv 2) (AA (AH Am (pv 3) AC) AD))) AD))))
  (AB (Ah (AM OF (pv 4) Cj (AQ _)) (AF (AO Eb)) AV)
  (AB (FZ (i:=5) Il.nd rfl (Or.inl rfl) (FK (P:=P) (w:=w) (K:=K) rfl rfl rfl))
  (AB (Ay PassesOwn.never rfl (DO (P:=P) (w:=w) (K:=K) rfl rfl rfl (pv 4)) (A5 6 Il) (AF (D8 (P:=P) (w:=w) (K:=K) rfl rfl rfl (Bw hr) (pv 5) (pv 6) AC rfl)))
  (AB (Ay PassesOwn.never rfl (P3 K (AS hr G_16 T.m_16 (AA (pv 1) (AA (pv 2) (AA (pv 3) AD))))) (VI K 2 rfl (BG (A5 7 Il) (BG (A5 8 Il) C1))) (AF (D8 (P:=P) (w:=w) (K:=K) rfl rfl rfl (Bw hr) (pv 5) (pv 8) (Ai (IK rfl) rfl T.z_max PyProof.Rows.boot_max (AA (CO (P:=P) (w:=w) (K:=K) rfl rfl rfl (Bw hr) (pv 5) (pv 8) (λ_ _=>rfl)) (AA (AH Ac (CO (P:=P) (w:=w) (K:=K) rfl rfl rfl (Bw hr) (pv 4) (pv 7) (λ_ _=>rfl)) AC) AD))) rfl)))
  (AF (AO (Bv (TV (P:=P) (w:=w) (K:=K) rfl rfl rfl (Bw hr)) (pv 5) (pv 4) (AQ _))))))))),?_⟩
 obtain⟨h,hh⟩:∃h:Nat,h=tf.length/g.toNat:=⟨_,rfl⟩;have hd9:=Bz g2 tl (show 1<=mf by lia);rw[<-hh]at rv rk all hd9;have hp:=RW.Ao g2 (mf-1);have lA:=EC (show h<=9 by lia);have nd:=Cr h;refine Ap λN hN=>?_;walk_at "";refine⟨g,_,rfl,g2,g9,by lia,by lia,?_⟩;rw[show ((mf:Int)-1).toNat=mf-1 by lia,<-hd9.1];refine⟨p,D,h,f,rfl,by lia,by lia,rv,λd H1 e1 hd dw=>hN _ _ ?_⟩;clear hN N rv;refine Ap λN hN=>?_;walk_at "";refine hN _ _ ?_;clear hN N;refine Ap λN hN=>?_;walk_at "";intro d2 u2 hd2 dw2;refine hN _ _ ?_;clear hN N;have hd2f:=e1.free hd2
 have ne:d≠d2:=λe=>by obtain⟨bs,h1,_⟩:=dw;rw[e,hd2]at h1;cases h1
 have e2:=AG.new hd2 u2;replace dw:=dw.same e2;replace e2:=e1.trans e2;generalize AT H1 d2 u2=H2 at dw dw2 e2⊢;clear e1 hd2;refine CF (λσ HX=>(∃x6,σ=[some (.ref p),some (.ref DT),some (.int g),some (.int ((mf:Nat):Int)),some (.ref d),some (.ref d2),x6,none,none])/\AG H HX/\∃u,DR P w K HX d u (Cv h f)/\DW P w K HX d2 (Ae (Ax h) ((Ax h).map λ_=>V.int ((0:Nat):Int)))) (λN hN=>?_) ?_
 ·obtain⟨u,dr⟩:=dw.r;refine⟨_,rfl,d,u,_,rfl,dr,λu' dr'=>?_⟩;have e3:=e2.into hd (o:=u');have dw3:DW P w K (AT H2 d u') d2 []:=by obtain⟨bs,h1,h3,h4⟩:=dw2;have hb:bs=[]:=Zl.mp h3;subst hb;exact⟨[],by rw[AJ (Ne.symm ne)];exact h1,rfl,λp hp=>qG hp X7⟩
  generalize AT H2 d u'=H3 at dr' e3 dw3⊢;clear dw dw2 dr e2;refine IZ (P:=P) (w:=w) (K:=K) (d:=d) (u:=u') (kvs:=Cv h f) (λi σ HX=>(∃x6,σ=[some (.ref p),some (.ref DT),some (.int g),some (.int ((mf:Nat):Int)),some (.ref d),some (.ref d2),x6,none,none])/\AG H HX/\DR P w K HX d u' (Cv h f)/\DW P w K HX d2 (Ae ((Ax h).take i) (((Ax h).take i).map λ_=>V.int ((0:Nat):Int)))) ⟨⟨none,rfl⟩,e3,dr',dw3⟩ (λi σ HX _ z=>z.2.2.1) ?_ ?_
  ·clear e3 dr' dw3;rintro i b k v σ HX hk sb ⟨⟨x6,rfl⟩,eX,drX,dX⟩;obtain⟨a,ha,rfl,rfl⟩:=Kb hk;have il:=(Xg.mp ha).1;refine⟨_,rfl,_,rfl,d2,b,_,A8 a,rfl,rfl,dX,sb,?_,λu3 w3=>⟨⟨_,rfl⟩,eX.into hd2f,drX.updX dX ne u3,?_⟩⟩
   ·rw[BK (by rw[Xf]),YL];exact Ab (by lia)
   ·rw[YM,ha];rw[D9 (by rw[Xf]) (Cg nd ha)]at w3;rw[Xp];exact w3
  ·rintro σ HX ⟨⟨x6,rfl⟩,eX,drX,dX⟩;rw[show (Cv h f).length=(Ax h).length from BK (by rw[Xf]),YK]at dX;exact hN _ _ ⟨⟨_,rfl⟩,eX,u',drX,dX⟩
 rintro _ hGo σ H3 ⟨⟨x6,rfl⟩,e3,u,dr,dw3⟩;refine hGo _ _ ?_;clear dw dw2 e2;refine CF (λσ HX=>(∃x7 x8,σ=[some (.ref p),some (.ref DT),some (.int g),some (.int ((mf:Nat):Int)),some (.ref d),some (.ref d2),x6,x7,x8])/\AG H HX/\DR P w K HX d u (Cv h f)/\DW P w K HX d2 (Cv h f)) (λN hN=>?_) ?_
 ·refine⟨_,rfl,_,rfl,_,rfl,DT,g,tf,mf,rfl,g2,g9,mf2,mf8,tl,sz,tb,e3 _ _ hDT,λS H4 ts L e4 hS0 hS st mem=>?_⟩;rw[<-hh]at mem;have nts:=Paired.length st;refine⟨S,rfl,⟨_,Af.of hS⟩,?_⟩;refine Bq (xs:=ts.map V.ref) (λi σ HX=>(∃x7 x8,σ=[some (.ref p),some (.ref DT),some (.int g),some (.int ((mf:Nat):Int)),some (.ref d),some (.ref d2),x6,x7,x8])/\AG H HX/\DR P w K HX d u (Cv h f)/\HX S=some (.lst (ts.map V.ref))/\Ea K HX ts L/\∃F:qX->Nat,DW P w K HX d2 (Ae (Ax h) ((Ax h).map λp=>V.int ((F p:Nat):Int)))/\(∀p∈Ax h,F p<=f p)/\∀s∈L.take i,f s.1+1<=F s.2) ⟨⟨_,_,rfl⟩,e3.trans e4,dr.same e4,hS,st,λ_=>0,dw3.same e4,λ_ _=>Nat.zero_le _,λ_ z=>qG z (by simp)⟩ (λi σ HX _ z=>Af.of z.2.2.2.1) ?_ ?_
  ·refine Kh ?_;rintro _ _ i x _ hGo σ HX hx ⟨⟨x7,x8,rfl⟩,eX,drX,SX,stX,F,dX,le,ge⟩;refine hGo _ _ ?_;obtain⟨t',ht,rfl⟩:∃t',ts[i]?=some t'/\V.ref t'=x:=by rw[Xl]at hx;exact Xz.mp hx
   obtain⟨s',hs,a,b,z1,z2,z3⟩:=A3 stX ht;have sp:=(mem s'.1 s'.2).mp (Xq hs);obtain⟨m1,m2⟩:=FT (by lia) sp;obtain⟨u5,dr5⟩:=dX.r;refine⟨t',_,rfl,Aa.of z1,rfl,_,_,rfl,_,_,rfl,rfl,?_⟩;walk_at "";refine⟨_,rfl,_,rfl,d2,b,u5,_,A8 s'.2,.int ((F s'.2:Nat):Int),rfl,rfl,dr5,z3,DQ nd m2,?_⟩;refine⟨_,rfl,_,rfl,d,a,u,_,A8 s'.1,.int ((f s'.1:Nat):Int),rfl,rfl,drX,z2,DQ nd m1,_,_,rfl,rfl,_,_,rfl,_,rfl,_,rfl,d2,b,_,A8 s'.2,rfl,rfl,dX,z3,?_,λu' w'=>?_⟩
   ·rw[BK (by rw[Xf])];exact Ab (by lia)
   have lt:=(rk.low s'.2 (all _ m2) s'.1 sp).2;rw[show (if ((f s'.1:Nat):Int)+1>((F s'.2:Nat):Int) then ((f s'.1:Nat):Int)+1 else ((F s'.2:Nat):Int))=((max (F s'.2) (f s'.1+1):Nat):Int) by split<;>lia,Nx m2]at w';refine⟨⟨_,_,rfl⟩,eX.into hd2f,drX.updX dX ne u',dX.lst SX u',stX.updX dX u',_,w',λp hp=>?_,λs hs'=>?_⟩
   ·by_cases e:p=s'.2
    ·rw[qF e,e];have:=le _ m2;lia
    ·rw[qE e];exact le p hp
   ·rw[YM,hs]at hs';rcases Xr.mp hs' with z|z
    ·have:=ge s z
     by_cases e:s.2=s'.2
     ·rw[qF e];rw[e]at this;lia
     ·rw[qE e];exact this
    ·rw[show s=s' from Xu.mp z,qF rfl];lia
  ·rintro σ HX ⟨⟨x7,x8,rfl⟩,eX,drX,SX,stX,F,dX,le,ge⟩;rw[Xf,nts,YK]at ge
   have eq:∀p∈Ax h,F p=f p:=λp hp=>by
    have a:=le p hp;rcases rk.top p (all p hp) with z|⟨q',s,hq,z⟩
    ·lia
    ·have:=ge (q',p) ((mem q' p).mpr s);dsimp only at this;lia
   refine hN _ _ ⟨⟨_,_,rfl⟩,eX,drX,?_⟩;unfold Cv;rw[YW (g:=λp=>V.int ((F p:Nat):Int)) λp hp=>by rw[eq p hp]];exact dX
 rintro _ hGo σ H6 ⟨⟨x7,x8,rfl⟩,e6,dr6,dw6⟩;refine hGo _ _ ?_;walk_at "";obtain⟨u6,dr62⟩:=dw6.r;refine⟨d2,d,u6,u,_,_,rfl,rfl,dr62,dr6,rfl,λz hz=>?_,q H6 e6⟩;unfold Cv at hz;rw[ER]at hz;obtain⟨a,ha,rfl⟩:=Xy.mp hz;exact⟨_,rfl,DQ nd ha⟩
theorem Ri:AL ["_law_one","_law_way","_law_refusal","error"] ["_law_one","_law_way"] (AI W7):=B6
theorem XO(T:B5 K mg t)(G_60:Ak P w K mg base 9 t.f_60 ["one"] (DS K t.c_46))(G_22:Ak P w K mg base 10 t.f_22 ["one"] (FX t.c_46))(G_61:Ak P w K mg base 11 t.f_61 ["one"] (ES t.c_46)):Ak P w K mg base 12 t.f_4 ["_law_one","_law_way"] (Hu):=by
 refine Aj T.d_4 Ri λvs H Q E h=>?_;obtain⟨r,g,lo,a7,m,lf,tf,mf,k,rfl,ok,fw,big,q⟩:=h;refine⟨rfl,λae A outer s hr=>?_⟩
 refine⟨_,(AB (AW 2 Ri Cj)
  (AB (Sy (i:=3) (W:=λσ cls D H'=>σ=[some (.ref r),some (.int k),some .non,none]/\AG H H'/\D=none/\cls=.ref t.c_46) Ri.nd rfl rfl rfl T.m_41 rfl rfl (λ_=>(AF (Ah (AM BL (pv 1) AC (AQ _)) (AF (A6 (CL G_60 (hr.mono (by decide)) rfl T.m_60 Ek (AA (pv 0) AD)))) (AF (Ah (AM BL (pv 1) AC (AQ _)) (AF (A6 (CL G_22 (hr.mono (by decide)) rfl T.m_22 Ek (AA (pv 0) AD)))) (AF (A6 (CL G_61 (hr.mono (by decide)) rfl T.m_61 Ek (AA (pv 0) AD))))))))) (λ_=>(AF (AW 2 Ri (pv 3)))))
  (AB (Ah (PW.pt (CI (AM OF (pv 2) Cj (AQ _)) (CI (Bp (Bb (KL K rfl T.z_isinstance (pv 2) (El rfl T.m_46)))) (Cm (Bp (Bb (KL K rfl T.z_isinstance (pv 2) (Ef rfl T.z_ValueError PyProof.Rows.Boot.«ValueError»)))))))) (AF (AO Eb)) AV)
  (AF (AO (Ej (Io (KL K rfl T.z_isinstance (pv 2) (El rfl T.m_27))) (Ei (Io (KL K rfl T.z_isinstance (pv 2) (El rfl T.m_57)))))))))),?_⟩
 walk_at "";refine⟨?_,?_⟩
 ·have wn:¬Fz g tf mf:=λz=>by have:=z.1;lia
  by_cases k0:k=0
  ·rw[qF k0];exact⟨r,g,lo,a7,m,lf,tf,mf,rfl,ok,fw,λ_ H' e=>⟨e,rfl,rfl⟩,λz=>qG z wn,λz=>qG z (by lia)⟩
  rw[qE k0]
  by_cases k1:k=1
  ·rw[qF k1];exact⟨r,g,lo,a7,m,lf,tf,mf,rfl,ok,fw,λ_ H' e=>⟨e,rfl,rfl⟩,λz=>qG z wn,λz=>qG z (by lia)⟩
  ·rw[qE k1];exact⟨r,g,lo,a7,m,lf,tf,mf,rfl,ok,fw,λ_ H' e=>⟨e,rfl,rfl⟩,wn,λz=>qG z (by lia)⟩
 rintro σ' cls D' H' ⟨rfl,e,rfl,rfl⟩;refine⟨T.em_46_41,λea hea=>⟨_,rfl,_,rfl,?_⟩⟩;rw[qE (λz=>nomatch z)];have he:AT H' ea (Ul ea (.ref t.c_46) none false) ea=some (Ul ea (.ref t.c_46) none false):=AE;refine⟨_,rfl,_,.exc he T.ek_46,_,T.kt_46_46,?_⟩;rw[qE (by decide)];refine⟨_,rfl,_,.exc he T.ek_46,_,T.kt_TooWide_ValueError,?_⟩;rw[qE (by decide)];refine⟨_,rfl,_,.exc he T.ek_46,_,T.kt_46_27,?_⟩;rw[qF rfl];refine⟨_,rfl,_,.exc he T.ek_46,_,T.kt_46_57,?_⟩;exact q _ (e.trans (AG.new hea _))
theorem Eh:AL ["_law_script","_law_low_here","_law_core_here","_law_many","_law_one","_law_table","_law_size","_law_found","_law_held","_law_xs"] ["_law_script"] (AI Rg):=B6
theorem WT{f:qR}{fd:FuncData}(T:B5 K mg t)(F:Bh K "law" "law" Rg f fd)(G_42:Ak P w K mg base 1 t.f_42 ["_law_cell"] (Jh))(G_28:Ak P w K mg base 4 t.f_28 ["_law_first","_law_second","_law_low_here"] (Hr LP t.p_28))(G_34:Ak P w K mg base 2 t.f_34 ["_law_core_here","_law_many","_law_cell"] (Hs))(G_12:Ak P w K mg base 3 t.f_12 ["_law_one","_law_many"] (F4))(G_60:Ak P w K mg base 9 t.f_60 ["one"] (DS K t.c_46))(G_8:Ak P w K mg base 1 t.f_8 ["_law_cell","_law_many"] (Jd))(G_3:Ak P w K mg base 1 t.f_3 ["_law_script","_law_k"] (K3 K))(G_30:Ak P w K mg base 3 t.f_30 ["_law_found","_law_table","_law_signs","_law_size"] (Ht K))(G_4:Ak P w K mg base 12 t.f_4 ["_law_one","_law_way"] (Hu))(G_22:Ak P w K mg base 10 t.f_22 ["one"] (FX t.c_46))(G_61:Ak P w K mg base 11 t.f_61 ["one"] (ES t.c_46))(G_1:Ak P w K mg base 2 t.f_1 ["_law_xs","_law_low_here"] (F3 K)):Fc P w K mg base (IQ P w) 13 f fd ["_law_script"] (JW K [t.p_28]):=by
 refine F.okY Eh λvs H Q E h=>?_;obtain⟨a,ns,rfl,hS,h63,hT,q⟩:=h;refine⟨rfl,λae A outer s hr=>?_⟩
 refine⟨_,(AB (AW 1 Eh (AS hr G_42 T.m_42 (AA (AS hr G_3 T.m_3 (AA (pv 0) (AN AD))) AD)))
  (AB (N7 (AS hr G_28 T.m_28 (AA (AS hr G_3 T.m_3 (AA (pv 0) (AN AD))) (AA (AS hr G_3 T.m_3 (AA (pv 0) (AN AD))) (AA (pv 1) AD)))) (Og rfl (BG (A5 2 Eh) (BG (A5 3 Eh) C1))))
  (AB (AW 4 Eh (AS hr G_34 T.m_34 (AA (pv 2) (AA (pv 3) (AA (AS hr G_3 T.m_3 (AA (pv 0) (AN AD))) AD)))))
  (AB (N7 (AS hr G_12 T.m_12 (AA (pv 2) (AA (pv 3) AD))) (Og rfl (BG (A5 5 Eh) (BG (A5 6 Eh) C1))))
  (AB (AW 7 Eh (AS hr G_60 T.m_60 (AA (pv 4) AD)))
  (AB (Ah (Bp (Bb (AS hr G_30 T.m_30 (AA (pv 7) (AA (pv 5) (AA (AK (Bm K) (pv 2) AC (λ_ _=>rfl)) (AA (pv 6) AD))))))) (AF (AO Eb)) AV)
  (AB (AW 8 Eh (BI (AA (AK (Bm K) (pv 7) AC (λ_ _=>rfl)) (AA (Bs Ix rfl T.z_list PyProof.Rows.boot_list (AA (AK (Bm K) (pv 7) AC (λ_ _=>rfl)) AD)) AD))))
  (AB (A6 (P4 K (AK (Bm K) (pv 7) AC (λ_ _=>rfl)) (AA (BI (AN (AN (AN AD)))) AD)))
  (AB (Ah (PW.pt (CI (AM Np (AS hr G_22 T.m_22 (AA (pv 4) AD)) Eb (AQ _)) (Cm (AM Ly (AS hr G_61 T.m_61 (AA (pv 4) AD)) Cj (AQ _))))) (AF (AO Eb)) AV)
  (AB (AW 9 Eh (AS hr G_8 T.m_8 (AA (AS hr G_3 T.m_3 (AA (pv 0) (AN AD))) (AN AD))))
  (AB (Ah (Bp (Bb (AS hr G_4 T.m_4 (AA (AS hr G_1 T.m_1 (AA (pv 9) (AA (pv 1) AD))) (AA (AH Ad (AK (Cc K) (pv 9) AC (λ_ _=>rfl)) AC) AD))))) (AF (AO Eb)) AV)
  (AF (AO (Ej (Bv (Ma (K:=K) rfl hr.units) (AS hr G_60 T.m_60 (AA (pv 4) AD)) (pv 8) (AQ _)) (Ei (Bv (Ma (K:=K) rfl hr.units) (pv 7) (BI (AA (AK (Bm K) (pv 8) AC (λ_ _=>rfl)) (AA (AH Ky (AK (Bm K) (pv 8) AC (λ_ _=>rfl)) (Aw (AA (BI (AN (AN (AN AD)))) AD))) AD))) (AQ _))))))))))))))))),?_⟩
 have tb0:Cb LP (Tn "_law_core") t.p_28 H:=Cb.start (hT _ (Xu.mpr rfl));refine Ap λN hN=>?_;walk_at "";refine⟨a,ns,2,rfl,hS,h63,_,rfl,λlo=>hN _ _ ?_⟩;clear hN N;refine Ap λN hN=>?_;walk_at "";refine⟨a,ns,0,rfl,hS,h63,a,ns,1,rfl,hS,h63,_,_,lo,rfl,tb0,λp0 r H1 g a7 m d tf mf top e1 tb1 hp0 ok1 core=>?_⟩;refine⟨p0,_,rfl,Af.of hp0,rfl,_,_,rfl,_,_,rfl,rfl,hN _ _ ?_⟩;clear hN N hp0;have hS1:=DB.seq e1 tb0 hS;clear e1 tb1 tb0 hS;have g2:=core.g2;have g9:=core.g9;have sm:=core.sm;refine Ap λN hN=>?_;walk_at "";refine⟨a,ns,3,rfl,hS1,h63,r,g,lo,a7,m,_,rfl,ok1,core.m4,core.m3,λr2 lo2 tab2 M2 H2 e2 ok2 al2=>hN _ _ ?_⟩;clear hN N;have fw2:=core.fr lo lo2 tab2 M2 ok2.len al2.symm;have fw1:=core.fr lo lo a7 m ok1.len (λ_ _=>rfl);have tfb:=Nq g2 ok2.tb fw2
 have nn:¬Fz g tf mf:=λz=>by obtain⟨rk,hr,_⟩:=core.rise;exact z.2 rk hr
 refine Ap λN hN=>?_;walk_at "";refine⟨r,g,lo,a7,m,_,tf,mf,rfl,ok1.same e2,fw1,λp3 DT H3 e3 hp3 hT3=>?_⟩;refine⟨p3,_,rfl,Af.of hp3,rfl,_,_,rfl,_,_,rfl,rfl,hN _ _ ?_⟩;clear hN N hp3;refine Ap λN hN=>?_;walk_at "";refine⟨r2,g,lo2,tab2,M2,_,tf,mf,rfl,ok2.same e3,fw2,λz=>qG z (by lia),λz=>qG z nn,λ_ pf D H4 Mk f e4 _ hD0 rv rk all=>hN _ _ ?_⟩;clear hN N;obtain⟨h1f,ts,hD,pr,_⟩:=id rv;have e14:=(e2.trans e3).trans e4;have ok14:=ok1.same e14;refine BV.el ok14.v λtbl r1 _=>?_;have mf8:mf<=8:=by have:=fw1.le g2 ok1.len ok1.len (λ_ _=>rfl);have:=core.m4;lia
 have szf:g^mf<=256:=by have:=ZT sm g9 (show (0:Int)<=g by lia) (by decide);rw[show mf=mf-1+1 by have:=core.mf2;lia,YH];lia
 refine Ap λN hN=>?_;walk_at "";refine (CQ (Aa.of r1) rfl ⟨pf,D,DT,g,tf,mf,Mk,f,rfl,g2,g9,core.mf2,mf8,core.tfl,szf,sm,tfb,e4 _ _ hT3,rv,rk,all,λH5 e5=>⟨true,rfl,?_⟩⟩);rw[qE (by decide)];refine hN _ _ ?_;clear hN N;have h1f5:=e5 _ _ h1f;have hD5:=e5 _ _ hD;refine Ap λN hN=>?_;walk_at "";refine (CQ (Aa.of h1f5) rfl (CQ (Aa.of h1f5) rfl ⟨D,rfl,_,.inl (Af.of hD5),λD2 hD2=>⟨by decide,λph hph=>hN _ _ ?_⟩⟩));clear hN N;have f1:=AG.new hD2 (.lst (ts.map V.ref));have f2:=AG.new hph (.tup [V.int ((f (0,0):Nat):Int),V.ref D2]);have h26:=f2 _ _ (show AT H5 D2 (.lst (ts.map V.ref)) D2=_ from AE);have hh6:AT (AT H5 D2 (.lst (ts.map V.ref))) ph (.tup [V.int ((f (0,0):Nat):Int),V.ref D2]) ph=_:=AE;have e46:=e5.trans (f1.trans f2);have D2D:D2≠D:=λz=>by rw[z,hD5]at hD2;cases hD2
 generalize AT (AT H5 D2 (.lst (ts.map V.ref))) ph (.tup [V.int ((f (0,0):Nat):Int),V.ref D2])=H6 at f2 h26 hh6 e46⊢;clear f1 f2 hD2 hph;have h1f6:=e46 _ _ h1f;have hD6:=e46 _ _ hD;have pr6:Paired (λt ns=>Aa K H6 t (ns.map V.int)) ts ((Cz (tf.length/g.toNat)).map (Nt f)):=Paired.mapP pr λ_ _ z=>z.same' e46
 have tsl:=Paired.length pr;rw[Xf]at tsl;have hd9:=Bz g2 core.tfl (show 1<=mf by have:=core.mf2;lia);have h9:tf.length/g.toNat<=9:=by lia
 have h0:0<tf.length/g.toNat:=by have:=RW.Ao g2 (mf-1);lia
 have oal:(Cz (tf.length/g.toNat)).length<=81:=by rw[<-Lo h0];exact YG (Jg ..) (Yo h9 h9)
 refine Ap λN hN=>?_;walk_at "";refine (CQ (Aa.of h1f6) rfl ⟨.inl ⟨_,Af.of hD6⟩,by decide,λt0 ht0=>⟨D,rfl,_,(AG.new ht0 _) _ _ hD6,by rw[Xf];exact Ab (by lia),hN _ _ ?_⟩⟩);clear hN N;have ft:=AG.new ht0 (.tup [V.int 0,V.int 0,V.int 0]);have hDt:=ft _ _ hD6;have e37:=((e4.trans e46).trans ft).into hD0 (o:=.lst (ts.map V.ref++[V.ref t0]));have up:∀{x:qR} {o:HO},H6 x=some o->x≠D->AT (AT H6 t0 (.tup [V.int 0,V.int 0,V.int 0])) D (.lst (ts.map V.ref++[V.ref t0])) x=some o:=λ{x o} z n=>by rw[AJ n];exact ft _ _ z
 have h1f7:=up h1f6 (Bu h1f6 hD6 λz=>by cases z);have hh7:=up hh6 (Bu hh6 hD6 λz=>by cases z);have h27:=up h26 D2D;have hD7:AT (AT H6 t0 (.tup [V.int 0,V.int 0,V.int 0])) D (.lst (ts.map V.ref++[V.ref t0])) D=some (.lst ((ts++[t0]).map V.ref)):=by rw[AE,Xp];rfl
 have pr7:Paired (λt ns=>Aa K (AT (AT H6 t0 (.tup [V.int 0,V.int 0,V.int 0])) D (.lst (ts.map V.ref++[V.ref t0]))) t (ns.map V.int)) ts ((Cz (tf.length/g.toNat)).map (Nt f)):=Paired.mapP pr6 λ_ _ z=>(z.same' ft).updL hDt
 have t07:Aa K (AT (AT H6 t0 (.tup [V.int 0,V.int 0,V.int 0])) D (.lst (ts.map V.ref++[V.ref t0]))) t0 (([0,0,0]:qW).map V.int):=(Aa.of (xs:=([0,0,0]:qW).map V.int) AE).updL hDt;generalize AT (AT H6 t0 (.tup [V.int 0,V.int 0,V.int 0])) D (.lst (ts.map V.ref++[V.ref t0]))=H7 at e37 h1f7 hh7 h27 hD7 pr7 t07⊢;clear up hDt ft ht0 pr6 hD6 h1f6 hh6 h26 e46 hD5 h1f5 e5 e14 ok14 r1 rv h1f hD pr;have ok27:=ok2.same (e3.trans e37);refine Ap λN hN=>?_;walk_at "";refine⟨r2,g,lo2,tab2,M2,_,tf,mf,rfl,ok27,fw2,λz=>qG z (by lia),λz=>qG z nn,λ_ H8 e8=>⟨true,rfl,?_⟩⟩;rw[qE (λz=>z rfl)];refine⟨r2,g,lo2,tab2,M2,_,tf,mf,rfl,ok27.same e8,fw2,λz=>qG z (by lia),nn,λ_ H9 e9=>?_⟩
 try dsimp only
 rw[qE (λz=>z rfl)];refine hN _ _ ?_;clear hN N;have e79:=e8.trans e9;clear e8 e9;refine Ap λN hN=>?_;walk_at "";refine⟨a,ns,4,rfl,((e2.trans e3).trans (e37.trans e79)).seq hS1,h63,_,8,rfl,by decide,by decide,λpx Ha ea _ hx3=>hN _ _ ?_⟩;clear hN N;have xl:=Hl (ns.getD 4 0) 8;have xb:=Mn (ns.getD 4 0) 8;rw[show ((8:Int).toNat)=8 from rfl]at hx3;generalize IG (ns.getD 4 0) 8=xs at xl xb hx3;have e7a:=e79.trans ea;refine Ap λN hN=>?_;walk_at "";refine⟨px,lo,xs,rfl,Af.of hx3,xl,xb,λrb gb tabb mb Hb eb okb fwb big=>?_⟩;refine (C0 (Af.of (eb _ _ hx3)) (D0 (k:=4) (by rw[xl];decide)) ⟨_,rfl,by decide,?_⟩);refine⟨rb,gb,lo,tabb,mb,lo,tabb,mb,_,rfl,okb,fwb,big,λHc ec=>⟨true,rfl,?_⟩⟩;rw[qE (by decide)];refine hN _ _ ?_;clear hN N;have e7c:=(e7a.trans eb).trans ec;clear okb fwb big hx3 e7a e79;walk_at "";refine⟨r2,g,lo2,tab2,M2,_,tf,mf,rfl,ok27.same e7c,fw2,λz=>qG z (by lia),λz=>qG z nn,λ_ pf2 D2' Hd Mk2 f' ed _ _ rv2 rk2 all2=>?_⟩;have e7d:=e7c.trans ed;obtain⟨k1,ts2,k2,k3,_⟩:=rv2;have a9:(0,0)∈Ax (tf.length/g.toNat):=Cq.mpr (.inl rfl);have fe:∀p∈Ax (tf.length/g.toNat),f' p=f p:=λp hp=>rk2.uniq rk all2 all p hp
 have re:(Cz (tf.length/g.toNat)).map (Nt f')=(Cz (tf.length/g.toNat)).map (Nt f):=YW λp hp=>by unfold Nt;rw[fe p (Cq.mpr (.inr (CP.mp hp)))]
 rw[re]at k3;rw[fe _ a9]at k1;have hhd:=e7d _ _ hh7;have h2d:=e7d _ _ h27;refine⟨_,_,Gd (Aa.of k1) (Af.of k2) k3,Gd (Aa.of hhd) (Af.of h2d) (Paired.mapP pr7 λ_ _ z=>z.same' e7d),EE _ _,EE _ _,Kk _ _,_,rfl,?_⟩;rw[Kl,qF rfl];refine (CQ (Aa.of hhd) rfl (CQ (Aa.of hhd) rfl ⟨by decide,λt1 ht1=>⟨by decide,λl1 hl1=>?_⟩⟩));have g1:=AG.new ht1 (.tup [V.int 0,V.int 0,V.int 0]);have g3:=AG.new hl1 (.lst [V.ref t1]);have t1e:=g3 _ _ (show AT Hd t1 (.tup [V.int 0,V.int 0,V.int 0]) t1=_ from AE);have l1e:AT (AT Hd t1 (.tup [V.int 0,V.int 0,V.int 0])) l1 (.lst [V.ref t1]) l1=_:=AE;have e7e:=(e7d.trans g1).trans g3;generalize AT (AT Hd t1 (.tup [V.int 0,V.int 0,V.int 0])) l1 (.lst [V.ref t1])=He at t1e l1e e7e⊢;refine JE (e7e _ _ h27) l1e (by rw[Xf,YZ];lia) λl2 Hf ef _ hl2=>?_;refine⟨by decide,λpz hpz=>?_⟩;have gz:=AG.new hpz (.tup [V.int ((f (0,0):Nat):Int),V.ref l2]);have e7z:=(e7e.trans ef).trans gz;have one:Paired (λt ns=>Aa K (AT Hf pz (.tup [V.int ((f (0,0):Nat):Int),V.ref l2])) t (ns.map V.int)) [t1] [[0,0,0]]:=.cons (Aa.of (gz _ _ (ef _ _ t1e))) .nil;have one0:Paired (λt ns=>Aa K (AT Hf pz (.tup [V.int ((f (0,0):Nat):Int),V.ref l2])) t (ns.map V.int)) [t0] [[0,0,0]]:=.cons (t07.same' e7z) .nil;have all7:Paired (λt ns=>Aa K (AT Hf pz (.tup [V.int ((f (0,0):Nat):Int),V.ref l2])) t (ns.map V.int)) ts ((Cz (tf.length/g.toNat)).map (Nt f)):=Paired.mapP pr7 λ_ _ z=>z.same' e7z
 have hl2z:=gz _ _ hl2;rw[show ts.map V.ref++[V.ref t1]=(ts++[t1]).map V.ref by rw[Xp];rfl]at hl2z;refine⟨_,_,Gd (Aa.of (e7z _ _ h1f7)) (Af.of (e7z _ _ hD7)) (Paired.app all7 one0),Gd (Aa.of AE) (Af.of hl2z) (Paired.app all7 one),EE _ _,EE _ _,Kk _ _,?_⟩;rw[Kl];exact q _
end
theorem Ug{l:PySem.W.OpenLaw}{w:qU}{K:qV}{h:Heap}{mg:Str->Option qQ}{fa c_41 c_51 c_57 c_52 c_40 c_46 c_27 f_45 f_47 f_20 f_5 f_39 f_50 f_19 f_25 f_6 f_10 f_62 f_56 f_38 f_59 f_53 f_44 f_2 f_37 f_55 f_49 f_58 f_11 f_21 f_48 f_36 f_26 f_43 f_54 f_23 f_24 f_60 f_22 f_61 f_18 f_3 f_8 f_14 f_35 f_9 f_13 f_32 f_17 f_0 f_29 f_33 f_28 f_42 f_31 f_34 f_7 f_12 f_1 f_16 f_15 f_30 f_4 f_63 k_EVEN cc_28 p_28:qR}{g_LONGEST_TABLE g_MOST_NODES:Tok}(X:K.In h)(G:h.Ns mainGlobals mg)(hfa:mg "law"=some (.ref fa))
  (n_41:PySem.W.nsIn K mainGlobals "RowError"=some (some (.ref c_41)))
  (n_51:PySem.W.nsIn K mainGlobals "NoRule"=some (some (.ref c_51)))
  (n_57:PySem.W.nsIn K mainGlobals "NoRow"=some (some (.ref c_57)))
  (n_52:PySem.W.nsIn K mainGlobals "NoSuch"=some (some (.ref c_52)))
  (n_40:PySem.W.nsIn K mainGlobals "NoWindow"=some (some (.ref c_40)))
  (n_46:PySem.W.nsIn K mainGlobals "TooWide"=some (some (.ref c_46)))
  (n_27:PySem.W.nsIn K mainGlobals "NoWayBack"=some (some (.ref c_27)))
  (n_EVEN:PySem.W.nsIn K mainGlobals "EVEN"=some (some (.ref k_EVEN)))
  (q_EVEN:MZ K k_EVEN [0,0]=true)
  (h_45:AY K "is_whole" Ts f_45)
  (h_47:AY K "is_sign" Tt f_47)
  (h_20:AY K "check_word" Tu f_20)
  (h_5:AY K "check_length" Wy f_5)
  (h_39:AY K "number_of" Tv f_39)
  (h_50:AY K "word_of" Tw f_50)
  (h_19:AY K "check_head" Tx f_19)
  (h_25:AY K "places_for" Tz f_25)
  (h_6:AY K "table_length" Wz f_6)
  (h_10:AY K "check_table" T0 f_10)
  (h_62:AY K "rule" T1 f_62)
  (h_56:AY K "places" T2 f_56)
  (h_38:AY K "next_sign" T3 f_38)
  (h_59:AY K "heads" T4 f_59)
  (h_53:AY K "counts" T5 f_53)
  (h_44:AY K "counting" T6 f_44)
  (h_2:AY K "sign_or_nought" W0 f_2)
  (h_37:AY K "by_window" T7 f_37)
  (h_55:AY K "narrow" T8 f_55)
  (h_49:AY K "widened" T9 f_49)
  (h_58:AY K "frame" UA f_58)
  (h_11:AY K "turned_back" UB f_11)
  (h_21:AY K "most_steps" UC f_21)
  (h_48:AY K "pair_of" UD f_48)
  (h_36:AY K "all_pairs" UE f_36)
  (h_26:AY K "word_pairs" UF f_26)
  (h_43:AY K "begin_of" UG f_43)
  (h_54:AY K "end_of" UH f_54)
  (h_23:AY K "pair_nexts" UI f_23)
  (h_24:AY K "pair_ranks" UJ f_24)
  (h_60:AY K "ranks" UK f_60)
  (h_22:AY K "one_to_one" UL f_22)
  (h_61:AY K "twins" UM f_61)
  (h_18:AY K "_law_whole" UN f_18)
  (h_3:AY K "_law_cell_at" W1 f_3)
  (h_8:AY K "_law_stream" W2 f_8)
  (h_14:AY K "_law_power" UO f_14)
  (h_35:AY K "_law_word" UP f_35)
  (h_9:AY K "_law_tracks" W3 f_9)
  (h_13:AY K "_law_marks" UQ f_13)
  (h_32:AY K "_law_sums" UR f_32)
  (h_17:AY K "_law_three" US f_17)
  (h_0:AY K "_law_steps_down" W4 f_0)
  (h_29:AY K "_law_flip" UT f_29)
  (h_33:AY K "_law_told" UU f_33)
  (h_28:Ml K "_law_core" UV f_28 cc_28 p_28)
  (h_42:AY K "_law_low" UW f_42)
  (h_31:AY K "_law_seen" UX f_31)
  (h_34:AY K "_law_wide" UY f_34)
  (h_7:AY K "_law_counts" W5 f_7)
  (h_12:AY K "_law_frame" UZ f_12)
  (h_1:AY K "_law_not_small" W6 f_1)
  (h_16:AY K "_law_steps" Ua f_16)
  (h_15:AY K "_law_ranks" Ub f_15)
  (h_30:AY K "_law_good" Uc f_30)
  (h_4:AY K "_law_refused" W7 f_4)
  (h_63:AY K "law" Rg f_63)
  (z_len:PySem.W.nsIn K mainGlobals "len"=some none)
  (z_list:PySem.W.nsIn K mainGlobals "list"=some none)
  (z_reversed:PySem.W.nsIn K mainGlobals "reversed"=some none)
  (z_isinstance:PySem.W.nsIn K mainGlobals "isinstance"=some none)
  (z_range:PySem.W.nsIn K mainGlobals "range"=some none)
  (z_int:PySem.W.nsIn K mainGlobals "int"=some none)
  (z_bool:PySem.W.nsIn K mainGlobals "bool"=some none)
  (z_ValueError:PySem.W.nsIn K mainGlobals "ValueError"=some none)
  (z_tuple:PySem.W.nsIn K mainGlobals "tuple"=some none)
  (z_enumerate:PySem.W.nsIn K mainGlobals "enumerate"=some none)
  (z_min:PySem.W.nsIn K mainGlobals "min"=some none)
  (z_max:PySem.W.nsIn K mainGlobals "max"=some none)
  (z_sorted:PySem.W.nsIn K mainGlobals "sorted"=some none)
  (z_all:PySem.W.nsIn K mainGlobals "all"=some none)
  (z_zip:PySem.W.nsIn K mainGlobals "zip"=some none)
  (w_LONGEST_TABLE:PySem.W.nsIn K mainGlobals "LONGEST_TABLE"=some (some (.int 256 g_LONGEST_TABLE)))
  (w_MOST_NODES:PySem.W.nsIn K mainGlobals "MOST_NODES"=some (some (.int 9 g_MOST_NODES)))
  (x_40:PySem.W.excIn K c_40 OO "ValueError.__new__"=true)
  (x_46:PySem.W.excIn K c_46 OO "ValueError.__new__"=true)
  (ci_46:(PySem.W.clsIn K c_46).isSome=true)
  (ga_46:PySem.W.findIn K (.ref c_46) "__getattribute__"=some (some (.builtin "BaseException.__getattribute__")))
  (gn_46:PySem.W.findIn K (.ref c_46) "__getattr__"=some none)
  (ca_46:PySem.W.findIn K (.ref c_46) "__class__"=some (some (.builtin "object.__class__")))
  (sg_46:PySem.W.specialIn K (.builtin "object.__class__") "__get__"=some (some (.builtin "getset_descriptor.__get__")))
  (tk_46:PySem.W.takesIn K (.builtin "object.__class__")=some true)
  (mo_46:PySem.W.mroIn K c_46 (.type "object")=some true)
  (mb_46:PySem.W.mroIn K c_46 (.type "BaseException")=some true)
  (kt_46_46:PySem.W.kitOne K (.ref c_46) (.ref c_46)=some true)
  (kt_TooWide_ValueError:PySem.W.kitOne K (.ref c_46) (.type "ValueError")=some true)
  (kt_46_57:PySem.W.kitOne K (.ref c_46) (.ref c_57)=some false)
  (kt_46_27:PySem.W.kitOne K (.ref c_46) (.ref c_27)=some false)
  (em_46_41:PySem.W.exmOne K (.ref c_46) (.ref c_41)=some true)
  : (∀P∈[p_28],∃c,PySem.W.codeHdIn K c P=true)/\∃fd:FuncData,(∀(s:qS) (v:qQ),BindsTo s fd ⟨[v],[]⟩ [("_law_script",v)])/\∀base:Heap,K.In base->base.Ns mainGlobals mg->HV mg base->Fc l.prog w K mg base (IQ l.prog w) 13 fa fd ["_law_script"] (JW K [p_28]):=by
 have mo:∀{n:Str}{v:Value},PySem.W.nsIn K mainGlobals n=some (some v)->mg n=some v:=λe=>PySem.W.mg_of X G e;have T:B5 K mg ⟨c_41,c_51,c_57,c_52,c_40,c_46,c_27,f_45,f_47,f_20,f_5,f_39,f_50,f_19,f_25,f_6,f_10,f_62,f_56,f_38,f_59,f_53,f_44,f_2,f_37,f_55,f_49,f_58,f_11,f_21,f_48,f_36,f_26,f_43,f_54,f_23,f_24,f_60,f_22,f_61,f_18,f_3,f_8,f_14,f_35,f_9,f_13,f_32,f_17,f_0,f_29,f_33,f_28,f_42,f_31,f_34,f_7,f_12,f_1,f_16,f_15,f_30,f_4,f_63,k_EVEN,cc_28,p_28⟩:=⟨mo n_41,mo n_51,mo n_57,mo n_52,mo n_40,mo n_46,mo n_27,mo n_EVEN,q_EVEN,mo h_45.2,h_45.1,mo h_47.2,h_47.1,mo h_20.2,h_20.1,mo h_5.2,h_5.1,mo h_39.2,h_39.1,mo h_50.2,h_50.1,mo h_19.2,h_19.1,mo h_25.2,h_25.1,mo h_6.2,h_6.1,mo h_10.2,h_10.1,mo h_62.2,h_62.1,mo h_56.2,h_56.1,mo h_38.2,h_38.1,mo h_59.2,h_59.1,mo h_53.2,h_53.1,mo h_44.2,h_44.1,mo h_2.2,h_2.1,mo h_37.2,h_37.1,mo h_55.2,h_55.1,mo h_49.2,h_49.1,mo h_58.2,h_58.1,mo h_11.2,h_11.1,mo h_21.2,h_21.1,mo h_48.2,h_48.1,mo h_36.2,h_36.1,mo h_26.2,h_26.1,mo h_43.2,h_43.1,mo h_54.2,h_54.1,mo h_23.2,h_23.1,mo h_24.2,h_24.1,mo h_60.2,h_60.1,mo h_22.2,h_22.1,mo h_61.2,h_61.1,mo h_18.2,h_18.1,mo h_3.2,h_3.1,mo h_8.2,h_8.1,mo h_14.2,h_14.1,mo h_35.2,h_35.1,mo h_9.2,h_9.1,mo h_13.2,h_13.1,mo h_32.2,h_32.1,mo h_17.2,h_17.1,mo h_0.2,h_0.1,mo h_29.2,h_29.1,mo h_33.2,h_33.1,mo h_28.2,h_28.1,(let ⟨_,z⟩:=h_28.1;z.hd),mo h_42.2,h_42.1,mo h_31.2,h_31.1,mo h_34.2,h_34.1,mo h_7.2,h_7.1,mo h_12.2,h_12.1,mo h_1.2,h_1.1,mo h_16.2,h_16.1,mo h_15.2,h_15.1,mo h_30.2,h_30.1,mo h_4.2,h_4.1,mo h_63.2,h_63.1,PySem.W.mg_none_of X G z_len,PySem.W.mg_none_of X G z_list,PySem.W.mg_none_of X G z_reversed,PySem.W.mg_none_of X G z_isinstance,PySem.W.mg_none_of X G z_range,PySem.W.mg_none_of X G z_int,PySem.W.mg_none_of X G z_bool,PySem.W.mg_none_of X G z_ValueError,PySem.W.mg_none_of X G z_tuple,PySem.W.mg_none_of X G z_enumerate,PySem.W.mg_none_of X G z_min,PySem.W.mg_none_of X G z_max,PySem.W.mg_none_of X G z_sorted,PySem.W.mg_none_of X G z_all,PySem.W.mg_none_of X G z_zip,⟨_,mo w_LONGEST_TABLE⟩,⟨_,mo w_MOST_NODES⟩,x_40,x_46,⟨ci_46,ga_46,gn_46,ca_46,sg_46,tk_46,mo_46,mb_46⟩,kt_46_46,kt_TooWide_ValueError,kt_46_57,kt_46_27,em_46_41⟩;have e:=hfa.symm.trans T.m_63;cases e;obtain⟨fd,F⟩:=T.d_63;obtain⟨oc,od,kV,doc,pm,an,ae,ct,osl,ef,lk,hcd⟩:=F.ex;refine⟨(List.forall_mem_cons.mpr ⟨⟨_,T.hd_28⟩,(λ_ h=>qG h X7)⟩),fd,λs v=>by rw[ef];exact .of_eq rfl,λbase _ _ hB=>?_⟩;have G_45:=VS (P:=l.prog) (w:=w) (base:=base) T;have G_47:=VU (P:=l.prog) (w:=w) (base:=base) T G_45;have G_20:=VW (P:=l.prog) (w:=w) (base:=base) T G_47;have G_5:=XA (P:=l.prog) (w:=w) (base:=base) T G_20;have G_39:=VX (P:=l.prog) (w:=w) (base:=base) T G_20;have G_50:=VY (P:=l.prog) (w:=w) (base:=base) T;have G_19:=Va (P:=l.prog) (w:=w) (base:=base) T G_45;have G_25:=Vb (P:=l.prog) (w:=w) (base:=base) T;have G_6:=XB (P:=l.prog) (w:=w) (base:=base) T;have G_10:=Vc (P:=l.prog) (w:=w) (base:=base) T G_25 G_47;have G_62:=Ve (P:=l.prog) (w:=w) (base:=base) T G_19 G_10;have G_56:=Vg (P:=l.prog) (w:=w) (base:=base) T G_25;have G_38:=Vi (P:=l.prog) (w:=w) (base:=base) T G_5 G_56 G_39;have G_59:=Vk (P:=l.prog) (w:=w) (base:=base) T;have G_53:=Vl (P:=l.prog) (w:=w) (base:=base) T;have G_44:=Vm (P:=l.prog) (w:=w) (base:=base) T G_56 G_53;have G_2:=XD (P:=l.prog) (w:=w) (base:=base) T;have G_37:=Vn (P:=l.prog) (w:=w) (base:=base) T G_62 G_6 G_50 G_38 G_2 G_56;have G_55:=Vo (P:=l.prog) (w:=w) (base:=base) T G_44 G_37;have G_49:=Vp (P:=l.prog) (w:=w) (base:=base) T G_44 G_37 G_6;have G_58:=Vq (P:=l.prog) (w:=w) (base:=base) T G_55 G_56 G_49 G_59;have G_11:=Vr (P:=l.prog) (w:=w) (base:=base) T;have G_21:=Vs (P:=l.prog) (w:=w) (base:=base) T;have G_48:=Vu (P:=l.prog) (w:=w) (base:=base) T;have G_36:=Vv (P:=l.prog) (w:=w) (base:=base) T G_59;have G_26:=Vw (P:=l.prog) (w:=w) (base:=base) T;have G_43:=Vy (P:=l.prog) (w:=w) (base:=base) T G_48;have G_54:=V0 (P:=l.prog) (w:=w) (base:=base) T G_48 G_59;have G_23:=V1 (P:=l.prog) (w:=w) (base:=base) T G_36 G_26 G_54 G_43;have G_24:=V3 (P:=l.prog) (w:=w) (base:=base) T G_21 G_11 G_23;have G_60:=V4 (P:=l.prog) (w:=w) (base:=base) T G_58 G_24 G_36;have G_22:=V6 (P:=l.prog) (w:=w) (base:=base) T G_60;have G_61:=V8 (P:=l.prog) (w:=w) (base:=base) T G_22;have G_18:=WA (P:=l.prog) (w:=w) (base:=base) T;have G_3:=XF (P:=l.prog) (w:=w) (base:=base) T;have G_8:=XG (P:=l.prog) (w:=w) (base:=base) T;have G_14:=WB (P:=l.prog) (w:=w) (base:=base) T;have G_35:=WC (P:=l.prog) (w:=w) (base:=base) T;have G_9:=XH (P:=l.prog) (w:=w) (base:=base) T;have G_13:=WE (P:=l.prog) (w:=w) (base:=base) T;have G_32:=WF (P:=l.prog) (w:=w) (base:=base) T;have G_17:=WH (P:=l.prog) (w:=w) (base:=base) T;have G_0:=XJ (P:=l.prog) (w:=w) (base:=base) T;have G_29:=WI (P:=l.prog) (w:=w) (base:=base) T;have G_33:=WJ (P:=l.prog) (w:=w) (base:=base) T G_29 G_9 G_13 G_32 G_17 G_0;have G_28:=WK (P:=l.prog) (w:=w) (base:=base) T hB G_8 G_35 G_33 G_14;have G_42:=WM (P:=l.prog) (w:=w) (base:=base) T;have G_31:=WN (P:=l.prog) (w:=w) (base:=base) T;have G_34:=WO (P:=l.prog) (w:=w) (base:=base) T G_31 G_35 G_14;have G_7:=XM (P:=l.prog) (w:=w) (base:=base) T G_14;have G_12:=WP (P:=l.prog) (w:=w) (base:=base) T G_14 G_35 G_7;have G_1:=XN (P:=l.prog) (w:=w) (base:=base) T G_14 G_35;have G_16:=WQ (P:=l.prog) (w:=w) (base:=base) T G_14;have G_15:=WR (P:=l.prog) (w:=w) (base:=base) T G_18;have G_30:=WS (P:=l.prog) (w:=w) (base:=base) T G_15 G_16 G_14;have G_4:=XO (P:=l.prog) (w:=w) (base:=base) T G_60 G_22 G_61;exact WT T F G_42 G_28 G_34 G_12 G_60 G_8 G_3 G_30 G_4 G_22 G_61 G_1
end K51
noncomputable def PySem.W.Fast.tw18363275414119174931:=PySem.Challenge.pw_rowrules_k51_ranks_of_pairs
theorem PySem.W.Fast.te18363275414119174931:PySem.Challenge.pw_rowrules_k51_ranks_of_pairs=PySem.W.Fast.tw18363275414119174931:=rfl
namespace PySem.W.Fast
abbrev A:=Nat
def tw16300779835205889748:=A
def tw10067105382065075446:=A
def tw4257599298973891091:=A
def tw6045073420432218494:=A
def tw866299264315819227:=A
def tw10744022805823624349:=A
def tw5458124706683556134:=A
def tw1015273694767408308:=A
def tw16970336129125661264:=A
def tw13765617309075678969:=A
def tw5431574887967838769:=A
def tw4297484951459304009:=A
def tw6324638280130873364:=A
def tw17205960094255853586:=A
def tw8938822310971763732:=A
def tw5531353301884342636:=A
def tw13745279064556005479:=A
def tw3454040941849444811:=A
def tw5839098309931620343:=A
def tw12922842001225125590:=A
def tw18059639835770724838:=A
def tw12703087455849494870:=A
def tw2138102846419962287:=A
def tw17204185475305227688:=A
def tw9150582522352117365:=A
def tw16213795454750294445:=A
def tw3136331244784735932:=A
def tw3704639402676531967:=A
def tw6964268965358936044:=A
def tw16708101779826335946:=A
def tw4067427583971866820:=A
def tw7145707291765142071:=A
def tw14663772482958470079:=A
def tw1204128356239645474:=A
def tw5670556471322814912:=A
def tw5794537670576363533:=A
def tw5972637319379544738:=A
def tw17844906826406266951:=A
def tw501349293691305401:=A
def tw8700699735054353770:=A
def tw6117495911832544451:=A
def tw10252715011982170053:=A
def tw7061124113572155324:=A
def tw5908910431743256975:=A
def tw7153852669358526887:=A
def tw8614330903551645486:=A
def tw1973551684163478482:=A
def tw5500277060828606470:=A
def tw6744323088027896866:=A
def tw12212963120971272563:=A
def tw3008405935371234246:=A
def tw5460399648316597896:=A
def tw1013257321317723356:=A
def tw3320316497352620618:=A
def tw2118046121676177134:=A
def tw13409983806062044857:=A
def tw11017045196205544439:=A
def tw5203269750713270306:=A
def tw1332748400259520407:=A
def tw2901532802578679242:=A
def tw1917773947954568668:=A
def tw749287751380932214:=A
def tw6642736003139634095:=A
def tw18213719400468357087:=A
def tw9778966409590630264:=A
def tw2867125654117840622:=A
def tw11697829573595898619:=A
def tw3171763003250349353:=A
def tw10756140938515726777:=A
def tw12536926739457217106:=A
def tw2287339354165578635:=A
def tw13402941659457201312:=A
def tw1817549536298889751:=A
def tw11049790756970086297:=A
def tw3864280994118614547:=A
def tw6618531339032148869:=A
def tw11853805613330143756:=A
def tw6393406843533774538:=A
def tw12139398387779696771:=A
def tw7121726961001779371:=A
def tw17617679338710539593:=A
def tw4607870641458501577:=A
def tw2188113271550666615:=A
def tw18290098396032626330:=A
def tw2594803987898273622:=A
def tw14892799498611429188:=A
def tw16765659426714802704:=A
def tw4229635538514440520:=A
def tw8484157989816010971:=A
def tw7482547461505053195:=A
def tw16990796485543787531:=A
def tw4422594216920796903:=A
def tw10603970598674023318:=A
def tw14670720543938264901:=A
def tw10284627096489316827:=A
def tw9828282020244293392:=A
def tw5387278817551982333:=A
def tw5611771682053834636:=A
def tw6704728529074392732:=A
def tw14552169128061703137:=A
def tw3772949073611251766:=A
def tw11527915213701602923:=A
def tw8760568957388525036:=A
def tw17255572436441635197:=A
def tw2562228531252752594:=A
def tw2244869026465719403:=A
def tw15994821006381750205:=A
def tw11560358561425205304:=A
def tw13034948405543791063:=A
def tw11235614166411564990:=A
def tw9479063373529772498:=A
def tw8363987383566225819:=A
def tw340041012976444721:=A
def tw1164707102176033654:=A
def tw13728575540658600954:=A
def tw17833972942566158567:=A
def tw17077693613767924348:=A
def tw16329264346991173892:=A
def tw14653961863648678449:=A
def tw6583877762313192650:=A
def tw10814290012438867187:=A
def tw18352032828194234443:=A
def tw16717661185204658085:=A
def tw5690236771827453573:=A
def tw8567407099851953804:=A
def tw13021333796214584686:=A
def tw776044228720230053:=A
def tw2593769073497464102:=A
def tw15066979848170280011:=A
def tw6257771453712055027:=A
def tw16978459665316773522:=A
def tw5527326759419800387:=A
def tw2461713274064305105:=A
def tw4437435756461433545:=A
def tw152272165023402109:=A
def tw3240077718048648704:=A
def tw4292171608876510810:=A
def tw13414460459850851873:=A
def tw763571308952365270:=A
def tw15112039434699965724:=A
def tw6477886161828468419:=A
def tw4599814992609487005:=A
def tw1082314157406572221:=A
def tw16170562072680392187:=A
def tw3240738727603549587:=A
def tw8919738507116108397:=A
def tw11844584096216120784:=A
def tw16831639049732187662:=A
def tw4848754398402231229:=A
def tw15693340995885124980:=A
def tw10420746181771589492:=A
def tw15661167870071211704:=A
def tw7091814681333314721:=A
def tw4161332583456059074:=A
def tw3956545894249072859:=A
def tw13385632693253018019:=A
def tw6219799083603777826:=A
def tw5915609463696672806:=A
def tw3390347581778863915:=A
def tw2188722465167458155:=A
def tw5471960655320695763:=A
def tw6322886461447267109:=A
def tw2433983568495108544:=A
def tw7009612169182263412:=A
def tw6417400714133633758:=A
def tw16740743120291788797:=A
def tw13300602466952342565:=A
def tw12424719956613884238:=A
def tw535017702911882787:=A
def tw10995325046018219663:=A
def tw15487130491996681025:=A
def tw160060820378590890:=A
def tw7989079671986547036:=A
def tw2095783095584646096:=A
def tw7901782608890983830:=A
def tw15691831485497070722:=A
def tw7544332469462617227:=A
def tw8662542004633542286:=A
def tw9608010754016712872:=A
def tw17669143241551987989:=A
def tw5839175681029891076:=A
def tw78684258909730943:=A
def tw6203603648998094705:=A
def tw18167602434289215650:=A
def tw11108800262705306599:=A
def tw15638721732630345019:=A
def tw18259979260911108994:=A
def tw3714534425787938637:=A
def tw9710516723899092204:=A
def tw11901976559681290596:=A
def tw13570572633205006378:=A
def tw4501016310524916506:=A
def tw1883905040634858763:=A
def tw5864625426882868133:=A
def tw9539058244565942383:=A
def tw8229679150226184343:=A
def tw7263180915162012190:=A
def tw9881986416994858595:=A
def tw7589652089270953783:=A
def tw15617656594783413370:=A
def tw18360613736150382890:=A
def tw2266174726183113524:=A
def tw1991689689971336670:=A
def tw16463203563743465696:=A
def tw16912047770472855103:=A
def tw18151251396376899357:=A
def tw4832069038991424002:=A
end PySem.W.Fast
open PySem PySem.W PyProof.Rows
set_option maxRecDepth 100000 in
set_option maxHeartbeats 0 in
theorem PySem.Challenge.cw_rowrules_k51_ranks_of_pairs_holds : PySem.Challenge.rw_rowrules_k51_ranks_of_pairs.Holds := by
 w_on;o_law;k_head;(case hw=>w_witness2)
 k_fill
 refine L2.Nl (l:=PySem.Challenge.rw_rowrules_k51_ranks_of_pairs) (k:=13) (n:=0) (x:="_law_script") (ts:=[_]) rfl rfl ⟨rfl,by decide,by decide⟩ (λw h Y=>⟨PySem.W.km_in_of Y,PySem.W.km_tabs_of Y⟩) ?hTab ?F
 case hTab=>exact λw=>(List.forall_mem_cons.mpr ⟨by kernel_rfl,λ_ h=>absurd h X7⟩)
 case F =>
  intro w mg fa h KX G hmg;refine' K51.Ug KX G hmg ?_ ?_ ?_ ?_ ?_ ?_ ?_ ?_ ?_ (L2.AZ ?_ ?_ ?_ ?_) (L2.AZ ?_ ?_ ?_ ?_) (L2.AZ ?_ ?_ ?_ ?_) (L2.AZ ?_ ?_ ?_ ?_) (L2.AZ ?_ ?_ ?_ ?_) (L2.AZ ?_ ?_ ?_ ?_) (L2.AZ ?_ ?_ ?_ ?_) (L2.AZ ?_ ?_ ?_ ?_) (L2.AZ ?_ ?_ ?_ ?_) (L2.AZ ?_ ?_ ?_ ?_) (L2.AZ ?_ ?_ ?_ ?_) (L2.AZ ?_ ?_ ?_ ?_) (L2.AZ ?_ ?_ ?_ ?_) (L2.AZ ?_ ?_ ?_ ?_) (L2.AZ ?_ ?_ ?_ ?_) (L2.AZ ?_ ?_ ?_ ?_) (L2.AZ ?_ ?_ ?_ ?_) (L2.AZ ?_ ?_ ?_ ?_) (L2.AZ ?_ ?_ ?_ ?_) (L2.AZ ?_ ?_ ?_ ?_) (L2.AZ ?_ ?_ ?_ ?_) (L2.AZ ?_ ?_ ?_ ?_) (L2.AZ ?_ ?_ ?_ ?_) (L2.AZ ?_ ?_ ?_ ?_) (L2.AZ ?_ ?_ ?_ ?_) (L2.AZ ?_ ?_ ?_ ?_) (L2.AZ ?_ ?_ ?_ ?_) (L2.AZ ?_ ?_ ?_ ?_) (L2.AZ ?_ ?_ ?_ ?_) (L2.AZ ?_ ?_ ?_ ?_) (L2.AZ ?_ ?_ ?_ ?_) (L2.AZ ?_ ?_ ?_ ?_) (L2.AZ ?_ ?_ ?_ ?_) (L2.AZ ?_ ?_ ?_ ?_) (L2.AZ ?_ ?_ ?_ ?_) (L2.AZ ?_ ?_ ?_ ?_) (L2.AZ ?_ ?_ ?_ ?_) (L2.AZ ?_ ?_ ?_ ?_) (L2.AZ ?_ ?_ ?_ ?_) (L2.AZ ?_ ?_ ?_ ?_) (L2.AZ ?_ ?_ ?_ ?_) (L2.AZ ?_ ?_ ?_ ?_) (L2.AZ ?_ ?_ ?_ ?_) (L2.AZ ?_ ?_ ?_ ?_) (L2.AZ ?_ ?_ ?_ ?_) (L2.RN ?_ ?_ ?_ ?_ ?_) (L2.AZ ?_ ?_ ?_ ?_) (L2.AZ ?_ ?_ ?_ ?_) (L2.AZ ?_ ?_ ?_ ?_) (L2.AZ ?_ ?_ ?_ ?_) (L2.AZ ?_ ?_ ?_ ?_) (L2.AZ ?_ ?_ ?_ ?_) (L2.AZ ?_ ?_ ?_ ?_) (L2.AZ ?_ ?_ ?_ ?_) (L2.AZ ?_ ?_ ?_ ?_) (L2.AZ ?_ ?_ ?_ ?_) (L2.AZ ?_ ?_ ?_ ?_) ?_ ?_ ?_ ?_ ?_ ?_ ?_ ?_ ?_ ?_ ?_ ?_ ?_ ?_ ?_ ?_ ?_ ?_ ?_ ?_ ?_ ?_ ?_ ?_ ?_ ?_ ?_ ?_ ?_ ?_ ?_ ?_
  any_goals k_is
  ·kernel_rfl
  ·kernel_rfl
  ·k_exc
  ·k_exc
  ·show PySem.W.isClsIn _ _=true;k_is
  ·kit_is
  ·kit_is
  ·kit_is
  ·kit_is
  ·kts_exm
