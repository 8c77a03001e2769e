import PyProof.Rows.All
import Wide.All
import OpenK.AllK
import Wide.FinOn
import Lean
import PyProof.EqAt
import PyProof.EqKinds
import PyProof.TupleCall
import PySem.Challenge.RW_rowrules_k65_all_that_is_kept
set_option Elab.async false
set_option linter.all false
set_option maxRecDepth 100000
abbrev Z0:=@List.getD_eq_getElem?_getD
abbrev Z1:=@List.length_map
abbrev Z2:=@List.length_range
abbrev Z3:=@List.map_append
abbrev Z4:=@List.length_append
abbrev Z5:=@Int.toNat_natCast
abbrev Z6:=@List.getElem?_map
abbrev Z7:=@Int.pow_succ
abbrev Z8:=@Int.zero_add
abbrev Z9:=@List.length_replicate
abbrev Z10:=@Int.mul_zero
abbrev Z11:=@List.length_set
abbrev Z12:=@Int.natCast_mul
abbrev Z13:=@Int.pow_zero
abbrev Z14:=@List.take_length
abbrev Z15:=@List.length_singleton
abbrev Z16:=@List.length_take
abbrev Z17:=@List.size_toArray
abbrev Z18:=@Int.natCast_ediv
abbrev Z19:=@List.getElem?_replicate
abbrev Z20:=@Int.add_zero
abbrev Z21:=@Int.zero_mul
abbrev Z22:=@List.take_succ
abbrev Z23:=@Int.one_mul
abbrev Z24:=@List.replicate_succ
abbrev Z25:=@List.length_drop
abbrev Z26:=@Int.mul_assoc
abbrev Z27:=@Int.natCast_emod
abbrev Z28:=@Int.mul_comm
namespace L2
open PySem PySem.Spec PyProof.Rows
abbrev Key:=Sum Int Str
def keyIs:Key→Value→Bool
 | .inl k,v=>Value.isInt k v
 | .inr x,v=>Value.isStrOf x v
def keyH (w:World):Key→Int
 | .inl k=>hashInt k
 | .inr x=>hashStr w x
theorem keyIs_shape:∀ {k:Key} {v:Value},keyIs k v=true→(∃ i t,k=Sum.inl i∧v=Value.int i t)∨(∃ x t,k=Sum.inr x∧v=Value.str x t)
 | .inl i,v,h=>by
  obtain ⟨t,e⟩:=Value.isInt_shape (k:=i) (v:=v) h
  exact .inl ⟨i,t,rfl,e⟩
 | .inr x,v,h=>by
  obtain ⟨t,e⟩:=Value.isStrOf_shape (x:=x) (v:=v) h
  exact .inr ⟨x,t,rfl,e⟩
theorem key_ll (a b:Int):decide ((Sum.inl a:Key)=Sum.inl b)=(a == b):=by
 by_cases e:a=b
 ·subst e;simp
 ·have h:¬ (Sum.inl a:Key)=Sum.inl b:=fun q=>e (Sum.inl.inj q)
  rw [decide_eq_false h]
  exact (beq_eq_false_iff_ne.mpr e).symm
theorem key_rr (a b:Str):decide ((Sum.inr a:Key)=Sum.inr b)=decide (a=b):=by
 by_cases e:a=b
 ·subst e;simp
 ·have h:¬ (Sum.inr a:Key)=Sum.inr b:=fun q=>e (Sum.inr.inj q)
  rw [decide_eq_false h,decide_eq_false e]
theorem key_lr (a:Int) (b:Str):decide ((Sum.inl a:Key)=Sum.inr b)=false:=decide_eq_false (fun q=>nomatch q)
theorem key_rl (a:Str) (b:Int):decide ((Sum.inr a:Key)=Sum.inl b)=false:=decide_eq_false (fun q=>nomatch q)
def mixKind (prog:Program) (w:World):PySem.KeyKind prog w Key where
 is:=keyIs
 hash:=keyH w
 inj:=fun v a b ha hb=>by
  rcases keyIs_shape ha with ⟨i,t,rfl,rfl⟩ | ⟨x,t,rfl,rfl⟩
  ·rcases keyIs_shape hb with ⟨j,u,rfl,e⟩ | ⟨y,u,rfl,e⟩
   ·injection e with e1 _;rw [e1]
   ·exact nomatch e
  ·rcases keyIs_shape hb with ⟨j,u,rfl,e⟩ | ⟨y,u,rfl,e⟩
   ·exact nomatch e
   ·injection e with e1 _;rw [e1]
 byValue:=fun k v h=>by
  rcases keyIs_shape h with ⟨i,t,rfl,rfl⟩ | ⟨x,t,rfl,rfl⟩ <;> rfl
 pyHash:=fun hv h=>by
  rcases keyIs_shape hv with ⟨i,t,rfl,rfl⟩ | ⟨x,t,rfl,rfl⟩
  ·exact wpAny_pyHash_int h
  ·exact wpAny_pyHash_str h
 eqBool:=fun hu hv h=>by
  rcases keyIs_shape hu with ⟨i,t,rfl,rfl⟩ | ⟨x,t,rfl,rfl⟩
  ·rcases keyIs_shape hv with ⟨j,u,rfl,rfl⟩ | ⟨y,u,rfl,rfl⟩
   ·rw [key_ll] at h;exact wpAny_eqBool_int h
   ·rw [key_lr] at h;exact SeqAt.EqAt.int_str i t y u _ _ _ _ h
  ·rcases keyIs_shape hv with ⟨j,u,rfl,rfl⟩ | ⟨y,u,rfl,rfl⟩
   ·rw [key_rl] at h;exact SeqAt.EqAt.str_int x t j u _ _ _ _ h
   ·rw [key_rr] at h;exact wpAny_eqBool_str h
 «strs»:=fun k x t v h=>by
  rcases keyIs_shape h with ⟨i,u,rfl,e⟩ | ⟨y,u,rfl,e⟩
  ·exact nomatch e
  ·injection e with e1 _
   subst e1
   cases v <;> rfl
end L2
namespace L2
open PySem PySem.Spec PyProof.Rows
inductive V where
 | non | bl (b:Bool) | int (i:Int) | str (x:Str) | byt (b:Array UInt8) | flt (b:UInt64) | ref (a:Addr) | ty (n:String)
 deriving DecidableEq
def RelV:V→Value→Prop
 | .non,u=>u=Value.none
 | .bl b,u=>u=Value.bool b
 | .int i,u=>∃ t,u=Value.int i t
 | .str x,u=>∃ t,u=Value.str x t
 | .byt b,u=>∃ t,u=Value.bytes b t
 | .flt b,u=>∃ t,u=Value.float b t
 | .ref a,u=>u=Value.ref a
 | .ty n,u=>u=Value.type n
abbrev Vals:List V→List Value→Prop:=Paired RelV
theorem Vals.length {xs:List V} {us:List Value} (r:Vals xs us):xs.length=us.length:=Paired.length r
theorem Vals.get:∀ {xs:List V} {us:List Value} {i:Nat} {x:V},Vals xs us→xs[i]?=some x→∃ u,us[i]?=some u∧RelV x u
 | _,_,_,_,.nil,e=>by simp at e
 | _,_,0,_,.cons r _,e=>by simp at e;subst e;exact ⟨_,rfl,r⟩
 | _,_,i+1,x,.cons _ t,e=>by
  obtain ⟨u,h1,h2⟩:=Vals.get (i:=i) (x:=x) t (by simpa using e)
  exact ⟨u,by simpa using h1,h2⟩
theorem Vals.set {x:V} {u:Value} (r:RelV x u):∀ {xs:List V} {us:List Value} (i:Nat),Vals xs us→Vals (xs.set i x) (us.set i u)
 | _,_,_,.nil=>.nil
 | _,_,0,.cons _ t=>.cons r t
 | _,_,i+1,.cons q t=>.cons q (Vals.set r i t)
theorem Vals.append:∀ {xs ys:List V} {us ws:List Value},Vals xs us→Vals ys ws→Vals (xs++ys) (us++ws)
 | _,_,_,_,.nil,s=>s
 | _,_,_,_,.cons r t,s=>.cons r (Vals.append t s)
theorem Vals.take:∀ {xs:List V} {us:List Value} (n:Nat),Vals xs us→Vals (xs.take n) (us.take n)
 | _,_,0,_=>.nil
 | _,_,_+1,.nil=>.nil
 | _,_,n+1,.cons r t=>.cons r (Vals.take n t)
theorem Vals.drop:∀ {xs:List V} {us:List Value} (n:Nat),Vals xs us→Vals (xs.drop n) (us.drop n)
 | _,_,0,r=>r
 | _,_,_+1,.nil=>.nil
 | _,_,n+1,.cons _ t=>Vals.drop n t
def RelO:Option V→Option Value→Prop
 | some v,some u=>RelV v u
 | none,none=>True
 | _,_=>False
def KV {κ:Type}:List (κ × V)→List (κ × Value)→Prop:=Paired fun (p:κ × V) (q:κ × Value)=>p.1=q.1∧RelV p.2 q.2
def kV:Key→V
 | .inl i=>.int i
 | .inr x=>.str x
inductive HO where
 | lst (xs:List V)
 | tup (xs:List V)
 | dK (kvs:List (Key × V)) | dT (kvs:List (List Key × V))
 | set (S:Int→Bool) (n:Nat)
 | ins (C dx:Addr) (fs:List (Str × V))
 | own (x:Addr)
 | xd (fs:List (Str × V))
 | met (f x:Addr)
 | rng (lo hi:Int)
 | frz (o:Obj) (u:HO)
 | tbl (ps:Array Value)
 | ext (φ:Heap→Prop)
abbrev Hp:=Addr→Option HO
def upd (H:Hp) (a:Addr) (o:HO):Hp:=fun b=>if b=a then some o else H b
theorem upd_same {H:Hp} {a:Addr} {o:HO}:upd H a o a=some o:=by unfold upd;rw [if_pos rfl]
theorem upd_ne {H:Hp} {a b:Addr} {o:HO} (h:b≠a):upd H a o b=H b:=by unfold upd;rw [if_neg h]
theorem upd_upd {H:Hp} {a:Addr} {o u:HO}:upd (upd H a o) a u=upd H a u:=by
 funext b;unfold upd;split <;> rfl
theorem ne_of_none {H:Hp} {a b:Addr} {o:HO} (h:H a=some o) (h':H b=none):a≠b:=by
 intro e;subst e;rw [h] at h';cases h'
section
variable (P:Program) (w:World)
def ObjOk (H:Hp) (h:Heap) (a:Addr):HO→Prop
 | .lst xs=>xs.length≤sizeLine∧∃ (its:List Value) (n:Nat),Vals xs its∧h.get? a=some { cls:=.type "list",data:=.seq its.toArray n }
 | .tup xs=>xs.length≤sizeLine∧∃ its:List Value,Vals xs its∧IsTup h a its.toArray
 | .dK kvs=>kvs.length≤sizeLine∧(a == sysModules)=false∧∃ vs,KV kvs vs∧h.DictOf (mixKind P w) a vs
 | .dT kvs=>kvs.length≤sizeLine∧(a == sysModules)=false∧∃ xs:List (List Key × Addr × Value),
   Paired (fun (p:List Key × V) (q:List Key × Addr × Value)=>p.1=q.1∧H q.2.1=some (.tup (p.1.map kV))∧RelV p.2 q.2.2) kvs xs ∧
   ∃ o es ep,h.get? a=some o∧o.ExactDict∧o.data=.dict es ep∧es.toList=xs.map (entryOfKey (tupleKind (mixKind P w)))∧(xs.map (·.1)).Nodup
 | .set S n=>h.SetOf (intKind P w) a S n
 | .ins C dx fs=>H dx=some (.own a)∧fs.length≤1000∧dx≠a∧h.get? a=some (PySem.W.instObj C dx) ∧
   ∃ mA,h.Ns1 dx mA∧(∀ f,RelO (fs.lookup f) (mA f))∧PySem.Within mA (fs.map (·.1))
 | .own _=>∃ o,h.get? a=some o
 | .xd fs=>∃ mA,h.Ns1 a mA∧∀ f,RelO (fs.lookup f) (mA f)
 | .rng lo hi=>∃ t u v,h.get? a=some { cls:=.type "range",data:=.fields #[.int lo t,.int hi u,.int 1 v] }
 | .frz o u=>h.get? a=some o∧ObjOk H h a u
 | .tbl ps=>h.get? a=some { cls:=.none,data:=.fields ps }
 | .met f x=>h.get? a=some (PySem.W.methodObj (.ref f) (.ref x))
 | .ext φ=>φ h∧(∃ o,h.get? a=some o)∧∀ h1 h2:Heap,φ h1→(∀ o,h1.get? a=some o→h2.get? a=some o)→φ h2
def HOk (H:Hp) (h:Heap):Prop:=∀ a o,H a=some o→ObjOk P w H h a o
end
section
variable {P:Program} {w:World} {H H':Hp} {h h':Heap} {a:Addr} {o:HO}
theorem ObjOk.lt (x:ObjOk P w H h a o):a<h.objs.size:=by
 cases o with
 | lst xs=>obtain ⟨_,_,_,_,e⟩:=x;exact Heap.lt_size e
 | tup xs=>obtain ⟨_,_,_,p⟩:=x;exact p.lt
 | dK kvs=>obtain ⟨_,_,_,_,o,_,_,e,_⟩:=x;exact Heap.lt_size e
 | dT kvs=>obtain ⟨_,_,_,_,o,_,_,e,_⟩:=x;exact Heap.lt_size e
 | set S n=>obtain ⟨o,_,_,_,e,_⟩:=x;exact Heap.lt_size e
 | ins C dx fs=>obtain ⟨_,_,_,e,_⟩:=x;exact Heap.lt_size e
 | own y=>obtain ⟨_,e⟩:=x;exact Heap.lt_size e
 | xd fs=>obtain ⟨_,⟨_,_,_,e,_⟩,_⟩:=x;exact Heap.lt_size e
 | rng lo hi=>obtain ⟨_,_,_,e⟩:=x;exact Heap.lt_size e
 | frz ob u=>obtain ⟨e,_⟩:=x;exact Heap.lt_size e
 | tbl ps=>exact Heap.lt_size (show h.get? a=some _ from x)
 | met f y=>exact Heap.lt_size (show h.get? a=some _ from x)
 | ext φ=>obtain ⟨_,⟨_,e⟩,_⟩:=x;exact Heap.lt_size e
theorem Paired.mapP {α β:Type} {F G:α→β→Prop}:∀ {l₁:List α} {l₂:List β},Paired F l₁ l₂→(∀ a b,F a b→G a b)→Paired G l₁ l₂
 | _,_,.nil,_=>.nil
 | _,_,.cons r t,f=>.cons (f _ _ r) (Paired.mapP t f)
theorem ObjOk.stay (x:ObjOk P w H h a o) (k:∀ b u,(b=a∨H b=some (.own a))→h.get? b=some u→h'.get? b=some u)
  (ho:∀ b,H b=some (.own a)→H' b=some (.own a)) (ht:∀ b xs,H b=some (.tup xs)→H' b=some (.tup xs)):ObjOk P w H' h' a o:=by
 induction o with
 | lst xs=>obtain ⟨z,its,n,r,e⟩:=x;exact ⟨z,its,n,r,k _ _ (.inl rfl) e⟩
 | tup xs=>obtain ⟨z,its,r,ob,e,c⟩:=x;exact ⟨z,its,r,ob,k _ _ (.inl rfl) e,c⟩
 | dK kvs=>obtain ⟨z,y,vs,r,ob,es,ep,e,c⟩:=x;exact ⟨z,y,vs,r,ob,es,ep,k _ _ (.inl rfl) e,c⟩
 | dT kvs =>
  obtain ⟨z,y,xs,r,ob,es,ep,e,c⟩:=x
  exact ⟨z,y,xs,Paired.mapP r fun p q z=>⟨z.1,ht _ _ z.2.1,z.2.2⟩,ob,es,ep,k _ _ (.inl rfl) e,c⟩
 | set S n=>obtain ⟨ob,es,ep,t,e,c⟩:=x;exact ⟨ob,es,ep,t,k _ _ (.inl rfl) e,c⟩
 | ins C dx fs =>
  obtain ⟨d,z,ne,e,mA,⟨od,es,ep,e2,c⟩,r⟩:=x
  exact ⟨ho _ d,z,ne,k _ _ (.inl rfl) e,mA,⟨od,es,ep,k _ _ (.inr d) e2,c⟩,r⟩
 | own y=>obtain ⟨ob,e⟩:=x;exact ⟨ob,k _ _ (.inl rfl) e⟩
 | xd fs=>obtain ⟨mA,⟨od,es,ep,e,c⟩,r⟩:=x;exact ⟨mA,⟨od,es,ep,k _ _ (.inl rfl) e,c⟩,r⟩
 | rng lo hi=>obtain ⟨t,u,v,e⟩:=x;exact ⟨t,u,v,k _ _ (.inl rfl) e⟩
 | frz ob u ih=>obtain ⟨e,q⟩:=x;exact ⟨k _ _ (.inl rfl) e,ih q⟩
 | tbl ps =>
  have e:h.get? a=some { cls:=.none,data:=.fields ps }:=x
  show h'.get? a=some { cls:=.none,data:=.fields ps }
  exact k a _ (.inl rfl) e
 | met f y =>
  have e:h.get? a=some (PySem.W.methodObj (.ref f) (.ref y)):=x
  show h'.get? a=some (PySem.W.methodObj (.ref f) (.ref y))
  exact k a _ (.inl rfl) e
 | ext φ=>obtain ⟨p,⟨o,e⟩,st⟩:=x;exact ⟨st _ _ p fun o q=>k _ _ (.inl rfl) q,⟨o,k _ _ (.inl rfl) e⟩,st⟩
theorem HOk.lt (x:HOk P w H h) (e:H a=some o):a<h.objs.size:=(x a o e).lt
theorem HOk.fresh (x:HOk P w H h) (e:h.objs.size≤a):H a=none:=by
 cases q:H a with
 | none=>rfl
 | some u=>exact absurd (Nat.lt_of_lt_of_le (x.lt q) e) (Nat.lt_irrefl _)
theorem HOk.kept (x:HOk P w H h) (k:∀ b u,h.get? b=some u→h'.get? b=some u):HOk P w H h':=fun a o e =>
 (x a o e).stay (fun b u _ q=>k b u q) (fun _ q=>q) fun _ _ q=>q
theorem HOk.laid (x:HOk P w H h) (k:∀ b u,h.get? b=some u→h'.get? b=some u) (hp:h.objs.size≤a) (new:ObjOk P w (upd H a o) h' a o):HOk P w (upd H a o) h':=fun b u e=>by
 have hn:=x.fresh hp
 by_cases hb:b=a
 ·subst hb;rw [upd_same] at e;cases e;exact new
 ·rw [upd_ne hb] at e
  exact (x b u e).stay (fun c v _ q=>k c v q) (fun c q=>by rw [upd_ne (ne_of_none q hn)];exact q) fun c xs q=>by rw [upd_ne (ne_of_none q hn)];exact q
end
def Rd (H:Hp) (a:Addr) (u:HO):Prop:=H a=some u∨∃ o,H a=some (.frz o u)
theorem Rd.of {H:Hp} {a:Addr} {u:HO} (h:H a=some u):Rd H a u:=.inl h
theorem Rd.ok {P:Program} {w:World} {H:Hp} {h:Heap} {a:Addr} {u:HO} (r:Rd H a u) (x:HOk P w H h):ObjOk P w H h a u:=by
 rcases r with r | ⟨o,r⟩
 ·exact x a u r
 ·obtain ⟨_,q⟩:=x a _ r
  exact q
def Mut:Option HO→Prop
 | some (.lst _)=>True
 | some (.dK _)=>True
 | some (.dT _)=>True
 | some (.set _ _)=>True
 | some (.ins _ _ _)=>True
 | some (.ext _)=>True
 | _=>False
section
variable {P:Program} {w:World} {H:Hp} {h h':Heap} {x e:Addr} {o':HO}
theorem HOk.write (ok:HOk P w H h) (mu:Mut (H x)) (he:e=x∨H e=some (.own x)) (k:∀ b u,b≠e→h.get? b=some u→h'.get? b=some u) (heo:∃ u,h'.get? e=some u)
  (new:ObjOk P w (upd H x o') h' x o'):HOk P w (upd H x o') h':=fun b u q=>by
 have nown:∀ c y,H c=some (.own y)→c≠x:=fun c y r z=>by subst z;rw [r] at mu;exact mu
 have ntup:∀ c xs,H c=some (.tup xs)→c≠x:=fun c xs r z=>by subst z;rw [r] at mu;exact mu
 by_cases hb:b=x
 ·subst hb;rw [upd_same] at q;cases q;exact new
 ·rw [upd_ne hb] at q
  by_cases hbe:b=e
  ·have q':H b=some (.own x):=by
    rcases he with z | z
    ·exact absurd (hbe.trans z) hb
    ·rw [hbe];exact z
   rw [q] at q';cases q'
   obtain ⟨v,hv⟩:=heo
   exact ⟨v,by rw [hbe];exact hv⟩
  ·refine (ok b u q).stay (fun c v hc r=>k c v ?_ r) (fun c r=>by rw [upd_ne (nown c b r)];exact r) fun c xs r=>by rw [upd_ne (ntup c xs r)];exact r
   rcases hc with rfl | hc
   ·exact hbe
   ·rintro rfl
    rcases he with z | z
    ·exact nown c b hc z
    ·rw [hc] at z;cases z;exact hb rfl
end
structure Un (fs ex:List Addr) (H H':Hp) (h h':Heap):Prop where
 keep:∀ b o,h.get? b=some o→H b=none→b∉fs→b∉ex→h'.get? b=some o
 slot:∀ b o,h.get? b=some o→H b=none→b∈fs→b∉ex→∃ sl,h'.get? b=some { o with slots:=sl }
 free:∀ b o,h.get? b=some o→H b=none→b∉ex→H' b=none
 there:∀ b o,h.get? b=some o→b∉ex→∃ o',h'.get? b=some o'
 tups:∀ b xs,H b=some (.tup xs)→H' b=some (.tup xs)
 frzs:∀ b o u,H b=some (.frz o u)→H' b=some (.frz o u)
 tbls:∀ b ps,H b=some (.tbl ps)→∃ more,H' b=some (.tbl (ps++more))
section
variable {fs fs' ex ex':List Addr} {H H1 H2:Hp} {h h1 h2 h':Heap} {a x e:Addr} {o:HO}
theorem Un.any (u:Un fs ex H H1 h h1) {b:Addr} {ob:Obj} (q:h.get? b=some ob) (n:H b=none) (hx:b∉ex):∃ sl,h1.get? b=some { ob with slots:=sl }:=by
 by_cases hb:b∈fs
 ·exact u.slot b ob q n hb hx
 ·exact ⟨ob.slots,u.keep b ob q n hb hx⟩
theorem Un.trans (a:Un fs ex H H1 h h1) (b:Un fs ex H1 H2 h1 h2):Un fs ex H H2 h h2 where
 keep:=fun c ob q n hc hx=>b.keep c ob (a.keep c ob q n hc hx) (a.free c ob q n hx) hc hx
 slot:=fun c ob q n hc hx=>by
  obtain ⟨sl,e1⟩:=a.slot c ob q n hc hx
  obtain ⟨sl',e2⟩:=b.slot c _ e1 (a.free c ob q n hx) hc hx
  exact ⟨sl',e2⟩
 free:=fun c ob q n hx=>by
  obtain ⟨o',e1⟩:=a.there c ob q hx
  exact b.free c o' e1 (a.free c ob q n hx) hx
 there:=fun c ob q hx=>by
  obtain ⟨o',e1⟩:=a.there c ob q hx
  exact b.there c o' e1 hx
 tups:=fun c xs q=>b.tups c xs (a.tups c xs q)
 frzs:=fun c ob xs q=>b.frzs c ob xs (a.frzs c ob xs q)
 tbls:=fun c ps q=>by
  obtain ⟨m1,e1⟩:=a.tbls c ps q
  obtain ⟨m2,e2⟩:=b.tbls c _ e1
  exact ⟨m1++m2,by rw [e2,Array.append_assoc]⟩
theorem Un.kept (k:∀ b u,h.get? b=some u→h'.get? b=some u):Un fs ex H H h h' :=
 ⟨fun b ob q _ _ _=>k b ob q,fun b ob q _ _ _=>⟨ob.slots,k b ob q⟩,fun _ _ _ n _=>n,fun b ob q _=>⟨ob,k b ob q⟩,fun _ _ q=>q,fun _ _ _ q=>q,fun _ ps q=>⟨#[],by rw [q];simp⟩⟩
theorem Un.refl:Un fs ex H H h h:=Un.kept fun _ _ q=>q
theorem Un.laid (k:∀ b u,h.get? b=some u→h'.get? b=some u) (hp:h.objs.size≤a) (hn:H a=none):Un fs ex H (upd H a o) h h' where
 keep:=fun b u q _ _ _=>k b u q
 slot:=fun b u q _ _ _=>⟨u.slots,k b u q⟩
 free:=fun b u q n _=>by rw [upd_ne (Nat.ne_of_lt (Nat.lt_of_lt_of_le (Heap.lt_size q) hp))];exact n
 there:=fun b u q _=>⟨u,k b u q⟩
 tups:=fun b xs q=>by rw [upd_ne (ne_of_none q hn)];exact q
 frzs:=fun b u xs q=>by rw [upd_ne (ne_of_none q hn)];exact q
 tbls:=fun b ps q=>⟨#[],by rw [upd_ne (ne_of_none q hn),q];simp⟩
theorem Un.write (mu:Mut (H x)) (he:e=x∨H e=some (.own x)) (k:∀ b u,b≠e→h.get? b=some u→h'.get? b=some u) (heo:∃ u,h'.get? e=some u):Un fs ex H (upd H x o) h h':=by
 have hx:∀ b,H b=none→b≠x:=fun b n z=>by subst z;rw [n] at mu;exact mu
 have hb:∀ b,H b=none→b≠e:=fun b n z=>by
  subst z
  rcases he with r | r
  ·exact hx b n r
  ·rw [n] at r;cases r
 have hm:∀ b u,H b=some u→¬ Mut (some u)→b≠x:=fun b u q nm z=>by subst z;rw [q] at mu;exact nm mu
 refine ⟨fun b u q n _ _=>k b u (hb b n) q,fun b u q n _ _=>⟨u.slots,k b u (hb b n) q⟩,fun b u q n _=>by rw [upd_ne (hx b n)];exact n,fun b u q _=>?_,
  fun b xs q=>by rw [upd_ne (hm b _ q fun z=>z)];exact q,fun b u xs q=>by rw [upd_ne (hm b _ q fun z=>z)];exact q,fun b ps q=>⟨#[],by rw [upd_ne (hm b _ q fun z=>z),q];simp⟩⟩
 by_cases hbe:b=e
 ·subst hbe;exact heo
 ·exact ⟨u,k b u hbe q⟩
theorem Un.mono (u:Un fs ex H H1 h h1) (hs:∀ b∈fs,b∈fs') (hx:∀ b∈ex,b∈ex'):Un fs' ex' H H1 h h1 :=
 ⟨fun b ob q n hb he=>u.keep b ob q n (fun z=>hb (hs b z)) fun z=>he (hx b z),fun _ _ q n _ he=>u.any q n fun z=>he (hx _ z),fun b ob q n he=>u.free b ob q n fun z=>he (hx b z),fun b ob q he=>u.there b ob q fun z=>he (hx b z),u.tups,u.frzs,u.tbls⟩
end
def trk (h:Heap) (H:Hp):List Addr:=(List.range h.objs.size).filter fun a=>(H a).isSome
def hidT (h:Heap) (H:Hp):Heap:=PySem.W.hideAll h (trk h H)
theorem hidT_size (h:Heap) (H:Hp):(hidT h H).objs.size=h.objs.size:=PySem.W.hideAll_size _ _
theorem hidT_get {h:Heap} {H:Hp} {b:Addr} {o:Obj} (e:h.get? b=some o) (n:H b=none):(hidT h H).get? b=some o :=
 PySem.W.hideAll_get _ e fun hm=>by
  have q:(H b).isSome=true:=(List.mem_filter.mp hm).2
  rw [n] at q;simp at q
theorem of_hidT {h:Heap} {H:Hp} {b:Addr} {o:Obj} (e:(hidT h H).get? b=some o):h.get? b=some o∧H b=none:=by
 have e':h.get? b=some o:=PySem.W.of_hideAll (trk h H) e
 refine ⟨e',?_⟩
 cases q:H b with
 | none=>rfl
 | some x =>
  have hm:b∈trk h H:=List.mem_filter.mpr ⟨List.mem_range.mpr (Heap.lt_size e'),by simp [q]⟩
  have z:(hidT h H).get? b=none:=PySem.W.hideAll_none (trk h H) hm
  rw [z] at e;cases e
def allNews (g h:Heap) (L:Addr):List (Addr × Obj):=(List.range h.objs.size).filterMap fun a=>if a=L∨(g.get? a).isSome=true then none else (h.get? a).map fun o=>(a,o)
def rest (g h:Heap) (L d:Addr):List (Addr × Obj):=(allNews g h L).filter fun p=>decide (p.1≠d)
end L2
namespace L2
open PySem PySem.Spec PyProof.Rows
structure Mod (K:PySem.W.Frag) (mg:Str→Option Value) (base:Heap):Prop where
 kin:K.In base
 glob:base.Ns mainGlobals mg
 blt:∃ mb,base.Ns builtinsNs mb∧∀ x:Str,x≠"__name__"→mb x=bootBuiltins x
 nolimit:base.NoLimit
structure Cx where
 prog:Program
 w:World
 K:PySem.W.Frag
 mg:Str→Option Value
 base:Heap
 A:Around
 N:List Str
 s₀:Shared
 H₀:Hp
 env:Env
 outer:List Env
 stack:List Env
 ex:List Addr
 fn:Str→Bool
 calm:Bool
 pn:List (Addr × Obj)
 xe:Value→Shared→Prop
def frs (l:List Env):List Addr:=l.filterMap (·.frame)
abbrev Cx.fs (X:Cx):List Addr:=frs X.outer
def Vis (sc:Scope) (x:Str):Prop:=sc.names.lookup x=some .local∨sc.names.lookup x=some .cell∨sc.names.lookup x=some .free
def Loc (sc:Scope) (x:Str):Prop:=sc.names.lookup x=some .local∨sc.names.lookup x=some .cell
def Look (env:Env) (h:Heap) (m:Str→Option Value) (x:Str) (u:Value):Prop :=
 (env.kindOf x=some .local∧m x=some u)∨((env.kindOf x=some .cell∨env.kindOf x=some .free)∧∃ c,env.cells.lookup x=some c∧h.IsCell c (some u))
structure Cx.Ok (X:Cx):Prop where
 mod:Mod X.K X.mg X.base
 kind:X.env.scope.kind=.function
 glob:X.env.globals=mainGlobals
 blt:X.env.builtins=builtinsNs
 above:X.s₀.heap.objs.size≤X.env.locals
 inj:∀ x y c,X.env.cells.lookup x=some c→X.env.cells.lookup y=some c→x=y
 has:∀ x,(X.env.kindOf x=some .cell∨X.env.kindOf x=some .free)→∃ c,X.env.cells.lookup x=some c
 cab:∀ x c,X.fn x=true→X.env.cells.lookup x=some c→X.s₀.heap.objs.size≤c
 hd:X.calm=true→X.A.handled=none
 frames:X.A.frames=some X.stack
 stk:X.stack=X.outer∨(X.stack=X.env::X.outer∧X.env.frame=some X.env.locals)
 exf:∀ b∈X.ex,b≠X.env.locals∧∀ x c,X.env.cells.lookup x=some c→c≠b
 bs:∀ b o,X.base.get? b=some o→X.s₀.heap.get? b=some o∧X.H₀ b=none
 bsz:X.base.objs.size≤X.s₀.heap.objs.size
 noex:∀ b o,X.base.get? b=some o→b∉X.ex
 exfs:∀ b∈X.ex,b∉X.fs
 funs:X.s₀.heap.FunFrames X.base X.outer
 frf:∀ b∈X.fs,X.H₀ b=none
structure Inv (X:Cx) (pins:List (Addr × Obj)) (σ:List (Option V)) (H:Hp) (s:Shared):Prop where
 ok:X.Ok
 os:s.os=X.s₀.os
 bare:AllBare s.gens
 base:Un X.fs X.ex X.H₀ H X.s₀.heap s.heap
 loc:∃ m,s.heap.Ns X.env.locals m∧∀ (i:Nat) (x:Str) (v:V),X.N[i]?=some x→σ[i]?=some (some v)→Vis X.env.scope x→∃ u,RelV v u∧Look X.env s.heap m x u
 cell:∀ x c,X.env.cells.lookup x=some c→∃ v,s.heap.IsCell c v
 free:H X.env.locals=none
 freeC:∀ x c,X.env.cells.lookup x=some c→H c=none
 pin:∀ p∈X.pn++pins,s.heap.get? p.1=some p.2∧H p.1=none∧p.1≠X.env.locals∧p.1∉X.fs∧∀ v,p.2.data≠.cell v
 hok:HOk X.prog X.w H s.heap
 len:σ.length=X.N.length
section
variable {X:Cx} {pins:List (Addr × Obj)} {σ:List (Option V)} {H H':Hp} {s:Shared} {h':Heap}
theorem Cx.Ok.nofr (ok:X.Ok) {b:Addr} {o:Obj} (e:X.base.get? b=some o):b∉X.fs:=fun hb=>by
 have:=(ok.funs.mem hb).1
 rw [e] at this;cases this
theorem Inv.bs (I:Inv X pins σ H s):∀ b o,X.base.get? b=some o→s.heap.get? b=some o∧H b=none:=fun b o e =>
 ⟨I.base.keep b o (I.ok.bs b o e).1 (I.ok.bs b o e).2 (I.ok.nofr e) (I.ok.noex b o e),I.base.free b o (I.ok.bs b o e).1 (I.ok.bs b o e).2 (I.ok.noex b o e)⟩
theorem Inv.bk (I:Inv X pins σ H s):∀ b o,X.base.get? b=some o→s.heap.get? b=some o:=fun b o e=>(I.bs b o e).1
theorem Inv.mod (I:Inv X pins σ H s):Mod X.K X.mg X.base:=I.ok.mod
theorem Inv.kIn (I:Inv X pins σ H s):X.K.In s.heap:=I.ok.mod.kin.keeps I.bk
theorem Inv.nolimit (I:Inv X pins σ H s):s.heap.NoLimit:=I.ok.mod.nolimit.keeps I.bk
theorem Inv.lt (I:Inv X pins σ H s):X.env.locals<s.heap.objs.size:=let ⟨_,hn,_⟩:=I.loc;hn.lt
theorem Inv.sz (I:Inv X pins σ H s):X.s₀.heap.objs.size≤s.heap.objs.size:=Nat.le_trans I.ok.above (Nat.le_of_lt I.lt)
theorem Inv.nofs (I:Inv X pins σ H s) {a:Addr} (h:s.heap.objs.size≤a):a∉X.fs:=fun hb=>by
 obtain ⟨_,o,ho,_⟩:=I.ok.funs.mem hb
 exact absurd (Nat.lt_of_lt_of_le (Heap.lt_size ho) (Nat.le_trans I.sz h)) (Nat.lt_irrefl _)
theorem Inv.cne (I:Inv X pins σ H s):∀ x c,X.env.cells.lookup x=some c→c≠X.env.locals:=fun x c e z=>by
 obtain ⟨v,o,ho,hd⟩:=I.cell x c e
 obtain ⟨m,⟨o',es,ep,ho',hd',_⟩,_⟩:=I.loc
 rw [z,ho'] at ho;cases ho;rw [hd'] at hd;cases hd
theorem Inv.funs (I:Inv X pins σ H s):s.heap.FunFrames X.base X.outer:=by
 have all:∀ (l:List Env),(∀ b∈frs l,b∈X.fs)→X.s₀.heap.FunFrames X.base l→s.heap.FunFrames X.base l:=by
  intro l
  induction l with
  | nil=>intro _ _;trivial
  | cons env r ih =>
   intro hs hl
   obtain ⟨hk,⟨L,o,hf,hn,ho,hd⟩,hr⟩:=hl
   have hL:L∈X.fs:=hs L (by unfold frs;rw [List.filterMap_cons,hf];exact List.mem_cons_self)
   obtain ⟨sl,e⟩:=I.base.slot L o ho (I.ok.frf L hL) hL fun z=>I.ok.exfs L z hL
   exact ⟨hk,⟨L,_,hf,hn,e,hd⟩,ih (fun b hb=>hs b (by unfold frs;rw [List.filterMap_cons,hf];exact List.mem_cons_of_mem _ hb)) hr⟩
 exact all X.outer (fun _ hb=>hb) I.ok.funs
theorem Inv.stack (I:Inv X pins σ H s):s.heap.FunFrames X.base X.stack:=by
 rcases I.ok.stk with e | ⟨e,hf⟩
 ·rw [e];exact I.funs
 ·rw [e]
  obtain ⟨m,hn,_⟩:=I.loc
  refine .cons (by rw [I.ok.kind];decide) hf hn ?_ I.funs
  exact Heap.get?_none_of_le (Nat.le_trans I.ok.bsz I.ok.above)
theorem Inv.stkSub (I:Inv X pins σ H s):∀ b∈frs X.stack,b∈X.env.locals::X.fs:=fun b hb=>by
 rcases I.ok.stk with e | ⟨e,hf⟩
 ·rw [e] at hb;exact List.mem_cons_of_mem _ hb
 ·rw [e] at hb
  unfold frs at hb
  rw [List.filterMap_cons,hf] at hb
  exact hb
theorem Inv.stkFree (I:Inv X pins σ H s):∀ b∈frs X.stack,H b=none:=fun b hb=>by
 rcases List.mem_cons.mp (I.stkSub b hb) with e | hb
 ·rw [e];exact I.free
 ·obtain ⟨_,o,ho,_⟩:=I.ok.funs.mem hb
  exact I.base.free b o ho (I.ok.frf b hb) fun z=>I.ok.exfs b z hb
theorem Inv.step {g':Array GenState} {t':Nat} {d':Drawn} {ch:List Addr} (I:Inv X pins σ H s)
  (hch:∀ b∈ch,(b∈X.ex∨X.s₀.heap.objs.size≤b)∧b≠X.env.locals∧(∀ x c,X.env.cells.lookup x=some c→c≠b)∧∀ p∈X.pn++pins,p.1≠b)
  (keep:∀ b o,b≠X.env.locals→b∉X.fs→b∉ch→s.heap.get? b=some o→H b=none→h'.get? b=some o)
  (slot:∀ b o,b≠X.env.locals→b∈X.fs→b∉ch→s.heap.get? b=some o→H b=none→∃ sl,h'.get? b=some { o with slots:=sl }) (free:∀ b o,b∉ch→s.heap.get? b=some o→H b=none→H' b=none)
  (there:∀ b o,b∉ch→s.heap.get? b=some o→∃ o',h'.get? b=some o')
  (tups:∀ b xs,H b=some (.tup xs)→H' b=some (.tup xs)) (frzs:∀ b o u,H b=some (.frz o u)→H' b=some (.frz o u)) (tbls:∀ b ps,H b=some (.tbl ps)→∃ more,H' b=some (.tbl (ps++more)))
  (ns:∀ m,s.heap.Ns X.env.locals m→h'.Ns X.env.locals m) (hok:HOk X.prog X.w H' h') (hg:AllBare g') :
  Inv X pins σ H' { s with heap:=h',gens:=g',drawn:=d',toks:=t' }:=by
 have neL:∀ b o,X.s₀.heap.get? b=some o→b≠X.env.locals:=fun b o e=>Nat.ne_of_lt (Nat.lt_of_lt_of_le (Heap.lt_size e) I.ok.above)
 have neC:∀ b o,X.s₀.heap.get? b=some o→b∉X.ex→b∉ch:=fun b o e hx hb=>by
  rcases (hch b hb).1 with z | z
  ·exact hx z
  ·exact absurd (Nat.lt_of_lt_of_le (Heap.lt_size e) z) (Nat.lt_irrefl _)
 have cellK:∀ x c,X.env.cells.lookup x=some c→∀ v,s.heap.IsCell c v→h'.IsCell c v:=fun x c e v ⟨o,ho,hd⟩=>by
  have nch:c∉ch:=fun z=>(hch c z).2.2.1 x c e rfl
  by_cases hc:c∈X.fs
  ·obtain ⟨sl,q⟩:=slot c o (I.cne x c e) hc nch ho (I.freeC x c e)
   exact ⟨_,q,hd⟩
  ·exact ⟨o,keep c o (I.cne x c e) hc nch ho (I.freeC x c e),hd⟩
 refine ⟨I.ok,I.os,hg,⟨fun b o e n hb hx=>?_,fun b o e n hb hx=>?_,fun b o e n hx=>?_,fun b o e hx=>?_,fun b xs e=>tups b xs (I.base.tups b xs e),fun b o xs e=>frzs b o xs (I.base.frzs b o xs e),fun b ps e=>?_⟩,?_,fun x c e=>?_,?_,fun x c e=>?_,fun p hp=>?_,hok,I.len⟩
 ·exact keep b o (neL b o e) hb (neC b o e hx) (I.base.keep b o e n hb hx) (I.base.free b o e n hx)
 ·obtain ⟨sl,e1⟩:=I.base.slot b o e n hb hx
  obtain ⟨sl',e2⟩:=slot b _ (neL b o e) hb (neC b o e hx) e1 (I.base.free b o e n hx)
  exact ⟨sl',e2⟩
 ·obtain ⟨o',e1⟩:=I.base.there b o e hx
  exact free b o' (neC b o e hx) e1 (I.base.free b o e n hx)
 ·obtain ⟨o',e1⟩:=I.base.there b o e hx
  exact there b o' (neC b o e hx) e1
 ·obtain ⟨m1,e1⟩:=I.base.tbls b ps e
  obtain ⟨m2,e2⟩:=tbls b _ e1
  exact ⟨m1++m2,by rw [e2,Array.append_assoc]⟩
 ·obtain ⟨m,hn,hl⟩:=I.loc
  refine ⟨m,ns m hn,fun i x v e1 e2 e3=>?_⟩
  obtain ⟨u,r,l⟩:=hl i x v e1 e2 e3
  refine ⟨u,r,?_⟩
  rcases l with l | ⟨k,c,e,z⟩
  ·exact .inl l
  ·exact .inr ⟨k,c,e,cellK x c e _ z⟩
 ·obtain ⟨v,z⟩:=I.cell x c e
  exact ⟨v,cellK x c e v z⟩
 ·obtain ⟨m,⟨o,_,_,ho,_⟩,_⟩:=I.loc
  exact free _ o (fun z=>(hch _ z).2.1 rfl) ho I.free
 ·obtain ⟨v,o,ho,hd⟩:=I.cell x c e
  exact free c o (fun z=>(hch c z).2.2.1 x c e rfl) ho (I.freeC x c e)
 ·obtain ⟨e,n,ne,nf,d⟩:=I.pin p hp
  have nch:p.1∉ch:=fun z=>(hch p.1 z).2.2.2 p hp rfl
  exact ⟨keep p.1 p.2 ne nf nch e n,free p.1 p.2 nch e n,ne,nf,d⟩
theorem Inv.un {t':Nat} (I:Inv X pins σ H s) (u:Un X.fs [] H H' s.heap h') (hok:HOk X.prog X.w H' h'):Inv X pins σ H' { s with heap:=h',toks:=t' }:=by
 obtain ⟨m,⟨o,es,ep,ho,r⟩,_⟩:=id I.loc
 obtain ⟨sl,hL⟩:=u.any ho I.free (by simp)
 exact I.step (g':=s.gens) (d':=s.drawn) (ch:=[]) (fun _ z=>nomatch z) (fun b o _ hb _ e n=>u.keep b o e n hb (by simp)) (fun b o _ hb _ e n=>u.slot b o e n hb (by simp)) (fun b o _ e n=>u.free b o e n (by simp)) (fun b o _ e=>u.there b o e (by simp)) u.tups u.frzs u.tbls (fun m' hm=>by
  obtain ⟨o',es',ep',ho',r'⟩:=hm
  rw [ho] at ho';cases ho'
  exact ⟨_,es',ep',hL,r'⟩) hok I.bare
theorem Inv.call {g':Array GenState} {t':Nat} {d':Drawn} {ch:List Addr} (I:Inv X pins σ H s) (u:Un (frs X.stack) ch H H' s.heap h') (hok:HOk X.prog X.w H' h') (hg:AllBare g')
  (hch:∀ b∈ch,(b∈X.ex∨X.s₀.heap.objs.size≤b)∧b≠X.env.locals∧(∀ x c,X.env.cells.lookup x=some c→c≠b)∧∀ p∈X.pn++pins,p.1≠b) :
  Inv X pins σ H' { s with heap:=h',gens:=g',drawn:=d',toks:=t' }:=by
 obtain ⟨m,⟨o,es,ep,ho,r⟩,_⟩:=id I.loc
 obtain ⟨sl,hL⟩:=u.any ho I.free fun z=>(hch _ z).2.1 rfl
 exact I.step (ch:=ch) hch (fun b o hL hb hc e n=>u.keep b o e n (fun z=>(List.mem_cons.mp (I.stkSub b z)).elim hL hb) hc) (fun b o _ _ hc e n=>u.any e n hc) (fun b o hc e n=>u.free b o e n hc) (fun b o hc e=>u.there b o e hc) u.tups u.frzs u.tbls (fun m' hm=>by
  obtain ⟨o',es',ep',ho',r'⟩:=hm
  rw [ho] at ho';cases ho'
  exact ⟨_,es',ep',hL,r'⟩) hok hg
theorem Inv.turned {t':Nat} {it:Addr} (I:Inv X pins σ H s) (k:∀ b o,b≠it→s.heap.get? b=some o→h'.get? b=some o) (hn:H it=none) (hL:it≠X.env.locals)
  (h1:it∈X.ex∨X.s₀.heap.objs.size≤it) (h2:∀ x c,X.env.cells.lookup x=some c→c≠it) (h3:∀ p∈X.pn++pins,p.1≠it):Inv X pins σ H { s with heap:=h',toks:=t' }:=by
 have nit:∀ b u,H b=some u→b≠it:=fun b u e z=>by rw [z,hn] at e;cases e
 refine I.step (g':=s.gens) (d':=s.drawn) (ch:=[it]) (fun b hb=>?_) (fun b o _ _ hc e _=>k b o (fun z=>hc (by simp [z])) e) (fun b o _ _ hc e _=>⟨o.slots,k b o (fun z=>hc (by simp [z])) e⟩) (fun _ _ _ _ n=>n)
  (fun b o hc e=>⟨o,k b o (fun z=>hc (by simp [z])) e⟩) (fun _ _ e=>e) (fun _ _ _ e=>e) (fun b ps e=>⟨#[],by rw [e];simp⟩) (fun m hm=>?_) (fun b u e=>?_) I.bare
 ·have e:b=it:=by simpa using hb
  subst e
  exact ⟨h1,hL,h2,h3⟩
 ·obtain ⟨o,es,ep,ho,r⟩:=hm
  exact ⟨o,es,ep,k _ o (Ne.symm hL) ho,r⟩
 ·refine (I.hok b u e).stay (fun c v hc q=>k c v ?_ q) (fun _ q=>q) fun _ _ q=>q
  rcases hc with z | z
  ·rw [z];exact nit b u e
  ·exact nit c _ z
theorem Inv.tok (I:Inv X pins σ H s) (t:Nat):Inv X pins σ H { s with toks:=t }:=I.un (h':=s.heap) (t':=t) Un.refl I.hok
theorem Inv.kept {t':Nat} (I:Inv X pins σ H s) (k:∀ b u,s.heap.get? b=some u→h'.get? b=some u):Inv X pins σ H { s with heap:=h',toks:=t' }:=I.un (Un.kept k) (I.hok.kept k)
theorem Inv.laid {a:Addr} {o:HO} {t':Nat} (I:Inv X pins σ H s) (k:∀ b u,s.heap.get? b=some u→h'.get? b=some u) (hp:s.heap.objs.size≤a) (new:ObjOk X.prog X.w (upd H a o) h' a o) :
  Inv X pins σ (upd H a o) { s with heap:=h',toks:=t' }:=I.un (Un.laid k hp (I.hok.fresh hp)) (I.hok.laid k hp new)
theorem Inv.write {x e:Addr} {o:HO} {t':Nat} (I:Inv X pins σ H s) (mu:Mut (H x)) (he:e=x∨H e=some (.own x)) (k:∀ b u,b≠e→s.heap.get? b=some u→h'.get? b=some u) (heo:∃ u,h'.get? e=some u)
  (new:ObjOk X.prog X.w (upd H x o) h' x o):Inv X pins σ (upd H x o) { s with heap:=h',toks:=t' }:=I.un (Un.write mu he k heo) (I.hok.write mu he k heo new)
theorem Inv.pins_of {pins':List (Addr × Obj)} (I:Inv X pins σ H s) (h:∀ p∈pins',s.heap.get? p.1=some p.2∧H p.1=none∧p.1≠X.env.locals∧p.1∉X.fs∧∀ v,p.2.data≠.cell v):Inv X pins' σ H s :=
 ⟨I.ok,I.os,I.bare,I.base,I.loc,I.cell,I.free,I.freeC,fun p hp=>(List.mem_append.mp hp).elim (fun z=>I.pin p (List.mem_append_left _ z)) (h p),I.hok,I.len⟩
theorem nodup_ix {N:List Str} (hN:N.Nodup) {i j:Nat} {x:Str} (a:N[i]?=some x) (b:N[j]?=some x):i=j:=by
 obtain ⟨h1,e1⟩:=List.getElem?_eq_some_iff.mp a
 obtain ⟨h2,e2⟩:=List.getElem?_eq_some_iff.mp b
 exact (List.getElem_inj hN).mp (e1.trans e2.symm)
theorem store_ok2 {M:Model} {A:Around} {E:Value→Shared→Prop} {i:Nat} {x:Str} {v:V} {u:Value} {Q:Unit→Shared→Prop} (I:Inv X pins σ H s) (hN:X.N.Nodup) (hi:X.N[i]?=some x) (hx:Loc X.env.scope x) (r:RelV v u)
  (h:∀ s',Inv X pins (σ.set i (some v)) H s'→(∃ a,Heap.SameBut a s.heap s'.heap∧(a=X.env.locals∨X.env.cells.lookup x=some a))→Q () s') (hf:X.fn x=true∨X.env.scope.names.lookup x=some .local:=by first | exact .inl rfl | exact .inr rfl | assumption):wpAny M A (storeName X.env x u) Q E s:=by
 obtain ⟨m,hn,hl⟩:=id I.loc
 have hcls:(X.env.scope.kind == .class || (X.env.scope.kind == .module && X.env.locals != X.env.globals))=false:=by rw [I.ok.kind];rfl
 have hiσ:i<σ.length:=by rw [I.len];exact (List.getElem?_eq_some_iff.mp hi).1
 have cne:=I.cne
 have tracked:∀ {a:Addr} {h':Heap},(∃ o,s.heap.get? a=some o∧H a=none)→Heap.SameBut a s.heap h'→HOk X.prog X.w H h':=fun {a h'} ha hs b ob e=>by
  obtain ⟨_,_,hfree⟩:=ha
  refine (I.hok b ob e).stay (fun c w' hc q=>(hs.2 c ?_).trans q) (fun _ q=>q) fun _ _ q=>q
  rintro rfl
  rcases hc with rfl | hc
  ·rw [hfree] at e;cases e
  ·rw [hfree] at hc;cases hc
 rcases hx with hk | hk
 ·refine wpAny_storeName_local hk hn (fun h' hn' hs=>?_) hcls
  obtain ⟨oL,_,_,hoL,_⟩:=id hn
  refine h _ ⟨I.ok,I.os,I.bare,⟨fun b o e n hb hx=>?_,fun b o e n hb hx=>?_,I.base.free,fun b o e hx=>?_,I.base.tups,I.base.frzs,I.base.tbls⟩,⟨_,hn',fun j y v' e1 e2 e3=>?_⟩,fun y c e=>?_,I.free,I.freeC,fun p hp=>?_,tracked ⟨oL,hoL,I.free⟩ hs,by simpa using I.len⟩ ⟨_,hs,.inl rfl⟩
  ·exact (hs.2 b (Nat.ne_of_lt (Nat.lt_of_lt_of_le (Heap.lt_size e) I.ok.above))).trans (I.base.keep b o e n hb hx)
  ·obtain ⟨sl,e1⟩:=I.base.slot b o e n hb hx
   exact ⟨sl,(hs.2 b (Nat.ne_of_lt (Nat.lt_of_lt_of_le (Heap.lt_size e) I.ok.above))).trans e1⟩
  ·obtain ⟨o',e1⟩:=I.base.there b o e hx
   exact ⟨o',(hs.2 b (Nat.ne_of_lt (Nat.lt_of_lt_of_le (Heap.lt_size e) I.ok.above))).trans e1⟩
  ·by_cases hj:j=i
   ·subst hj
    rw [hi] at e1;cases e1
    rw [List.getElem?_set_self hiσ] at e2
    cases e2
    exact ⟨u,r,.inl ⟨hk,by simp⟩⟩
   ·rw [List.getElem?_set_ne (Ne.symm hj)] at e2
    obtain ⟨u',r',q⟩:=hl j y v' e1 e2 e3
    refine ⟨u',r',?_⟩
    rcases q with ⟨k,e⟩ | ⟨k,c,e,z⟩
    ·refine .inl ⟨k,?_⟩
     have:y≠x:=fun e=>hj (nodup_ix hN e1 (e▸hi))
     simp [this,e]
    ·exact .inr ⟨k,c,e,z.sameBut hs (cne y c e)⟩
  ·obtain ⟨w',z⟩:=I.cell y c e
   exact ⟨w',z.sameBut hs (cne y c e)⟩
  ·obtain ⟨e,n,ne,nf,d⟩:=I.pin p hp
   exact ⟨(hs.2 p.1 ne).trans e,n,ne,nf,d⟩
 ·have hfn:X.fn x=true:=by
   rcases hf with z | z
   ·exact z
   ·rw [z] at hk;cases hk
  obtain ⟨c,hc⟩:=I.ok.has x (.inl hk)
  obtain ⟨w',z⟩:=I.cell x c hc
  refine wpAny_storeName_cell I.ok.kind hk hc z (fun h' hc' hs=>?_)
  obtain ⟨oc,hoc,hocd⟩:=id z
  refine h { s with heap:=h' } ⟨I.ok,I.os,I.bare,⟨fun b o e n hb hx=>?_,fun b o e n hb hx=>?_,I.base.free,fun b o e hx=>?_,I.base.tups,I.base.frzs,I.base.tbls⟩,⟨m,hn.sameBut hs (Ne.symm (cne x c hc)),fun j y v' e1 e2 e3=>?_⟩,fun y c' e=>?_,I.free,I.freeC,fun p hp=>?_,tracked ⟨oc,hoc,I.freeC x c hc⟩ hs,by simpa using I.len⟩ ⟨c,hs,.inr hc⟩
  ·exact (hs.2 b (Nat.ne_of_lt (Nat.lt_of_lt_of_le (Heap.lt_size e) (I.ok.cab x c hfn hc)))).trans (I.base.keep b o e n hb hx)
  ·obtain ⟨sl,e1⟩:=I.base.slot b o e n hb hx
   exact ⟨sl,(hs.2 b (Nat.ne_of_lt (Nat.lt_of_lt_of_le (Heap.lt_size e) (I.ok.cab x c hfn hc)))).trans e1⟩
  ·obtain ⟨o',e1⟩:=I.base.there b o e hx
   exact ⟨o',(hs.2 b (Nat.ne_of_lt (Nat.lt_of_lt_of_le (Heap.lt_size e) (I.ok.cab x c hfn hc)))).trans e1⟩
  ·by_cases hj:j=i
   ·subst hj
    rw [hi] at e1;cases e1
    rw [List.getElem?_set_self hiσ] at e2
    cases e2
    exact ⟨u,r,.inr ⟨.inl hk,c,hc,hc'⟩⟩
   ·rw [List.getElem?_set_ne (Ne.symm hj)] at e2
    obtain ⟨u',r',q⟩:=hl j y v' e1 e2 e3
    refine ⟨u',r',?_⟩
    rcases q with q | ⟨k,c',e,z'⟩
    ·exact .inl q
    ·refine .inr ⟨k,c',e,z'.sameBut hs ?_⟩
     rintro rfl
     exact hj (nodup_ix hN e1 (I.ok.inj _ _ _ e hc▸hi))
  ·by_cases hcc:c'=c
   ·subst hcc;exact ⟨_,hc'⟩
   ·obtain ⟨w2,z2⟩:=I.cell y c' e
    exact ⟨w2,z2.sameBut hs hcc⟩
  ·obtain ⟨e,n,ne,nf,d⟩:=I.pin p hp
   refine ⟨(hs.2 p.1 ?_).trans e,n,ne,nf,d⟩
   intro q
   rw [q,hoc] at e
   have q':oc=p.2:=Option.some.inj e
   exact d w' (by rw [←q'];exact hocd)
theorem store_ok {M:Model} {A:Around} {E:Value→Shared→Prop} {i:Nat} {x:Str} {v:V} {u:Value} {Q:Unit→Shared→Prop} (I:Inv X pins σ H s) (hN:X.N.Nodup) (hi:X.N[i]?=some x) (hx:Loc X.env.scope x) (r:RelV v u)
  (h:∀ s',Inv X pins (σ.set i (some v)) H s'→Q () s') (hf:X.fn x=true∨X.env.scope.names.lookup x=some .local:=by first | exact .inl rfl | exact .inr rfl | assumption):wpAny M A (storeName X.env x u) Q E s :=
 store_ok2 I hN hi hx r (fun s' I' _=>h s' I') hf
theorem Inv.call' {s':Shared} {ch:List Addr} (I:Inv X pins σ H s) (ho:s'.os=s.os) (u:Un (frs X.stack) ch H H' s.heap s'.heap) (hok:HOk X.prog X.w H' s'.heap) (hg:AllBare s'.gens)
  (hch:∀ b∈ch,(b∈X.ex∨X.s₀.heap.objs.size≤b)∧b≠X.env.locals∧(∀ x c,X.env.cells.lookup x=some c→c≠b)∧∀ p∈X.pn++pins,p.1≠b):Inv X pins σ H' s':=by
 obtain ⟨h',g',d',t',o'⟩:=s'
 have e:o'=s.os:=ho
 subst e
 exact I.call (g':=g') (t':=t') (d':=d') u hok hg hch
end
abbrev XK:=Value→Option Addr→Hp→Prop
abbrev St:=List (Option V)
abbrev VK:=V→Hp→Prop
abbrev TE:=St→Hp→VK→Prop
abbrev TT:=St→Hp→(Bool→Hp→Prop)→Prop
abbrev TA:=St→Hp→(List V→Hp→Prop)→Prop
structure Ends where
 nx:St→Hp→Prop
 rt:VK
 bk:St→Hp→Prop:=fun _ _=>False
 ct:St→Hp→Prop:=fun _ _=>False
abbrev TS:=Ends→St→Hp→Prop
def EP (X:Cx) (pins:List (Addr × Obj)) (σ:St) (Q:VK) (u:Value) (s':Shared):Prop:=∃ v H',Inv X pins σ H' s'∧RelV v u∧Q v H'
def TP (X:Cx) (pins:List (Addr × Obj)) (σ:St) (Q:Bool→Hp→Prop) (b:Bool) (s':Shared):Prop:=∃ H',Inv X pins σ H' s'∧Q b H'
def AP (X:Cx) (pins:List (Addr × Obj)) (σ:St) (Q:List V→Hp→Prop) (us:List Value) (s':Shared):Prop:=∃ vs H',Inv X pins σ H' s'∧Vals vs us∧Q vs H'
def SP (X:Cx) (pins:List (Addr × Obj)) (D:Ends) (f:Flow) (s':Shared):Prop :=
 match f with
 | .next=>∃ σ' H',Inv X pins σ' H' s'∧D.nx σ' H'
 | .brk=>∃ σ' H',Inv X pins σ' H' s'∧D.bk σ' H'
 | .cont=>∃ σ' H',Inv X pins σ' H' s'∧D.ct σ' H'
 | .ret u=>∃ v σ' H',Inv X pins σ' H' s'∧RelV v u∧D.rt v H'
def PE (X:Cx) (e:Expr) (t:TE):Prop :=
 ∀ (pins:List (Addr × Obj)) (s:Shared) (σ:St) (H:Hp) (Q:VK),Inv X pins σ H s→t σ H Q→wpAny (model X.prog X.w) X.A (eval e X.env) (EP X pins σ Q) X.xe s
def PT (X:Cx) (e:Expr) (t:TT):Prop :=
 ∀ (pins:List (Addr × Obj)) (s:Shared) (σ:St) (H:Hp) (Q:Bool→Hp→Prop),Inv X pins σ H s→t σ H Q→wpAny (model X.prog X.w) X.A (isTrue e X.env (eval e X.env)) (TP X pins σ Q) X.xe s
def PW (X:Cx) (e:Expr) (t:TT):Prop :=
 ∀ (whole:Sem Value) (pins:List (Addr × Obj)) (s:Shared) (σ:St) (H:Hp) (Q:Bool→Hp→Prop),Inv X pins σ H s→t σ H Q→wpAny (model X.prog X.w) X.A (isTrue e X.env whole) (TP X pins σ Q) X.xe s
theorem PW.pt {X:Cx} {e:Expr} {t:TT} (h:PW X e t):PT X e t:=h _
def PA (X:Cx) (es:List Expr) (t:TA):Prop :=
 ∀ (pos:Pos) (pins:List (Addr × Obj)) (s:Shared) (σ:St) (H:Hp) (Q:List V→Hp→Prop),Inv X pins σ H s→t σ H Q→wpAny (model X.prog X.w) X.A (spliced (backTo pos (starEach es X.env))) (AP X pins σ Q) X.xe s
def PS (X:Cx) (st:Stmt) (t:TS):Prop :=
 ∀ (pins:List (Addr × Obj)) (s:Shared) (σ:St) (H:Hp) (D:Ends),Inv X pins σ H s→t D σ H→wpAny (model X.prog X.w) X.A (exec st X.env) (SP X pins D) X.xe s
def PSs (X:Cx) (st:List Stmt) (t:TS):Prop :=
 ∀ (pins:List (Addr × Obj)) (s:Shared) (σ:St) (H:Hp) (D:Ends),Inv X pins σ H s→t D σ H→wpAny (model X.prog X.w) X.A (execs st X.env) (SP X pins D) X.xe s
theorem thn {α:Type} {t:Sem α} {Q Q':α→Shared→Prop} {M:Model} {A:Around} {E:Value→Shared→Prop} {s:Shared} (h:wpAny M A t Q E s) (hQ:∀ a s,Q a s→Q' a s):wpAny M A t Q' E s:=wpAny_mono h hQ fun _ _ x=>x
end L2
namespace L2
open PySem PySem.Spec PyProof.Rows
section
variable {X:Cx}
def tVar (i:Nat):TE:=fun σ H Q=>∃ v,σ[i]?=some (some v)∧Q v H
def tC (v:V):TE:=fun _ H Q=>Q v H
theorem pe_var {i:Nat} {x:Str} {pos:Pos} (hN:X.N[i]?=some x) (hv:Vis X.env.scope x) (hd:(x == ("__debug__":Str))=false:=by decide) (hcd:(x == ("__classdict__":Str))=false:=by decide):PE X (.Name x pos) (tVar i):=by
 intro pins s σ H Q I h
 obtain ⟨v,e,h⟩:=h
 obtain ⟨m,hn,hl⟩:=I.loc
 obtain ⟨u,r,l⟩:=hl i x v hN e hv
 have fin:EP X pins σ Q u s:=⟨v,H,I,r,h⟩
 rcases l with ⟨hk,hm⟩ | ⟨hk,c,hc,hcell⟩
 ·exact wpAny_Name (wpAny_loadName_local I.ok.kind hk hn hm fin) hd
 ·rcases hk with hk | hk
  ·exact wpAny_Name (wpAny_loadName_cell I.ok.kind hk hc hcell fin) hd
  ·exact wpAny_Name (wpAny_loadName_free I.ok.kind hk hc hcell fin hcd) hd
theorem pe_int {i j pos}:PE X (.Constant (.int i) j pos) (tC (.int i)):=fun _ _ _ H _ I h=>wpAny_Constant_int ⟨.int i,H,I.tok _,⟨_,rfl⟩,h⟩
theorem pe_bl {b j pos}:PE X (.Constant (.bool b) j pos) (tC (.bl b)):=fun _ _ _ H _ I h=>Constant_bool ⟨.bl b,H,I,rfl,h⟩
theorem pe_non {j pos}:PE X (.Constant .none j pos) (tC .non):=fun _ _ _ H _ I h=>Constant_none ⟨.non,H,I,rfl,h⟩
theorem pe_str {x j pos}:PE X (.Constant (.str x) j pos) (tC (.str x)):=fun _ _ _ H _ I h=>Calls.Constant_str ⟨.str x,H,I.tok _,⟨_,rfl⟩,h⟩
def Gl (X:Cx) (x:Str):Prop:=X.env.kindOf x=some .globalImplicit
theorem ld_glob {E:Value→Shared→Prop} {pins:List (Addr × Obj)} {s:Shared} {σ:St} {H:Hp} {x:Str} {u:Value} {pos:Pos} {Q:Value→Shared→Prop} (I:Inv X pins σ H s) (hg:Gl X x) (hm:X.mg x=some u) (h:Q u s)
  (hd:(x == ("__debug__":Str))=false:=by decide):wpAny (model X.prog X.w) X.A (eval (.Name x pos) X.env) Q E s :=
 Calls.Name_function_global I.ok.kind hg (Calls.loadGlobal_global (by rw [I.ok.glob];exact I.mod.glob.keeps I.bk) hm h) hd
theorem ld_blt {E:Value→Shared→Prop} {pins:List (Addr × Obj)} {s:Shared} {σ:St} {H:Hp} {x:Str} {u:Value} {pos:Pos} {Q:Value→Shared→Prop} (I:Inv X pins σ H s) (hg:Gl X x) (hm:X.mg x=none) (hv:bootBuiltins x=some u) (h:Q u s)
  (hn:x≠"__name__":=by decide) (hd:(x == ("__debug__":Str))=false:=by decide):wpAny (model X.prog X.w) X.A (eval (.Name x pos) X.env) Q E s:=by
 obtain ⟨mb,h1,h2⟩:=I.mod.blt
 exact Calls.Name_function_global I.ok.kind hg (Calls.loadGlobal_builtin (by rw [I.ok.glob];exact I.mod.glob.keeps I.bk) hm (by rw [I.ok.blt];exact h1.keeps I.bk) ((h2 x hn).trans hv) h) hd
theorem pe_glob {x:Str} {v:V} {u:Value} {pos:Pos} (hg:Gl X x) (hm:X.mg x=some u) (r:RelV v u) (hd:(x == ("__debug__":Str))=false:=by decide):PE X (.Name x pos) (tC v) :=
 fun _ _ _ H _ I h=>ld_glob I hg hm ⟨v,H,I,r,h⟩ hd
theorem pe_bltn {x:Str} {v:V} {u:Value} {pos:Pos} (hg:Gl X x) (hm:X.mg x=none) (hv:bootBuiltins x=some u) (r:RelV v u) (hn:x≠"__name__":=by decide) (hd:(x == ("__debug__":Str))=false:=by decide):PE X (.Name x pos) (tC v) :=
 fun _ _ _ H _ I h=>ld_blt I hg hm hv ⟨v,H,I,r,h⟩ hn hd
variable {a b:Expr} {ta tb:TE} {pos:Pos}
def tB (t:TE):TT:=fun σ H Q=>t σ H fun x H1=>∃ c,x=.bl c∧Q c H1
theorem pt_val {e:Expr} {t:TE} (h:PE X e t) (he:∀ whole,isTrue e X.env whole=(do let v ←whole;standAt e.pos;holding [v] (truthy v)):=by intro _;rfl):PT X e (tB t):=by
 intro pins s σ H Q I hw
 refine isTrue_plain (thn (h pins s σ H _ I hw) fun v s1 ⟨x,H1,I1,r1,q1⟩=>?_) (he _)
 obtain ⟨d,rfl,q⟩:=q1
 cases r1
 exact wpAny_truthy_bool ⟨H1,I1,q⟩
variable {tA tB':TT} {rest:List Expr}
def tAnd (t u:TT):TT:=fun σ H Q=>t σ H fun c H1=>if c=true then u σ H1 Q else Q false H1
def tOr (t u:TT):TT:=fun σ H Q=>t σ H fun c H1=>if c=true then Q true H1 else u σ H1 Q
def tNot (t:TT):TT:=fun σ H Q=>t σ H fun c H1=>Q (!c) H1
theorem pw_and1 (ha:PT X a tA):PW X (.BoolOp .And [a] pos) tA:=by
 intro wh pins s σ H Q I h
 refine isTrue_and (thn (ha pins s σ H Q I h) fun c s1 e=>?_)
 cases c with
 | true=>exact isTrue_and_nil e
 | false=>exact e
theorem pw_or1 (ha:PT X a tA):PW X (.BoolOp .Or [a] pos) tA:=by
 intro wh pins s σ H Q I h
 refine isTrue_or (thn (ha pins s σ H Q I h) fun c s1 e=>?_)
 cases c with
 | false=>exact isTrue_or_nil e
 | true=>exact e
theorem pw_and (ha:PT X a tA) (hb:PW X (.BoolOp .And (b::rest) pos) tB'):PW X (.BoolOp .And (a::b::rest) pos) (tAnd tA tB'):=by
 intro wh pins s σ H Q I h
 refine isTrue_and (thn (ha pins s σ H _ I h) fun c s1 ⟨H1,I1,q1⟩=>?_)
 cases c with
 | true=>exact hb wh pins s1 σ H1 Q I1 q1
 | false=>exact ⟨H1,I1,q1⟩
theorem pw_or (ha:PT X a tA) (hb:PW X (.BoolOp .Or (b::rest) pos) tB'):PW X (.BoolOp .Or (a::b::rest) pos) (tOr tA tB'):=by
 intro wh pins s σ H Q I h
 refine isTrue_or (thn (ha pins s σ H _ I h) fun c s1 ⟨H1,I1,q1⟩=>?_)
 cases c with
 | true=>exact ⟨H1,I1,q1⟩
 | false=>exact hb wh pins s1 σ H1 Q I1 q1
theorem pt_not (ha:PT X a tA):PT X (.UnaryOp .Not a pos) (tNot tA):=by
 intro pins s σ H Q I h
 exact isTrue_not (ha pins s σ H (fun c H1=>Q (!c) H1) I h)
def tAndV (ta tb:TE):TE:=fun σ H Q=>ta σ H fun x H1=>∃ c,x=.bl c∧if c=true then tb σ H1 Q else Q (.bl false) H1
def tOrV (ta tb:TE):TE:=fun σ H Q=>ta σ H fun x H1=>∃ c,x=.bl c∧if c=true then Q (.bl true) H1 else tb σ H1 Q
def tNotV (ta:TE):TE:=fun σ H Q=>ta σ H fun x H1=>∃ c,x=.bl c∧Q (.bl (!c)) H1
theorem pe_one {op} {t:TE} (h:PE X a t):PE X (.BoolOp op [a] pos) t:=fun pins s σ H Q I hw=>BoolOp_one (h pins s σ H Q I hw)
theorem pe_and (ha:PE X a ta) (hb:PE X (.BoolOp .And (b::rest) pos) tb):PE X (.BoolOp .And (a::b::rest) pos) (tAndV ta tb):=by
 intro pins s σ H Q I h
 refine BoolOp_and (thn (ha pins s σ H _ I h) fun v s1 ⟨x,H1,I1,r1,q1⟩=>?_)
 obtain ⟨c,rfl,q1⟩:=q1
 cases r1
 refine wpAny_truthy_bool ?_
 cases c with
 | true=>exact hb pins s1 σ H1 Q I1 q1
 | false=>exact ⟨.bl false,H1,I1,rfl,q1⟩
theorem pe_not (ha:PE X a ta):PE X (.UnaryOp .Not a pos) (tNotV ta):=by
 intro pins s σ H Q I h
 refine UnaryOp_ (thn (ha pins s σ H _ I h) fun v s1 ⟨x,H1,I1,r1,q1⟩=>?_)
 obtain ⟨c,rfl,q1⟩:=q1
 cases r1
 exact not_of (wpAny_truthy_bool ⟨.bl (!c),H1,I1,rfl,q1⟩)
def tIf (t:TT) (ta tb:TE):TE:=fun σ H Q=>t σ H fun c H1=>if c=true then ta σ H1 Q else tb σ H1 Q
theorem pe_ifExp {c:Expr} (hc:PT X c tA) (ha:PE X a ta) (hb:PE X b tb):PE X (.IfExp c a b pos) (tIf tA ta tb):=by
 intro pins s σ H Q I h
 refine wpAny_IfExp (thn (hc pins s σ H _ I h) fun d s1 ⟨H1,I1,q1⟩=>?_)
 cases d with
 | true=>exact ha pins s1 σ H1 Q I1 q1
 | false=>exact hb pins s1 σ H1 Q I1 q1
end
end L2
namespace L2
open PySem PySem.Spec PyProof.Rows
def SqL (K:PySem.W.Frag) (H:Hp) (a:Addr) (xs:List V):Prop :=
 Rd H a (.lst xs) ∨
  ∃ (o:Obj) (its:Array Value) (n:Nat),K.lookup a=some o∧o.cls=.type "list"∧o.dict=none∧o.data=.seq its n∧its.size≤sizeLine∧Vals xs its.toList
def SqT (K:PySem.W.Frag) (H:Hp) (a:Addr) (xs:List V):Prop :=
 Rd H a (.tup xs) ∨
  ∃ (o:Obj) (its:Array Value) (n:Nat),K.lookup a=some o∧o.cls=.type "tuple"∧o.data=.seq its n∧its.size≤sizeLine∧Vals xs its.toList
def absV:Value→Option V
 | .none=>some .non
 | .bool b=>some (.bl b)
 | .int i _=>some (.int i)
 | .str x _=>some (.str x)
 | .bytes b _=>some (.byt b)
 | .float b _=>some (.flt b)
 | .ref a=>some (.ref a)
 | .type n=>some (.ty n)
 | _=>none
theorem RelV.abs {x:V} {u:Value} (r:RelV x u):absV u=some x:=by
 cases x with
 | non=>cases r;rfl
 | bl _=>cases r;rfl
 | int _=>obtain ⟨t,rfl⟩:=r;rfl
 | str _=>obtain ⟨t,rfl⟩:=r;rfl
 | byt _=>obtain ⟨t,rfl⟩:=r;rfl
 | flt _=>obtain ⟨t,rfl⟩:=r;rfl
 | ref _=>cases r;rfl
 | ty _=>cases r;rfl
theorem RelV.inj {x y:V} {u:Value} (r:RelV x u) (q:RelV y u):x=y:=Option.some.inj (r.abs.symm.trans q.abs)
theorem Vals.inj:∀ {xs ys:List V} {us:List Value},Vals xs us→Vals ys us→xs=ys
 | _,_,_,.nil,.nil=>rfl
 | _,_,_,.cons r t,.cons r' t'=>by rw [r.inj r',Vals.inj t t']
section
variable {X:Cx} {pins:List (Addr × Obj)} {σ:St} {H:Hp} {s:Shared} {a:Addr} {xs ys:List V}
theorem SqL.of {K:PySem.W.Frag} (h:H a=some (.lst xs)):SqL K H a xs:=.inl (.inl h)
theorem SqT.of {K:PySem.W.Frag} (h:H a=some (.tup xs)):SqT K H a xs:=.inl (.inl h)
theorem Inv.list (I:Inv X pins σ H s) (h:SqL X.K H a xs):∃ its:List Value,Vals xs its∧PlainL s.heap a its.toArray∧xs.length≤sizeLine:=by
 rcases h with h | ⟨o,its,n,hk,hc,hd,hs,hz,r⟩
 ·obtain ⟨z,its,n,r,e⟩:=h.ok I.hok
  exact ⟨its,r,⟨_,n,e,rfl,rfl,rfl⟩,z⟩
 ·refine ⟨its.toList,r,⟨o,n,I.kIn a o hk,hc,hd,by simpa using hs⟩,?_⟩
  have e:=r.length
  simp only [Array.length_toList] at e
  lia
theorem Inv.tuple (I:Inv X pins σ H s) (h:SqT X.K H a xs):∃ its:List Value,Vals xs its∧IsTup s.heap a its.toArray∧xs.length≤sizeLine:=by
 rcases h with h | ⟨o,its,n,hk,hc,hs,hz,r⟩
 ·obtain ⟨z,its,r,p⟩:=h.ok I.hok
  exact ⟨its,r,p,z⟩
 ·refine ⟨its.toList,r,⟨o,I.kIn a o hk,hc,n,by simpa using hs⟩,?_⟩
  have e:=r.length
  simp only [Array.length_toList] at e
  lia
theorem Inv.list_inj (I:Inv X pins σ H s) (h:SqL X.K H a xs) (h':SqL X.K H a ys):xs=ys:=by
 obtain ⟨its,r,⟨o,n,e,_,_,d⟩,_⟩:=I.list h
 obtain ⟨its',r',⟨o',n',e',_,_,d'⟩,_⟩:=I.list h'
 rw [e] at e';cases e'
 rw [d] at d'
 injection d' with d1 _
 have:its=its':=by simpa using congrArg Array.toList d1
 subst this
 exact r.inj r'
theorem Inv.tuple_inj (I:Inv X pins σ H s) (h:SqT X.K H a xs) (h':SqT X.K H a ys):xs=ys:=by
 obtain ⟨its,r,⟨o,e,_,n,d⟩,_⟩:=I.tuple h
 obtain ⟨its',r',⟨o',e',_,n',d'⟩,_⟩:=I.tuple h'
 rw [e] at e';cases e'
 rw [d] at d'
 injection d' with d1 _
 have:its=its':=by simpa using congrArg Array.toList d1
 subst this
 exact r.inj r'
end
abbrev Cx.wish (X:Cx) (E:Value→Shared→Prop):Cx:={ X with xe:=E }
abbrev Cx.nox (X:Cx):Cx:=X.wish fun _ _=>False
theorem Cx.Ok.wish {X:Cx} (ok:X.Ok) (E:Value→Shared→Prop):(X.wish E).Ok :=
 ⟨ok.mod,ok.kind,ok.glob,ok.blt,ok.above,ok.inj,ok.has,ok.cab,ok.hd,ok.frames,ok.stk,ok.exf,ok.bs,ok.bsz,ok.noex,ok.exfs,ok.funs,ok.frf⟩
theorem Cx.Ok.unwish {X:Cx} {E:Value→Shared→Prop} (ok:(X.wish E).Ok):X.Ok :=
 ⟨ok.mod,ok.kind,ok.glob,ok.blt,ok.above,ok.inj,ok.has,ok.cab,ok.hd,ok.frames,ok.stk,ok.exf,ok.bs,ok.bsz,ok.noex,ok.exfs,ok.funs,ok.frf⟩
section
variable {X:Cx} {pins:List (Addr × Obj)} {σ:St} {H:Hp} {s:Shared} {E:Value→Shared→Prop}
theorem Inv.wish (I:Inv X pins σ H s) (E:Value→Shared→Prop):Inv (X.wish E) pins σ H s:=⟨I.ok.wish E,I.os,I.bare,I.base,I.loc,I.cell,I.free,I.freeC,I.pin,I.hok,I.len⟩
theorem Inv.unwish (I:Inv (X.wish E) pins σ H s):Inv X pins σ H s:=⟨I.ok.unwish,I.os,I.bare,I.base,I.loc,I.cell,I.free,I.freeC,I.pin,I.hok,I.len⟩
theorem SP.unwish {D:Ends} {f:Flow} {s':Shared} (h:SP (X.wish E) pins D f s'):SP X pins D f s':=by
 cases f with
 | next=>obtain ⟨σ',H',I,q⟩:=h;exact ⟨σ',H',I.unwish,q⟩
 | brk=>obtain ⟨σ',H',I,q⟩:=h;exact ⟨σ',H',I.unwish,q⟩
 | cont=>obtain ⟨σ',H',I,q⟩:=h;exact ⟨σ',H',I.unwish,q⟩
 | ret u=>obtain ⟨v,σ',H',I,r,q⟩:=h;exact ⟨v,σ',H',I.unwish,r,q⟩
theorem PE.nox {e:Expr} {t:TE} (h:PE X.nox e t):PE X e t:=fun pins s σ H Q I hw =>
 wpAny_mono (h pins s σ H Q (I.wish _) hw) (fun _ _ ⟨v,H',I',r,q⟩=>⟨v,H',I'.unwish,r,q⟩) fun _ _ z=>False.elim z
theorem PT.nox {e:Expr} {t:TT} (h:PT X.nox e t):PT X e t:=fun pins s σ H Q I hw =>
 wpAny_mono (h pins s σ H Q (I.wish _) hw) (fun _ _ ⟨H',I',q⟩=>⟨H',I'.unwish,q⟩) fun _ _ z=>False.elim z
theorem PSs.nox {st:List Stmt} {t:TS} (h:PSs X.nox st t):PSs X st t:=fun pins s σ H D I hw =>
 wpAny_mono (h pins s σ H D (I.wish _) hw) (fun _ _ q=>q.unwish) fun _ _ z=>False.elim z
end
section
variable {X:Cx} {st:Stmt} {rest:List Stmt} {t u:TS} {e:Expr} {te:TE} {pos:Pos}
def tNext:TS:=fun D σ H=>D.nx σ H
def tSeq (t u:TS):TS:=fun D σ H=>t { D with nx:=u D } σ H
theorem pss_nil:PSs X [] tNext:=fun _ _ σ H _ I h=>wpAny_execs_nil ⟨σ,H,I,h⟩
theorem pss_cons (h1:PS X st t) (h2:PSs X rest u):PSs X (st::rest) (tSeq t u):=by
 intro pins s σ H D I h
 refine wpAny_execs_cons (thn (h1 pins s σ H { D with nx:=u D } I h) fun f s1 q=>?_)
 cases f with
 | next =>
  obtain ⟨σ',H',I',q⟩:=q
  exact h2 pins s1 σ' H' D I' q
 | ret v=>exact q
 | brk=>exact q
 | cont=>exact q
theorem pss_one (h1:PS X st t):PSs X [st] t:=by
 intro pins s σ H D I h
 refine wpAny_execs_cons (thn (h1 pins s σ H D I h) fun f s1 q=>?_)
 cases f with
 | next=>exact wpAny_execs_nil q
 | ret v=>exact q
 | brk=>exact q
 | cont=>exact q
theorem Inv.quiet {pins:List (Addr × Obj)} {σ:St} {H:Hp} {s:Shared} (I:Inv X pins σ H s):interactive X.env=false:=by simp [interactive,I.ok.kind]
def tDrop (te:TE):TS:=fun D σ H=>te σ H fun _ H1=>D.nx σ H1
theorem ps_expr (he:PE X e te) (hs:swapsWith e none pos.line X.env=pure false:=by rfl):PS X (.Expr e pos) (tDrop te):=by
 intro pins s σ H D I h
 exact wpAny_Expr_any (thn (he pins s σ H _ I h) fun v s1 ⟨x,H1,I1,r1,q1⟩=>⟨σ,H1,I1,q1⟩) I.quiet hs
def tRet (te:TE):TS:=fun D σ H=>te σ H D.rt
theorem ps_ret (he:PE X e te):PS X (.Return (some e) pos) (tRet te):=by
 intro pins s σ H D I h
 exact wpAny_Return_some (thn (he pins s σ H _ I h) fun v s1 ⟨x,H1,I1,r1,q1⟩=>⟨x,σ,H1,I1,r1,q1⟩)
def tRetN:TS:=fun D _ H=>D.rt .non H
def tIfS (c:TT) (t u:TS):TS:=fun D σ H=>c σ H fun b H1=>if b=true then t D σ H1 else u D σ H1
theorem ps_if {c:Expr} {a b:List Stmt} {tc:TT} (hc:PT X c tc) (ha:PSs X a t) (hb:PSs X b u):PS X (.If c a b pos) (tIfS tc t u):=by
 intro pins s σ H D I h
 refine wpAny_If (thn (hc pins s σ H _ I h) fun d s1 ⟨H1,I1,q1⟩=>?_)
 cases d with
 | true=>exact ha pins s1 σ H1 D I1 q1
 | false=>exact hb pins s1 σ H1 D I1 q1
end
abbrev TG:=V→St→Hp→(St→Hp→Prop)→Prop
abbrev TGs:=List V→St→Hp→(St→Hp→Prop)→Prop
def PG (X:Cx) (target:Expr) (t:TG):Prop :=
 ∀ (pins:List (Addr × Obj)) (s:Shared) (σ:St) (H:Hp) (v:V) (u:Value) (Q:St→Hp→Prop),Inv X pins σ H s→RelV v u→t v σ H Q →
  wpAny (model X.prog X.w) X.A (assign target X.env u) (fun _ s'=>∃ σ' H',Inv X pins σ' H' s'∧Q σ' H') X.xe s
def PGs (X:Cx) (ts:List Expr) (t:TGs):Prop :=
 ∀ (pins:List (Addr × Obj)) (s:Shared) (σ:St) (H:Hp) (vs:List V) (us:List Value) (Q:St→Hp→Prop),Inv X pins σ H s→Vals vs us→t vs σ H Q →
  wpAny (model X.prog X.w) X.A (assignInOrder ((assignEach ts X.env).map (·.2)) us) (fun _ s'=>∃ σ' H',Inv X pins σ' H' s'∧Q σ' H') X.xe s
abbrev TSet:=V→V→V→Hp→(Hp→Prop)→Prop
def PSet (X:Cx) (t:TSet):Prop :=
 ∀ (pins:List (Addr × Obj)) (s:Shared) (σ:St) (H:Hp) (o i v:V) (ov iv u:Value) (Q:Hp→Prop),Inv X pins σ H s→RelV o ov→RelV i iv→RelV v u→t o i v H Q →
  wpAny (model X.prog X.w) X.A (setItem ov iv u) (fun _ s'=>∃ H',Inv X pins σ H' s'∧Q H') X.xe s
section
variable {X:Cx} {pos:Pos}
def gName (i:Nat):TG:=fun v σ H Q=>Q (σ.set i (some v)) H
theorem pg_name {i:Nat} {x:Str} (hN:X.N.Nodup) (hi:X.N[i]?=some x) (hx:Loc X.env.scope x) (hf:X.fn x=true∨X.env.scope.names.lookup x=some .local:=by first | exact .inl rfl | exact .inr rfl | assumption):PG X (.Name x pos) (gName i):=by
 intro pins s σ H v u Q I r h
 exact wpAny_assign_Name (store_ok I hN hi hx r (fun s' I'=>⟨_,H,I',h⟩) hf)
def gNil:TGs:=fun vs σ H Q=>vs=[]∧Q σ H
def gCons (t:TG) (u:TGs):TGs:=fun vs σ H Q=>∃ v r,vs=v::r∧t v σ H fun σ' H'=>u r σ' H' Q
theorem pgs_nil:PGs X [] gNil:=by
 intro pins s σ H vs us Q I r h
 obtain ⟨e,h⟩:=h
 subst e
 cases r
 exact assignInOrder_nil ⟨σ,H,I,h⟩
theorem pgs_cons {e:Expr} {es:List Expr} {t:TG} {u:TGs} (h1:PG X e t) (h2:PGs X es u)
  (hs:(assignEach (e::es) X.env).map (·.2)=assign e X.env::(assignEach es X.env).map (·.2):=by rfl):PGs X (e::es) (gCons t u):=by
 intro pins s σ H vs us Q I r h
 obtain ⟨v,vr,e1,h⟩:=h
 subst e1
 cases r with
 | cons r rr =>
  rw [hs]
  refine assignInOrder_cons (thn (h1 pins s σ H _ _ _ I r h) fun _ s1 ⟨σ1,H1,I1,q1⟩=>?_)
  exact h2 pins s1 σ1 H1 _ _ Q I1 rr q1
def gTup (K:PySem.W.Frag) (n:Nat) (t:TGs):TG:=fun v σ H Q=>∃ a xs,v=.ref a∧SqT K H a xs∧xs.length=n∧t xs σ H Q
theorem pg_tup {es:List Expr} {k:Nat} {t:TGs} {n:Nat} (hc:X.calm=true) (h:PGs X es t)
  (hn:(assignEach es X.env).length=n:=by rfl) (hst:(assignEach es X.env).findIdx? (·.1)=none:=by rfl):PG X (.Tuple es k pos) (gTup X.K n t):=by
 intro pins s σ H v u Q I r hw
 obtain ⟨a,xs,e1,hq,hl,hw⟩:=hw
 subst e1
 cases r
 obtain ⟨its,rv,ht,hz⟩:=I.tuple hq
 refine assign_Tuple_tuple (I.ok.hd hc) ht (by simp [hn,←hl,rv.length]) hst fun h' hx=>?_
 have I1:Inv X pins σ H { s with heap:=h' }:=I.kept (t':=s.toks) fun b o e=>hx b o (Nat.ne_of_lt (Heap.lt_size e)) e
 exact h pins _ σ H xs _ Q I1 (by simpa using rv) hw
def gSub (to ti:TE) (t:TSet):TG:=fun v σ H Q=>to σ H fun o H1=>ti σ H1 fun i H2=>t o i v H2 fun H3=>Q σ H3
theorem pg_sub {o i:Expr} {to ti:TE} {t:TSet} (ho:PE X o to) (hi:PE X i ti) (hs:PSet X t)
  (ha:∀ v,assign (.Subscript o i pos) X.env v=(do
   let ov ←holding [v] (eval o X.env)
   let iv ←holding [v,ov] (eval i X.env)
   standAt pos
   holding [v,ov,iv] (setItem ov iv v)
   release [v,ov,iv] []):=by intro _;rfl):PG X (.Subscript o i pos) (gSub to ti t):=by
 intro pins s σ H v u Q I r h
 rw [ha]
 refine wpAny_bind (wpAny_holding (thn (ho pins s σ H _ I h) fun ov s1 ⟨x,H1,I1,r1,q1⟩=>?_))
 refine wpAny_bind (wpAny_holding (thn (hi pins s1 σ H1 _ I1 q1) fun iv s2 ⟨y,H2,I2,r2,q2⟩=>?_))
 refine wpAny_bind (wpAny_standAt (wpAny_bind (wpAny_holding (thn (hs pins s2 σ H2 x y v ov iv u _ I2 r1 r2 r q2) fun _ s3 ⟨H3,I3,q3⟩=>?_))))
 exact wpAny_release ⟨σ,H3,I3,q3⟩
def tAsg (te:TE) (g:TG):TS:=fun D σ H=>te σ H fun x H1=>g x σ H1 D.nx
theorem ps_asg {tg e:Expr} {te:TE} {g:TG} (he:PE X e te) (hg:PG X tg g) (hs:swapsWithSole [tg] e pos.line X.env=pure false:=by rfl) (hw:swappedStores [tg] e X.env=pure none:=by rfl)
  (h1:(assignEach [tg] X.env).map (·.2)=[assign tg X.env]:=by rfl):PS X (.Assign [tg] e pos) (tAsg te g):=by
 intro pins s σ H D I h
 refine wpAny_Assign_stores (thn (he pins s σ H _ I h) fun v s1 ⟨x,H1,I1,r1,q1⟩=>?_) hs hw
 rw [h1]
 exact thn (hg pins s1 σ H1 x v _ I1 r1 q1) fun _ s2 q=>q
theorem ps_set {i:Nat} {x:Str} {e:Expr} {te:TE} {pos':Pos} (hN:X.N.Nodup) (hi:X.N[i]?=some x) (hx:Loc X.env.scope x) (he:PE X e te) (hs:swapsWith e (some (.Name x pos')) pos.line X.env=pure false:=by rfl) (hf:X.fn x=true∨X.env.scope.names.lookup x=some .local:=by first | exact .inl rfl | exact .inr rfl | assumption) :
  PS X (.Assign [.Name x pos'] e pos) (tAsg te (gName i)):=by
 intro pins s σ H D I h
 refine wpAny_Assign_Name (thn (he pins s σ H _ I h) fun v s1 ⟨y,H1,I1,r1,q1⟩=>?_) hs
 exact store_ok I1 hN hi hx r1 (fun s2 I2=>⟨_,H1,I2,q1⟩) hf
end
section
variable {X:Cx} {pos:Pos}
def tWhile (c:TT) (tb:TS):TS:=fun D σ H=>∃ W:Nat→St→Hp→Prop,(∃ m,W m σ H)∧∀ m σ H,W m σ H →
 c σ H fun b H1=>if b=true then ∃ N:St→Hp→Prop,(∀ σ' H',N σ' H'→∃ m',m'<m∧W m' σ' H')∧tb { D with nx:=N,ct:=N,bk:=D.nx } σ H1 else D.nx σ H1
theorem ps_while {c:Expr} {body:List Stmt} {tc:TT} {tb:TS} (hp:PassesOwn (model X.prog X.w) X.A X.env X.xe) (hc:PT X c tc) (hb:PSs X body tb):PS X (.While c body [] pos) (tWhile tc tb):=by
 intro pins s σ H D I h
 obtain ⟨W,⟨m0,w0⟩,turn⟩:=h
 refine wpAny_While (codeAny_whileLoop (fun n s'=>∃ σ' H',Inv X pins σ' H' s'∧W n σ' H') ?_ m0 ⟨σ,H,I,w0⟩)
 rintro n s1 ⟨σ1,H1,I1,w1⟩
 refine wpAny_passesOwn hp (thn (hc pins s1 σ1 H1 _ I1 (turn n σ1 H1 w1)) fun b s2 ⟨H2,I2,q2⟩=>?_)
 cases b with
 | true =>
  obtain ⟨N,hN,q2⟩:=q2
  rw [if_pos rfl]
  refine wpAny_passesOwn hp (thn (hb pins s2 σ1 H2 _ I2 q2) fun f s3 q3=>?_)
  cases f with
  | next =>
   obtain ⟨σ3,H3,I3,n3⟩:=q3
   obtain ⟨m',hm,w3⟩:=hN σ3 H3 n3
   exact ⟨m',hm,σ3,H3,I3,w3⟩
  | cont =>
   obtain ⟨σ3,H3,I3,n3⟩:=q3
   obtain ⟨m',hm,w3⟩:=hN σ3 H3 n3
   exact ⟨m',hm,σ3,H3,I3,w3⟩
  | brk=>exact q3
  | ret v=>exact q3
 | false =>
  rw [if_neg Bool.false_ne_true]
  exact wpAny_execs_nil ⟨σ1,H2,I2,q2⟩
end
structure It where
 go:Nat→Hp→Prop
 yld:Nat→Hp→V→Hp→Prop
 stop:Nat→Hp→Prop
def FpOk (X:Cx) (pins:List (Addr × Obj)) (H:Hp) (b:Addr):Prop :=
 H b=none∧b≠X.env.locals∧b∉X.fs∧(b∈X.ex∨X.s₀.heap.objs.size≤b)∧(∀ x c,X.env.cells.lookup x=some c→c≠b)∧∀ p∈X.pn++pins,p.1≠b
theorem Inv.fpOk {X:Cx} {pins:List (Addr × Obj)} {σ:St} {H H':Hp} {s:Shared} {b:Addr} (I:Inv X pins σ H s) (hb:s.heap.objs.size≤b) (hn:H' b=none):FpOk X pins H' b:=by
 refine ⟨hn,Nat.ne_of_gt (Nat.lt_of_lt_of_le I.lt hb),I.nofs hb,.inr (Nat.le_trans I.sz hb),fun x c e z=>?_,fun p hp z=>?_⟩
 ·obtain ⟨v,q⟩:=I.cell x c e
  exact absurd (Nat.lt_of_lt_of_le q.lt (by rw [z];exact hb)) (Nat.lt_irrefl _)
 ·exact absurd (Nat.lt_of_lt_of_le (Heap.lt_size (I.pin p hp).1) (by rw [z];exact hb)) (Nat.lt_irrefl _)
structure Turn (P:Program) (w:World) (K:PySem.W.Frag) (tg:Expr) (J:It) (fp:List Addr) (it:Addr) (tn:Nat→Heap→Prop):Prop where
 mem:it∈fp
 obj:∀ i h,tn i h→∀ b∈fp,∃ o,h.get? b=some o∧∀ v,o.data≠.cell v
 keep:∀ i h h',tn i h→(∀ b∈fp,∀ o,h.get? b=some o→h'.get? b=some o)→tn i h'
 item:∀ (X:Cx),X.prog=P→X.w=w→X.K=K→X.calm=true→∀ (i:Nat) (pins:List (Addr × Obj)) (s:Shared) (σ:St) (H:Hp) (E:Value→Shared→Prop),Inv X pins σ H s→(∀ b∈fp,FpOk X pins H b)→tn i s.heap→J.go i H →
  wpAny (model P w) X.A (pyNext (.ref it)) (fun r s1=>∃ u,r=some u ∧
   wpAny (model P w) X.A (letOwnedTupleGo tg (.ref it) u) (fun _ s2=>∃ x H',Inv X pins σ H' s2∧RelV x u∧J.yld i H x H'∧tn (i+1) s2.heap∧∀ b∈fp,H' b=none) E s1) E s
 done:∀ (X:Cx),X.prog=P→X.w=w→X.K=K→X.calm=true→∀ (i:Nat) (pins:List (Addr × Obj)) (s:Shared) (σ:St) (H:Hp) (E:Value→Shared→Prop),Inv X pins σ H s→(∀ b∈fp,FpOk X pins H b)→tn i s.heap→J.stop i H →
  wpAny (model P w) X.A (pyNext (.ref it)) (fun r s1=>r=none∧Inv X pins σ H s1) E s
 self:∀ (A:Around) (i:Nat) (s:Shared) (Q:Value→Shared→Prop) (E:Value→Shared→Prop),tn i s.heap→Q (.ref it) s→wpAny (model P w) A (pyIter (.ref it)) Q E s
abbrev TI:=St→Hp→(It→Hp→Prop)→Prop
def PIE (X:Cx) (pins:List (Addr × Obj)) (σ:St) (tg:Expr) (R:It→Hp→Prop) (itv:Value) (s2:Shared):Prop :=
 ∃ (it:Addr) (fp:List Addr) (tn:Nat→Heap→Prop) (J:It) (H':Hp),itv=.ref it∧Inv X pins σ H' s2∧Turn X.prog X.w X.K tg J fp it tn∧tn 0 s2.heap∧(∀ b∈fp,FpOk X pins H' b)∧R J H'
def PI (X:Cx) (tg iter:Expr) (wi:TI):Prop :=
 ∀ (pins:List (Addr × Obj)) (s:Shared) (σ:St) (H:Hp) (R:It→Hp→Prop),Inv X pins σ H s→wi σ H R →
  wpAny (model X.prog X.w) X.A (eval iter X.env) (fun v s1=>wpAny (model X.prog X.w) X.A (pyIter v) (PIE X pins σ tg R) X.xe s1) X.xe s
theorem go_of {M:Model} {A:Around} {E:Value→Shared→Prop} {s:Shared} {tg:Expr} {it:Addr} {u:Value} {o:Obj} {n:String} {vs:Array Value} {Q:Unit→Shared→Prop} (ho:s.heap.get? it=some o) (hc:o.cls=.type n) (hd:o.data=.fields vs)
  (hn:["enumerate","zip","dict_itemiterator","dict_reverseitemiterator","odict_iterator","itertools.zip_longest","itertools.pairwise"].contains n=false) (hQ:Q () s):wpAny M A (letOwnedTupleGo tg (.ref it) u) Q E s:=by
 unfold letOwnedTupleGo
 cases tg <;> first
  | exact wpAny_pure hQ
  | (cases u <;> first
    | exact wpAny_pure hQ
    | (refine wpAny_bind (wpAny_load ho ?_)
       rw [hc,hd]
       show wpAny M A (if (["enumerate","zip","dict_itemiterator","dict_reverseitemiterator","odict_iterator","itertools.zip_longest","itertools.pairwise"].contains n && vs[0]? == some (rawInt _))=true then _ else _) Q E s
       rw [if_neg (by intro h;rw [hn,Bool.false_and] at h;cases h)]
       exact wpAny_pure hQ))
def Itl (K:PySem.W.Frag) (a:Addr):It :=
 ⟨fun i H=>∃ xs x,SqL K H a xs∧xs[i]?=some x,fun i H x H'=>H'=H∧∀ xs,SqL K H a xs→xs[i]?=some x,fun i H=>∃ xs,SqL K H a xs∧xs.length≤i⟩
def Itt (K:PySem.W.Frag) (a:Addr):It :=
 ⟨fun i H=>∃ xs x,SqT K H a xs∧xs[i]?=some x,fun i H x H'=>H'=H∧∀ xs,SqT K H a xs→xs[i]?=some x,fun i H=>∃ xs,SqT K H a xs∧xs.length≤i⟩
def Itr (lo:Int) (n:Nat):It:=⟨fun i _=>i<n,fun i H x H'=>H'=H∧x=.int (lo+i),fun i _=>n≤i⟩
theorem turn_list {P:Program} {w:World} {K:PySem.W.Frag} {tg:Expr} (a it:Addr):Turn P w K tg (Itl K a) [it] it (fun i h=>h.IsListIter it a i) where
 mem:=by simp
 obj:=fun i h st b hb=>by
  have e:b=it:=by simpa using hb
  subst e
  obtain ⟨o,e,c,d⟩:=st
  exact ⟨o,e,fun v z=>by rw [d] at z;cases z⟩
 keep:=fun i h h' st k=>st.at fun o e=>k it (by simp) o e
 item:=by
  intro X hP hw hK hc i pins s σ H E I hf st hg
  subst hP hw hK
  obtain ⟨xs,x,hq,hx⟩:=hg
  obtain ⟨its,rv,p,hz⟩:=I.list hq
  obtain ⟨u,hu,ru⟩:=rv.get hx
  obtain ⟨f0,f1,f2,f3,f4,f5⟩:=hf it (by simp)
  refine wpAny_pyNext_list_item st p.isList (x:=u) (by simpa using hu) fun h' st' sb=>?_
  have I1:Inv X pins σ H { s with heap:=h' }:=I.turned (t':=s.toks) (fun b o hb e=>(sb.2 b hb).trans e) f0 f1 f3 f4 f5
  obtain ⟨o,e,c,d⟩:=id st'
  exact ⟨u,rfl,go_of (s:={ s with heap:=h' }) e c d (by decide) ⟨x,H,I1,ru,⟨rfl,fun ys hy=>by rw [I.list_inj hy hq];exact hx⟩,st',fun b hb=>(hf b hb).1⟩⟩
 done:=by
  intro X hP hw hK hc i pins s σ H E I hf st hg
  subst hP hw hK
  obtain ⟨xs,hq,hx⟩:=hg
  obtain ⟨its,rv,p,hz⟩:=I.list hq
  obtain ⟨f0,f1,f2,f3,f4,f5⟩:=hf it (by simp)
  have hl:=rv.length
  exact wpAny_pyNext_list_end (I.ok.hd hc) st p.isList (by simp;lia) fun h' eb=>⟨rfl,I.turned (t':=s.toks) (fun b o hb e=>eb b o hb e) f0 f1 f3 f4 f5⟩
 self:=fun _ _ _ _ _ st h=>wpAny_pyIter_listiter st h
theorem turn_tuple {P:Program} {w:World} {K:PySem.W.Frag} {tg:Expr} (a it:Addr):Turn P w K tg (Itt K a) [it] it (fun i h=>h.IsTupleIter it a i) where
 mem:=by simp
 obj:=fun i h st b hb=>by
  have e:b=it:=by simpa using hb
  subst e
  obtain ⟨o,e,c,d⟩:=st
  exact ⟨o,e,fun v z=>by rw [d] at z;cases z⟩
 keep:=fun i h h' st k=>st.at fun o e=>k it (by simp) o e
 item:=by
  intro X hP hw hK hc i pins s σ H E I hf st hg
  subst hP hw hK
  obtain ⟨xs,x,hq,hx⟩:=hg
  obtain ⟨its,rv,p,hz⟩:=I.tuple hq
  obtain ⟨u,hu,ru⟩:=rv.get hx
  obtain ⟨f0,f1,f2,f3,f4,f5⟩:=hf it (by simp)
  refine wpAny_pyNext_tuple_item st (show s.heap.IsTuple a its.toArray from p) (x:=u) (by simpa using hu) fun h' st' sb=>?_
  have I1:Inv X pins σ H { s with heap:=h' }:=I.turned (t':=s.toks) (fun b o hb e=>(sb.2 b hb).trans e) f0 f1 f3 f4 f5
  obtain ⟨o,e,c,d⟩:=id st'
  exact ⟨u,rfl,go_of (s:={ s with heap:=h' }) e c d (by decide) ⟨x,H,I1,ru,⟨rfl,fun ys hy=>by rw [I.tuple_inj hy hq];exact hx⟩,st',fun b hb=>(hf b hb).1⟩⟩
 done:=by
  intro X hP hw hK hc i pins s σ H E I hf st hg
  subst hP hw hK
  obtain ⟨xs,hq,hx⟩:=hg
  obtain ⟨its,rv,p,hz⟩:=I.tuple hq
  obtain ⟨f0,f1,f2,f3,f4,f5⟩:=hf it (by simp)
  have hl:=rv.length
  exact wpAny_pyNext_tuple_end (I.ok.hd hc) st (show s.heap.IsTuple a its.toArray from p) (by simp;lia) fun h' eb=>⟨rfl,I.turned (t':=s.toks) (fun b o hb e=>eb b o hb e) f0 f1 f3 f4 f5⟩
 self:=fun _ _ _ _ _ st h=>wpAny_pyIter_tupleiter st h
theorem turn_range {P:Program} {w:World} {K:PySem.W.Frag} {tg:Expr} (it:Addr) (lo:Int) (n:Nat):Turn P w K tg (Itr lo n) [it] it (fun i h=>IsRangeIter h it (lo+(i:Nat)*1) ((n:Int) - (i:Nat)) 1) where
 mem:=by simp
 obj:=fun i h st b hb=>by
  have e:b=it:=by simpa using hb
  subst e
  exact ⟨_,st,fun v z=>by
   have z':Data.fields _=Data.cell v:=z
   cases z'⟩
 keep:=fun i h h' st k=>k it (by simp) _ st
 item:=by
  intro X hP hw hK hc i pins s σ H E I hf st hg
  subst hP hw hK
  obtain ⟨f0,f1,f2,f3,f4,f5⟩:=hf it (by simp)
  have W:=Walks.range (prog:=X.prog) (w:=X.w) (I.ok.hd hc) it lo 1 n
  refine W.item i s _ _ hg st fun v h' tk hv st' kk=>?_
  obtain ⟨t,rfl⟩:=hv
  have I1:Inv X pins σ H { s with heap:=h',toks:=tk }:=I.turned (fun b o hb e=>kk b o (by simpa using hb) e) f0 f1 f3 f4 f5
  refine ⟨_,rfl,go_of (s:={ s with heap:=h',toks:=tk }) (n:="range_iterator") st' rfl rfl (by decide) ⟨.int (lo+i),H,I1,⟨t,?_⟩,⟨rfl,rfl⟩,st',fun b hb=>(hf b hb).1⟩⟩
  rw [Int.mul_one]
 done:=by
  intro X hP hw hK hc i pins s σ H E I hf st hg
  subst hP hw hK
  obtain ⟨f0,f1,f2,f3,f4,f5⟩:=hf it (by simp)
  exact wpAny_pyNext_range_end (I.ok.hd hc) st (by have:n≤i:=hg;lia) fun h' eb=>⟨rfl,I.turned (t':=s.toks) (fun b o hb e=>eb b o hb e) f0 f1 f3 f4 f5⟩
 self:=fun _ _ _ _ _ st h=>wpAny_pyIter_rangeiter st h
end L2
namespace L2
open PySem PySem.Spec PyProof.Rows
section
variable {X:Cx} {tg:Expr}
def iList (K:PySem.W.Frag) (tl:TE):TI:=fun σ H R=>tl σ H fun x H1=>∃ a,x=.ref a∧(∃ xs,SqL K H1 a xs)∧R (Itl K a) H1
def iTup (K:PySem.W.Frag) (tl:TE):TI:=fun σ H R=>tl σ H fun x H1=>∃ a,x=.ref a∧(∃ xs,SqT K H1 a xs)∧R (Itt K a) H1
theorem pi_list {l:Expr} {tl:TE} (hl:PE X l tl):PI X tg l (iList X.K tl):=by
 intro pins s σ H R I h
 refine thn (hl pins s σ H _ I h) fun v s1 ⟨x,H1,I1,r1,q1⟩=>?_
 obtain ⟨a,e,⟨xs,hq⟩,q⟩:=q1
 subst e
 cases r1
 obtain ⟨its,rv,p,hz⟩:=I1.list hq
 refine wpAny_pyIter_list p.isList ?_
 refine ⟨s1.heap.objs.size,[s1.heap.objs.size],_,_,H1,rfl,I1.kept (t':=s1.toks) fun b o e=>Heap.get?_push_of_some _ e,turn_list a _,⟨_,Heap.get?_push_size _ rfl,rfl,rfl⟩,fun b hb=>?_,q⟩
 have e:b=s1.heap.objs.size:=by simpa using hb
 subst e
 exact I1.fpOk (Nat.le_refl _) (I1.hok.fresh (Nat.le_refl _))
theorem pi_tup {l:Expr} {tl:TE} (hl:PE X l tl):PI X tg l (iTup X.K tl):=by
 intro pins s σ H R I h
 refine thn (hl pins s σ H _ I h) fun v s1 ⟨x,H1,I1,r1,q1⟩=>?_
 obtain ⟨a,e,⟨xs,hq⟩,q⟩:=q1
 subst e
 cases r1
 obtain ⟨its,rv,p,hz⟩:=I1.tuple hq
 refine wpAny_pyIter_tuple (show s1.heap.IsTuple a its.toArray from p) ?_
 refine ⟨s1.heap.objs.size,[s1.heap.objs.size],_,_,H1,rfl,I1.kept (t':=s1.toks) fun b o e=>Heap.get?_push_of_some _ e,turn_tuple a _,⟨_,Heap.get?_push_size _ rfl,rfl,rfl⟩,fun b hb=>?_,q⟩
 have e:b=s1.heap.objs.size:=by simpa using hb
 subst e
 exact I1.fpOk (Nat.le_refl _) (I1.hok.fresh (Nat.le_refl _))
theorem range_it {pins:List (Addr × Obj)} {σ:St} {H:Hp} {s:Shared} {R:It→Hp→Prop} {E:Value→Shared→Prop} {lo hi:Int} {t u v:Tok} {tk:Nat} (I:Inv X pins σ H s) (h1:-(2^62)≤lo) (h2:lo<2^62) (h3:-(2^62)≤hi) (h4:hi<2^62)
  (q:R (Itr lo (hi - lo).toNat) H):wpAny (model X.prog X.w) X.A (pyIter (.ref s.heap.objs.size)) (PIE X pins σ tg R) E { s with heap:=s.heap.push { cls:=.type "range",data:=.fields #[.int lo t,.int hi u,.int 1 v] },toks:=tk }:=by
 refine wpAny_pyIter_range (IsRange.new ..) (small_one h1 h2 h3 h4) ?_
 have I1:Inv X pins σ H { s with heap:=s.heap.push { cls:=.type "range",data:=.fields #[.int lo t,.int hi u,.int 1 v] },toks:=tk }:=I.kept fun b o e=>Heap.get?_push_of_some _ e
 refine ⟨(s.heap.push { cls:=.type "range",data:=.fields #[.int lo t,.int hi u,.int 1 v] }).objs.size,[(s.heap.push { cls:=.type "range",data:=.fields #[.int lo t,.int hi u,.int 1 v] }).objs.size],_,_,H,rfl,
  I1.kept (t':=tk) fun b o e=>Heap.get?_push_of_some _ e,turn_range _ lo (hi - lo).toNat,?_,fun b hb=>?_,q⟩
 ·have e1:lo+((0:Nat):Int)*1=lo:=by simp
  have e2:(((hi - lo).toNat:Nat):Int) - ((0:Nat):Int)=Builtin.Range.rangeSize lo hi 1:=by rw [rangeSize_one];split <;> lia
  show IsRangeIter _ _ (lo+((0:Nat):Int)*1) ((((hi - lo).toNat:Nat):Int) - ((0:Nat):Int)) 1
  rw [e1,e2]
  exact Heap.get?_push_size _ rfl
 ·have e:b=(s.heap.push { cls:=.type "range",data:=.fields #[.int lo t,.int hi u,.int 1 v] }).objs.size:=by simpa using hb
  subst e
  exact I1.fpOk (Nat.le_refl _) (I1.hok.fresh (Nat.le_refl _))
def iRng1 (ta:TA):TI:=fun σ H R=>ta σ H fun vs H1=>∃ j:Int,vs=[.int j]∧-(2^62)≤j∧j<2^62∧R (Itr 0 j.toNat) H1
def iRng2 (ta:TA):TI:=fun σ H R=>ta σ H fun vs H1=>∃ i j:Int,vs=[.int i,.int j]∧(-(2^62)≤i∧i<2^62∧-(2^62)≤j∧j<2^62)∧R (Itr i (j - i).toNat) H1
theorem pi_range1 {a:Expr} {ta:TA} {p pos:Pos} (hg:Gl X "range") (hm:X.mg "range"=none) (ha:PA X [a] ta) (hs:starEach [a] X.env=[(false,eval a X.env)]:=by rfl):PI X tg (.Call (.Name "range" p) [a] [] pos) (iRng1 ta):=by
 intro pins s σ H R I h
 refine Call_ (ld_blt I hg hm boot_range (PyProof.Rows.callWith_type1 (thn (ha pos pins s σ H _ I h) fun us s1 ⟨vs,H1,I1,r1,q1⟩=>?_) hs rfl))
 obtain ⟨j,e,q1,q2,q⟩:=q1
 subst e
 cases r1 with
 | cons r rr =>
  cases rr
  obtain ⟨t,rfl⟩:=r
  exact call_range_1 (range_it I1 (by lia) (by lia) q1 q2 (by simpa using q))
theorem pi_range2 {a b:Expr} {ta:TA} {p pos:Pos} (hg:Gl X "range") (hm:X.mg "range"=none) (ha:PA X [a,b] ta) (hs:starEach [a,b] X.env=[(false,eval a X.env),(false,eval b X.env)]:=by rfl) (hs2:starEach [b] X.env=[(false,eval b X.env)]:=by rfl) :
  PI X tg (.Call (.Name "range" p) [a,b] [] pos) (iRng2 ta):=by
 intro pins s σ H R I h
 refine Call_ (ld_blt I hg hm boot_range (PyProof.Rows.callWith_type1 (thn (ha pos pins s σ H _ I h) fun us s1 ⟨vs,H1,I1,r1,q1⟩=>?_) (by rw [hs,hs2]) (by rw [hs2];rfl)))
 obtain ⟨i,j,e,⟨q1,q2,q3,q4⟩,q⟩:=q1
 subst e
 cases r1 with
 | cons r rr =>
  cases rr with
  | cons r' rr =>
   cases rr
   obtain ⟨t,rfl⟩:=r
   obtain ⟨t',rfl⟩:=r'
   exact call_range_2 (range_it I1 q1 q2 q3 q4 q)
def tFor (wi:TI) (g:TG) (tb:TS):TS:=fun D σ H=>wi σ H fun J H1=>∃ W:Nat→Nat→St→Hp→Prop,(∃ m,W 0 m σ H1)∧∀ i m σ H,W i m σ H →
 (J.stop i H∧D.nx σ H)∨(J.go i H∧∃ N:St→Hp→Prop,(∀ σ' H',N σ' H'→∃ m',m'<m∧W (i+1) m' σ' H')∧∀ x H',J.yld i H x H'→g x σ H' fun σ2 H2=>tb { D with nx:=N,ct:=N,bk:=D.nx } σ2 H2)
def pinsAt (fp:List Addr) (h:Heap):List (Addr × Obj):=fp.filterMap fun b=>(h.get? b).map fun o=>(b,o)
theorem mem_pinsAt {fp:List Addr} {h:Heap} {b:Addr} {o:Obj} (hb:b∈fp) (e:h.get? b=some o):(b,o)∈pinsAt fp h:=List.mem_filterMap.mpr ⟨b,hb,by rw [e];rfl⟩
theorem of_pinsAt {fp:List Addr} {h:Heap} {p:Addr × Obj} (hp:p∈pinsAt fp h):p.1∈fp∧h.get? p.1=some p.2:=by
 obtain ⟨b,hb,e⟩:=List.mem_filterMap.mp hp
 cases q:h.get? b with
 | none=>rw [q] at e;cases e
 | some o =>
  rw [q] at e
  have e':(b,o)=p:=Option.some.inj e
  subst e'
  exact ⟨hb,q⟩
theorem Inv.pinned {pins:List (Addr × Obj)} {σ:St} {H:Hp} {s:Shared} {fp:List Addr} (I:Inv X pins σ H s) (hf:∀ b∈fp,FpOk X pins H b) (ho:∀ b∈fp,∃ o,s.heap.get? b=some o∧∀ v,o.data≠.cell v):Inv X (pins++pinsAt fp s.heap) σ H s :=
 I.pins_of fun p hp=>(List.mem_append.mp hp).elim (fun z=>I.pin p (List.mem_append_right _ z)) fun z=>by
  obtain ⟨hb,e⟩:=of_pinsAt z
  obtain ⟨f0,f1,f2,_⟩:=hf p.1 hb
  obtain ⟨o,e',d⟩:=ho p.1 hb
  rw [e] at e';cases e'
  exact ⟨e,f0,f1,f2,d⟩
theorem Inv.unpinned {pins pl:List (Addr × Obj)} {σ:St} {H:Hp} {s:Shared} (I:Inv X (pins++pl) σ H s):Inv X pins σ H s:=I.pins_of fun p hp=>I.pin p (List.mem_append_right _ (List.mem_append_left _ hp))
theorem ps_for {iter:Expr} {body:List Stmt} {wi:TI} {g:TG} {tb:TS} {pos:Pos} (hp:PassesOwn (model X.prog X.w) X.A X.env X.xe) (hc:X.calm=true) (hi:PI X tg iter wi) (hg:PG X tg g) (hb:PSs X body tb)
  (hs:∀ x,foldedSetIterable iter X.env x=pure x:=by intro _;rfl):PS X (.For tg iter body [] pos) (tFor wi g tb):=by
 intro pins s σ H D I h
 refine wpAny_For (thn (hi pins s σ H _ I h) fun v s1 h1=>thn h1 fun itv s2 h2=>?_) hs
 obtain ⟨it,fp,tn,J,H2,e,I2,T,st2,f2,W,⟨m0,w0⟩,turn⟩:=h2
 subst e
 have stat:∀ {H':Hp},(∀ b∈fp,H' b=none)→∀ b∈fp,FpOk X pins H' b:=fun hn b hb=>⟨hn b hb,(f2 b hb).2⟩
 refine codeAny_forLoop_any (fun n s'=>∃ i σ' H',Inv X pins σ' H' s'∧tn i s'.heap∧(∀ b∈fp,H' b=none)∧W i n σ' H') ?_ m0 ⟨0,σ,H2,I2,st2,fun b hb=>(f2 b hb).1,w0⟩
 rintro n s3 ⟨i,σ3,H3,I3,st3,fr3,w3⟩
 rcases turn i n σ3 H3 w3 with ⟨stop,qn⟩ | ⟨go,N,hN,step⟩
 ·refine wpAny_passesOwn hp (thn (T.done X rfl rfl rfl hc i pins s3 σ3 H3 X.xe I3 (stat fr3) st3 stop) fun r s4 ⟨hr,I4⟩=>?_)
  subst hr
  exact wpAny_execs_nil ⟨σ3,H3,I4,qn⟩
 ·refine wpAny_passesOwn hp (thn (T.item X rfl rfl rfl hc i pins s3 σ3 H3 X.xe I3 (stat fr3) st3 go) fun r s4 ⟨u,hr,h4⟩=>?_)
  subst hr
  refine wpAny_passesOwn hp (thn h4 fun _ s5 ⟨x,H5,I5,r5,y5,st5,fr5⟩=>?_)
  have I5':=I5.pinned (stat fr5) (T.obj _ _ st5)
  refine wpAny_passesOwn hp (thn (hg _ s5 σ3 H5 x u _ I5' r5 (step x H5 y5)) fun _ s6 ⟨σ6,H6,I6,q6⟩=>?_)
  refine wpAny_passesOwn hp (thn (hb _ s6 σ6 H6 _ I6 q6) fun f s7 q7=>?_)
  have again:∀ {σ7:St} {H7:Hp},Inv X (pins++pinsAt fp s5.heap) σ7 H7 s7→N σ7 H7→∃ m,m<n∧∃ i σ' H',Inv X pins σ' H' s7∧tn i s7.heap∧(∀ b∈fp,H' b=none)∧W i m σ' H':=fun {σ7 H7} I7 n7=>by
   obtain ⟨m',hm,w7⟩:=hN σ7 H7 n7
   refine ⟨m',hm,i+1,σ7,H7,I7.unpinned,T.keep _ _ _ st5 fun b hb o e=>(I7.pin (b,o) (List.mem_append_right _ (List.mem_append_right _ (mem_pinsAt hb e)))).1,fun b hb=>?_,w7⟩
   obtain ⟨o,e,d⟩:=T.obj _ _ st5 b hb
   exact (I7.pin (b,o) (List.mem_append_right _ (List.mem_append_right _ (mem_pinsAt hb e)))).2.1
  cases f with
  | next=>obtain ⟨σ7,H7,I7,n7⟩:=q7;exact again I7 n7
  | cont=>obtain ⟨σ7,H7,I7,n7⟩:=q7;exact again I7 n7
  | brk=>obtain ⟨σ7,H7,I7,q7⟩:=q7;exact ⟨σ7,H7,I7.unpinned,q7⟩
  | ret v=>obtain ⟨x7,σ7,H7,I7,r7,q7⟩:=q7;exact ⟨x7,σ7,H7,I7.unpinned,r7,q7⟩
end
theorem for_list {K:PySem.W.Frag} {a:Addr} {xs:List V} {g:TG} {tb:TS} {D:Ends} {σ:St} {H:Hp} (Pv:Nat→St→Hp→Prop) (h0:Pv 0 σ H) (hl:∀ i σ H,i≤xs.length→Pv i σ H→SqL K H a xs)
  (hs:∀ i x σ H,xs[i]?=some x→Pv i σ H→g x σ H fun σ2 H2=>tb { D with nx:=Pv (i+1),ct:=Pv (i+1),bk:=D.nx } σ2 H2) (hd:∀ σ H,Pv xs.length σ H→D.nx σ H) :
  ∃ W:Nat→Nat→St→Hp→Prop,(∃ m,W 0 m σ H)∧∀ i m σ H,W i m σ H →
   ((Itl K a).stop i H∧D.nx σ H)∨((Itl K a).go i H∧∃ N:St→Hp→Prop,(∀ σ' H',N σ' H'→∃ m',m'<m∧W (i+1) m' σ' H')∧∀ x H',(Itl K a).yld i H x H'→g x σ H' fun σ2 H2=>tb { D with nx:=N,ct:=N,bk:=D.nx } σ2 H2):=by
 refine ⟨fun i m σ H=>m=xs.length - i∧i≤xs.length∧Pv i σ H,⟨xs.length,by simp,Nat.zero_le _,h0⟩,?_⟩
 rintro i m σ H ⟨rfl,hi,p⟩
 have q:=hl i σ H hi p
 by_cases hlt:i<xs.length
 ·refine .inr ⟨⟨xs,xs[i],q,by simp [hlt]⟩,Pv (i+1),fun σ' H' p'=>⟨xs.length - (i+1),by lia,rfl,hlt,p'⟩,fun x H' y=>?_⟩
  obtain ⟨e,y⟩:=y
  subst e
  exact hs i x σ _ (y xs q) p
 ·have e:i=xs.length:=by lia
  subst e
  exact .inl ⟨⟨xs,q,Nat.le_refl _⟩,hd σ H p⟩
theorem for_tup {K:PySem.W.Frag} {a:Addr} {xs:List V} {g:TG} {tb:TS} {D:Ends} {σ:St} {H:Hp} (Pv:Nat→St→Hp→Prop) (h0:Pv 0 σ H) (hl:∀ i σ H,i≤xs.length→Pv i σ H→SqT K H a xs)
  (hs:∀ i x σ H,xs[i]?=some x→Pv i σ H→g x σ H fun σ2 H2=>tb { D with nx:=Pv (i+1),ct:=Pv (i+1),bk:=D.nx } σ2 H2) (hd:∀ σ H,Pv xs.length σ H→D.nx σ H) :
  ∃ W:Nat→Nat→St→Hp→Prop,(∃ m,W 0 m σ H)∧∀ i m σ H,W i m σ H →
   ((Itt K a).stop i H∧D.nx σ H)∨((Itt K a).go i H∧∃ N:St→Hp→Prop,(∀ σ' H',N σ' H'→∃ m',m'<m∧W (i+1) m' σ' H')∧∀ x H',(Itt K a).yld i H x H'→g x σ H' fun σ2 H2=>tb { D with nx:=N,ct:=N,bk:=D.nx } σ2 H2):=by
 refine ⟨fun i m σ H=>m=xs.length - i∧i≤xs.length∧Pv i σ H,⟨xs.length,by simp,Nat.zero_le _,h0⟩,?_⟩
 rintro i m σ H ⟨rfl,hi,p⟩
 have q:=hl i σ H hi p
 by_cases hlt:i<xs.length
 ·refine .inr ⟨⟨xs,xs[i],q,by simp [hlt]⟩,Pv (i+1),fun σ' H' p'=>⟨xs.length - (i+1),by lia,rfl,hlt,p'⟩,fun x H' y=>?_⟩
  obtain ⟨e,y⟩:=y
  subst e
  exact hs i x σ _ (y xs q) p
 ·have e:i=xs.length:=by lia
  subst e
  exact .inl ⟨⟨xs,q,Nat.le_refl _⟩,hd σ H p⟩
theorem for_range {lo:Int} {n:Nat} {g:TG} {tb:TS} {D:Ends} {σ:St} {H:Hp} (Pv:Nat→St→Hp→Prop) (h0:Pv 0 σ H)
  (hs:∀ i σ H,i<n→Pv i σ H→g (.int (lo+i)) σ H fun σ2 H2=>tb { D with nx:=Pv (i+1),ct:=Pv (i+1),bk:=D.nx } σ2 H2) (hd:∀ σ H,Pv n σ H→D.nx σ H) :
  ∃ W:Nat→Nat→St→Hp→Prop,(∃ m,W 0 m σ H)∧∀ i m σ H,W i m σ H →
   ((Itr lo n).stop i H∧D.nx σ H)∨((Itr lo n).go i H∧∃ N:St→Hp→Prop,(∀ σ' H',N σ' H'→∃ m',m'<m∧W (i+1) m' σ' H')∧∀ x H',(Itr lo n).yld i H x H'→g x σ H' fun σ2 H2=>tb { D with nx:=N,ct:=N,bk:=D.nx } σ2 H2):=by
 refine ⟨fun i m σ H=>m=n - i∧i≤n∧Pv i σ H,⟨n,by simp,Nat.zero_le _,h0⟩,?_⟩
 rintro i m σ H ⟨rfl,hi,p⟩
 by_cases hlt:i<n
 ·refine .inr ⟨hlt,Pv (i+1),fun σ' H' p'=>⟨n - (i+1),by lia,rfl,hlt,p'⟩,fun x H' y=>?_⟩
  obtain ⟨e,y⟩:=y
  subst e y
  exact hs i σ _ hlt p
 ·have e:i=n:=by lia
  subst e
  exact .inl ⟨Nat.le_refl _,hd σ H p⟩
theorem while_by {c:TT} {tb:TS} {D:Ends} {σ:St} {H:Hp} (Pv:St→Hp→Prop) (μ:St→Hp→Nat) (h0:Pv σ H)
  (hs:∀ σ H,Pv σ H→c σ H fun b H1=>if b=true then tb { D with nx:=fun σ' H'=>Pv σ' H'∧μ σ' H'<μ σ H,ct:=fun σ' H'=>Pv σ' H'∧μ σ' H'<μ σ H,bk:=D.nx } σ H1 else D.nx σ H1)
  (mono:∀ σ H Q Q',(∀ b H1,Q b H1→Q' b H1)→c σ H Q→c σ H Q'):tWhile c tb D σ H:=by
 refine ⟨fun m σ H=>m=μ σ H∧Pv σ H,⟨_,rfl,h0⟩,?_⟩
 rintro m σ H ⟨rfl,p⟩
 refine mono σ H _ _ (fun b H1 q=>?_) (hs σ H p)
 cases b with
 | true=>exact ⟨_,fun σ' H' ⟨p',l⟩=>⟨_,l,rfl,p'⟩,q⟩
 | false=>exact q
end L2
namespace L2
open PySem PySem.Spec PyProof.Rows
abbrev R2:=V→V→Hp→VK→Prop
def OpR (X:Cx) (f:Value→Value→Sem Value) (r:R2):Prop :=
 ∀ (pins:List (Addr × Obj)) (s:Shared) (σ:St) (H:Hp) (x y:V) (v u:Value) (Q:VK),Inv X pins σ H s→RelV x v→RelV y u→r x y H Q →
  wpAny (model X.prog X.w) X.A (f v u) (EP X pins σ Q) X.xe s
def UnR (X:Cx) (f:Value→Sem Value) (r:V→Hp→VK→Prop):Prop :=
 ∀ (pins:List (Addr × Obj)) (s:Shared) (σ:St) (H:Hp) (x:V) (v:Value) (Q:VK),Inv X pins σ H s→RelV x v→r x H Q →
  wpAny (model X.prog X.w) X.A (f v) (EP X pins σ Q) X.xe s
def CallR (X:Cx) (f:Value) (r:List V→Hp→VK→Prop):Prop :=
 ∀ (pins:List (Addr × Obj)) (s:Shared) (σ:St) (H:Hp) (xs:List V) (us:List Value) (Q:VK),Inv X pins σ H s→Vals xs us→r xs H Q →
  wpAny (model X.prog X.w) X.A (call f us) (EP X pins σ Q) X.xe s
def tOp (r:R2) (ta tb:TE):TE:=fun σ H Q=>ta σ H fun x H1=>tb σ H1 fun y H2=>r x y H2 Q
def tUn (r:V→Hp→VK→Prop) (ta:TE):TE:=fun σ H Q=>ta σ H fun x H1=>r x H1 Q
def rI (C:Int→Int→Prop) (g:Int→Int→V):R2:=fun x y H Q=>∃ i j,x=.int i∧y=.int j∧C i j∧Q (g i j) H
def rI0 (g:Int→Int→V):R2:=fun x y H Q=>∃ i j,x=.int i∧y=.int j∧Q (g i j) H
def rU (g:Int→V):V→Hp→VK→Prop:=fun x H Q=>∃ i,x=.int i∧Q (g i) H
section
variable {X:Cx} {a b c:Expr} {ta tb tc:TE} {pos:Pos}
theorem binT (ha:PE X a ta) (hb:PE X b tb) {pins:List (Addr × Obj)} {s:Shared} {σ:St} {H:Hp} {R:V→V→Hp→Prop} (I:Inv X pins σ H s)
  (h:ta σ H fun x H1=>tb σ H1 fun y H2=>R x y H2) {Q:Value→Shared→Prop} {f:Value→Value→Sem Value}
  (hf:∀ v u s2 x y H2,Inv X pins σ H2 s2→RelV x v→RelV y u→R x y H2→wpAny (model X.prog X.w) X.A (f v u) Q X.xe s2) :
  wpAny (model X.prog X.w) X.A (eval a X.env) (fun v s₁=>wpAny (model X.prog X.w) X.A (eval b X.env) (fun u s₂=>wpAny (model X.prog X.w) X.A (f v u) Q X.xe s₂) X.xe s₁) X.xe s:=by
 refine thn (ha pins s σ H _ I h) fun v s1 ⟨x,H1,I1,r1,q1⟩=>?_
 refine thn (hb pins s1 σ H1 _ I1 q1) fun u s2 ⟨y,H2,I2,r2,q2⟩=>?_
 exact hf v u s2 x y H2 I2 r1 r2 q2
theorem pe_op {op:Operator} {r:R2} (ho:OpR X (binaryOp op) r) (ha:PE X a ta) (hb:PE X b tb):PE X (.BinOp a op b pos) (tOp r ta tb):=by
 intro pins s σ H Q I h
 exact wpAny_BinOp (binT ha hb I h fun v u s2 x y H2 I2 rx ry q=>ho pins s2 σ H2 x y v u Q I2 rx ry q)
theorem pe_un {op:UnaryOp} {r:V→Hp→VK→Prop} (ho:UnR X (unaryOp op) r) (ha:PE X a ta):PE X (.UnaryOp op a pos) (tUn r ta):=by
 intro pins s σ H Q I h
 exact UnaryOp_ (thn (ha pins s σ H _ I h) fun v s1 ⟨x,H1,I1,r1,q1⟩=>ho pins s1 σ H1 x v Q I1 r1 q1)
theorem opI {f:Value→Value→Sem Value} {C:Int→Int→Prop} {g:Int→Int→Int}
  (rule:∀ (i j:Int) (t u:Tok) (s:Shared) (Q:Value→Shared→Prop) (E:Value→Shared→Prop),C i j→Q (.int (g i j) s.toks) { s with toks:=s.toks+1 }→wpAny (model X.prog X.w) X.A (f (.int i t) (.int j u)) Q E s) :
  OpR X f (rI C fun i j=>.int (g i j)):=by
 intro pins s σ H x y v u Q I rx ry h
 obtain ⟨i,j,rfl,rfl,hc,q⟩:=h
 obtain ⟨t,rfl⟩:=rx
 obtain ⟨t',rfl⟩:=ry
 exact rule i j t t' s _ _ hc ⟨.int (g i j),H,I.tok _,⟨_,rfl⟩,q⟩
theorem opI0 {f:Value→Value→Sem Value} {g:Int→Int→Int}
  (rule:∀ (i j:Int) (t u:Tok) (s:Shared) (Q:Value→Shared→Prop) (E:Value→Shared→Prop),Q (.int (g i j) s.toks) { s with toks:=s.toks+1 }→wpAny (model X.prog X.w) X.A (f (.int i t) (.int j u)) Q E s) :
  OpR X f (rI0 fun i j=>.int (g i j)):=by
 intro pins s σ H x y v u Q I rx ry h
 obtain ⟨i,j,rfl,rfl,q⟩:=h
 obtain ⟨t,rfl⟩:=rx
 obtain ⟨t',rfl⟩:=ry
 exact rule i j t t' s _ _ ⟨.int (g i j),H,I.tok _,⟨_,rfl⟩,q⟩
theorem opB0 {f:Value→Value→Sem Value} {g:Int→Int→Bool}
  (rule:∀ (i j:Int) (t u:Tok) (s:Shared) (Q:Value→Shared→Prop) (E:Value→Shared→Prop),Q (.bool (g i j)) s→wpAny (model X.prog X.w) X.A (f (.int i t) (.int j u)) Q E s) :
  OpR X f (rI0 fun i j=>.bl (g i j)):=by
 intro pins s σ H x y v u Q I rx ry h
 obtain ⟨i,j,rfl,rfl,q⟩:=h
 obtain ⟨t,rfl⟩:=rx
 obtain ⟨t',rfl⟩:=ry
 exact rule i j t t' s _ _ ⟨.bl (g i j),H,I,rfl,q⟩
def CDiv (i j:Int):Prop:=0<j∧j<1073741824
def CPow (i j:Int):Prop:=0≤j∧j≤1000000∧i.natAbs<2^64
def CMul (i j:Int):Prop:=(-(2^64)<i∧i<2^64)∨(-(2^64)<j∧j<2^64)
theorem CMul.ok {i j:Int} (h:CMul i j):IntMulOk i j:=by
 rcases h with ⟨h1,h2⟩ | ⟨h1,h2⟩
 ·exact .of_left (intBits_le_64 h1 h2)
 ·exact .of_right (intBits_le_64 h1 h2)
theorem op_add:OpR X (binaryOp .Add) (rI0 fun i j=>.int (i+j)):=opI0 fun _ _ _ _ _ _ _ q=>add_int q
theorem op_sub:OpR X (binaryOp .Sub) (rI0 fun i j=>.int (i - j)):=opI0 fun _ _ _ _ _ _ _ q=>sub_int q
theorem op_mul:OpR X (binaryOp .Mult) (rI CMul fun i j=>.int (i*j)):=opI fun _ _ _ _ _ _ _ hc q=>mul_int q hc.ok
theorem op_fdiv:OpR X (binaryOp .FloorDiv) (rI CDiv fun i j=>.int (i / j)):=opI fun i j _ _ _ _ _ hc q=>by
 have h1:(0:Int)<j:=hc.1
 have h2:j<1073741824:=hc.2
 exact floordiv_int (by lia) (by rw [Int.fdiv_eq_ediv_of_nonneg i (by lia)];exact q) (.inl (PyProof.noPylong_small (by lia)))
theorem op_mod:OpR X (binaryOp .Mod) (rI (fun _ j=>0<j) fun i j=>.int (i%j)):=opI fun i j _ _ _ _ _ hc q=>by
 have h1:(0:Int)<j:=hc
 exact mod_int' (by lia) (by rw [Int.fmod_eq_emod_of_nonneg i (by lia)];exact q)
theorem unI {f:Value→Sem Value} {g:Int→Int}
  (rule:∀ (i:Int) (t:Tok) (s:Shared) (Q:Value→Shared→Prop) (E:Value→Shared→Prop),Q (.int (g i) s.toks) { s with toks:=s.toks+1 }→wpAny (model X.prog X.w) X.A (f (.int i t)) Q E s) :
  UnR X f (rU fun i=>.int (g i)):=by
 intro pins s σ H x v Q I rx h
 obtain ⟨i,rfl,q⟩:=h
 obtain ⟨t,rfl⟩:=rx
 exact rule i t s _ _ ⟨.int (g i),H,I.tok _,⟨_,rfl⟩,q⟩
theorem un_neg:UnR X (unaryOp .USub) (rU fun i=>.int (-i)):=unI fun _ _ _ _ _ q=>neg_int q
end
def scal:V→V→Bool
 | .non,.non=>true | .non,.int _=>true | .int _,.non=>true | .non,.bl _=>true | .bl _,.non=>true | .non,.str _=>true | .str _,.non=>true
 | .int _,.int _=>true | .bl _,.bl _=>true | .str _,.str _=>true | .byt _,.byt _=>true
 | .int _,.str _=>true | .str _,.int _=>true | .bl _,.str _=>true | .str _,.bl _=>true
 | _,_=>false
def rEq:R2:=fun x y H Q=>scal x y=true∧Q (.bl (decide (x=y))) H
def rNe:R2:=fun x y H Q=>scal x y=true∧Q (.bl (!decide (x=y))) H
theorem dec_int {i j:Int}:decide (V.int i=V.int j)=(i == j):=by
 rw [Bool.eq_iff_iff]
 simp
theorem dec_bl {i j:Bool}:decide (V.bl i=V.bl j)=(i == j):=by
 rw [Bool.eq_iff_iff]
 simp
theorem dec_str {i j:Str}:decide (V.str i=V.str j)=(i == j):=by
 rw [Bool.eq_iff_iff]
 simp
theorem dec_byt {i j:Array UInt8}:decide (V.byt i=V.byt j)=(i.toList == j.toList):=by
 rw [Bool.eq_iff_iff]
 cases i
 cases j
 simp
section
variable {X:Cx} {a b c:Expr} {ta tb tc:TE} {pos:Pos}
theorem fin_bl {pins:List (Addr × Obj)} {σ:St} {H:Hp} {s:Shared} {Q:VK} {k k':Bool} (I:Inv X pins σ H s) (q:Q (.bl k) H) (e:k=k'):EP X pins σ Q (.bool k') s:=by
 subst e
 exact ⟨.bl k,H,I,rfl,q⟩
theorem op_eq:OpR X (compareOp .Eq) rEq:=by
 intro pins s σ H x y v u Q I rx ry h
 obtain ⟨hs,q⟩:=h
 cases x with
 | non =>
  cases rx
  cases y with
  | non=>cases ry;exact PySem.EqNone.eq_none_none (fin_bl I q (by simp))
  | bl j=>cases ry;exact PySem.EqNone.eq_none_bool (fin_bl I q (by simp))
  | int j=>obtain ⟨t',rfl⟩:=ry;exact PySem.EqNone.eq_none_int (fin_bl I q (by simp))
  | str j=>obtain ⟨t',rfl⟩:=ry;exact PySem.EqNone.eq_none_str (fin_bl I q (by simp))
  | _=>exact absurd (show false=true from hs) Bool.false_ne_true
 | bl i =>
  cases rx
  cases y with
  | non=>cases ry;exact PySem.EqNone.eq_bool_none (fin_bl I q (by simp))
  | bl j=>cases ry;exact eq_bool (fin_bl I q dec_bl)
  | str j=>obtain ⟨t',rfl⟩:=ry;exact PySem.EqMixed.eq_bool_str (fin_bl I q (by simp))
  | _=>exact absurd (show false=true from hs) Bool.false_ne_true
 | int i =>
  obtain ⟨t,rfl⟩:=rx
  cases y with
  | non=>cases ry;exact PySem.EqNone.eq_int_none (fin_bl I q (by simp))
  | int j=>obtain ⟨t',rfl⟩:=ry;exact eq_int (fin_bl I q dec_int)
  | str j=>obtain ⟨t',rfl⟩:=ry;exact PySem.EqMixed.eq_int_str (fin_bl I q (by simp))
  | _=>exact absurd (show false=true from hs) Bool.false_ne_true
 | str i =>
  obtain ⟨t,rfl⟩:=rx
  cases y with
  | non=>cases ry;exact PySem.EqNone.eq_str_none (fin_bl I q (by simp))
  | bl j=>cases ry;exact PySem.EqMixed.eq_str_bool (fin_bl I q (by simp))
  | int j=>obtain ⟨t',rfl⟩:=ry;exact PySem.EqMixed.eq_str_int (fin_bl I q (by simp))
  | str j=>obtain ⟨t',rfl⟩:=ry;exact eq_str (fin_bl I q dec_str)
  | _=>exact absurd (show false=true from hs) Bool.false_ne_true
 | byt i =>
  obtain ⟨t,rfl⟩:=rx
  cases y with
  | byt j=>obtain ⟨t',rfl⟩:=ry;exact PySem.W.eq_bytes (fin_bl I q dec_byt)
  | _=>exact absurd (show false=true from hs) Bool.false_ne_true
 | _=>cases y <;> exact absurd (show false=true from hs) Bool.false_ne_true
theorem op_ne:OpR X (compareOp .NotEq) rNe:=by
 intro pins s σ H x y v u Q I rx ry h
 obtain ⟨hs,q⟩:=h
 cases x with
 | non =>
  cases rx
  cases y with
  | non=>cases ry;exact PySem.EqNone.ne_none_none (fin_bl I q (by simp))
  | bl j=>cases ry;exact PySem.EqNone.ne_none_bool (fin_bl I q (by simp))
  | int j=>obtain ⟨t',rfl⟩:=ry;exact PySem.EqNone.ne_none_int (fin_bl I q (by simp))
  | str j=>obtain ⟨t',rfl⟩:=ry;exact PySem.EqNone.ne_none_str (fin_bl I q (by simp))
  | _=>exact absurd (show false=true from hs) Bool.false_ne_true
 | bl i =>
  cases rx
  cases y with
  | non=>cases ry;exact PySem.EqNone.ne_bool_none (fin_bl I q (by simp))
  | bl j=>cases ry;exact ne_bool (fin_bl I q (congrArg not dec_bl))
  | str j=>obtain ⟨t',rfl⟩:=ry;exact PySem.EqMixed.ne_bool_str (fin_bl I q (by simp))
  | _=>exact absurd (show false=true from hs) Bool.false_ne_true
 | int i =>
  obtain ⟨t,rfl⟩:=rx
  cases y with
  | non=>cases ry;exact PySem.EqNone.ne_int_none (fin_bl I q (by simp))
  | int j=>obtain ⟨t',rfl⟩:=ry;exact ne_int (fin_bl I q (congrArg not dec_int))
  | str j=>obtain ⟨t',rfl⟩:=ry;exact PySem.EqMixed.ne_int_str (fin_bl I q (by simp))
  | _=>exact absurd (show false=true from hs) Bool.false_ne_true
 | str i =>
  obtain ⟨t,rfl⟩:=rx
  cases y with
  | non=>cases ry;exact PySem.EqNone.ne_str_none (fin_bl I q (by simp))
  | bl j=>cases ry;exact PySem.EqMixed.ne_str_bool (fin_bl I q (by simp))
  | int j=>obtain ⟨t',rfl⟩:=ry;exact PySem.EqMixed.ne_str_int (fin_bl I q (by simp))
  | str j=>obtain ⟨t',rfl⟩:=ry;exact ne_str (fin_bl I q (congrArg not dec_str))
  | _=>exact absurd (show false=true from hs) Bool.false_ne_true
 | byt i =>
  obtain ⟨t,rfl⟩:=rx
  cases y with
  | byt j=>obtain ⟨t',rfl⟩:=ry;exact PySem.W.ne_bytes (fin_bl I q (congrArg not dec_byt))
  | _=>exact absurd (show false=true from hs) Bool.false_ne_true
 | _=>cases y <;> exact absurd (show false=true from hs) Bool.false_ne_true
theorem op_lt:OpR X (compareOp .Lt) (rI0 fun i j=>.bl (decide (i<j))):=opB0 fun _ _ _ _ _ _ _ q=>lt_int q
theorem op_le:OpR X (compareOp .LtE) (rI0 fun i j=>.bl (decide (i≤j))):=opB0 fun _ _ _ _ _ _ _ q=>le_int q
theorem op_gt:OpR X (compareOp .Gt) (rI0 fun i j=>.bl (decide (j<i))):=opB0 fun _ _ _ _ _ _ _ q=>gt_int q
theorem op_ge:OpR X (compareOp .GtE) (rI0 fun i j=>.bl (decide (j≤i))):=opB0 fun _ _ _ _ _ _ _ q=>ge_int q
theorem op_isN:OpR X (compareOp .Is) (fun x y H Q=>y=.non∧Q (.bl (decide (x=.non))) H):=by
 intro pins s σ H x y v u Q I rx ry h
 obtain ⟨rfl,q⟩:=h
 cases ry
 refine is_none_gen (fin_bl I q ?_)
 cases x <;> first
  | (cases rx;rfl)
  | (obtain ⟨t,rfl⟩:=rx;rfl)
theorem nomark (b:Expr) {op:CmpOp} (h:op≠.In:=by decide) (h2:op≠.NotIn:=by decide):behindInMarks op b=false:=by
 have e1:(op == CmpOp.In)=false:=by cases op <;> first | rfl | exact absurd rfl h
 have e2:(op == CmpOp.NotIn)=false:=by cases op <;> first | rfl | exact absurd rfl h2
 cases b <;> simp [behindInMarks,e1,e2]
theorem pe_cmpR {op:CmpOp} {r:R2} (ho:OpR X (compareOp op) r) (ha:PE X a ta) (hb:PE X b tb) (hm:behindInMarks op b=false):PE X (.Compare a [op] [b] pos) (tOp r ta tb):=by
 intro pins s σ H Q I h
 exact wpAny_Compare1 (binT ha hb I h fun v u s2 x y H2 I2 rx ry q=>ho pins s2 σ H2 x y v u Q I2 rx ry q) hm
def tTest (t:TE):TT:=fun σ H Q=>t σ H fun x H'=>∃ k,x=.bl k∧Q k H'
theorem pt_cmpR {op:CmpOp} {r:R2} (ho:OpR X (compareOp op) r) (ha:PE X a ta) (hb:PE X b tb) (hm:behindInMarks op b=false):PT X (.Compare a [op] [b] pos) (tTest (tOp r ta tb)):=by
 intro pins s σ H Q I h
 refine wpAny_isTrue_Compare1 (thn (ha pins s σ H _ I h) fun v s1 ⟨x,H1,I1,r1,q1⟩=>thn (hb pins s1 σ H1 _ I1 q1) fun u s2 ⟨y,H2,I2,r2,q2⟩ =>
  thn (ho pins s2 σ H2 x y v u _ I2 r1 r2 q2) fun c s3 ⟨z,H3,I3,r3,k,e,q3⟩=>?_) hm
 subst e
 cases r3
 exact wpAny_truthy_bool ⟨H3,I3,q3⟩
theorem line63:(sizeLine:Nat)<2^63:=by rw [sizeLine_eq];decide
theorem vals1 {x:V} {us:List Value} (r:Vals [x] us):∃ u,us=[u]∧RelV x u:=by
 cases r with
 | cons r1 r2=>cases r2;exact ⟨_,rfl,r1⟩
theorem vals2 {x y:V} {us:List Value} (r:Vals [x,y] us):∃ u w',us=[u,w']∧RelV x u∧RelV y w':=by
 cases r with
 | cons r1 r2 =>
  cases r2 with
  | cons r3 r4=>cases r4;exact ⟨_,_,rfl,r1,r3⟩
theorem call_min2 (hc:X.calm=true):CallR X (.builtin "min") (fun xs H Q=>∃ i j,xs=[.int i,.int j]∧Q (.int (if j<i then j else i)) H):=by
 intro pins s σ H xs us Q I r h
 obtain ⟨i,j,rfl,q⟩:=h
 obtain ⟨u,w',rfl,⟨t,rfl⟩,⟨t',rfl⟩⟩:=vals2 r
 refine min_two_ints (I.ok.hd hc) fun h' tk k=>⟨_,H,I.kept k,?_,q⟩
 by_cases hj:j<i
 ·rw [if_pos hj,if_pos hj];exact ⟨_,rfl⟩
 ·rw [if_neg hj,if_neg hj];exact ⟨_,rfl⟩
end
end L2
namespace L2
open PySem PySem.Spec PyProof.Rows
structure ObjM (h:Heap) (x dx C:Addr) (mA:Str→Option Value):Prop where
 obj:h.get? x=some (PySem.W.instObj C dx)
 ns:h.Ns1 dx mA
 ne:dx≠x
theorem lookIn_ns {h:Heap} {dx:Addr} {mA:Str→Option Value} (n:h.Ns1 dx mA):∃ od,h.get? dx=some od∧∀ name,PySem.W.lookIn name od=some (mA name):=by
 obtain ⟨o,es,ep,ho,hd,hk,_,hm⟩:=n
 refine ⟨o,ho,fun name=>?_⟩
 have e:=hm name
 unfold nsFind findBy at e
 rw [←Array.find?_toList] at e
 unfold PySem.W.lookIn
 rw [hd]
 dsimp only
 split
 ·rename_i y q
  rw [q] at e
  exact congrArg some e
 ·rename_i q
  rw [q] at e
  have a:es.toList.any (·.refKey)=false:=by
   rw [List.any_eq_false]
   intro y hy
   obtain ⟨z,t,hkey⟩:=hk y (Array.mem_toList_iff.mp hy)
   simp [DictEntry.refKey,hkey]
  have a':¬ es.toList.any (·.refKey)=true:=by rw [a];exact Bool.false_ne_true
  rw [if_neg a']
  exact congrArg some e
theorem ObjM.look {h:Heap} {x dx C:Addr} {mA:Str→Option Value} (I:ObjM h x dx C mA):∃ od,PySem.W.InstAt h x (PySem.W.instObj C dx) C (some od)∧∀ name,PySem.W.lookIn name od=some (mA name) :=
 let ⟨od,ho,hl⟩:=lookIn_ns I.ns
 ⟨od,⟨I.obj,rfl,rfl,ho⟩,hl⟩
section
variable {prog:Program} {w:World} {A:Around} {E:Value→Shared→Prop} {s:Shared} {K:PySem.W.Frag} {x dx C f:Addr} {mA:Str→Option Value} {name:Str} {v:Value}
end
section
variable {P:Program} {w:World} {H H':Hp} {h h':Heap} {a C dx:Addr} {fs fs':List (Str × V)}
theorem ins_get (hok:HOk P w H h) (e:H a=some (.ins C dx fs)):∃ mA,ObjM h a dx C mA∧(∀ f,RelO (fs.lookup f) (mA f))∧PySem.Within mA (fs.map (·.1))∧fs.length≤1000∧H dx=some (.own a):=by
 obtain ⟨d,z,ne,ob,mA,n,r,q⟩:=(show ObjOk P w H h a (.ins C dx fs) from hok a _ e)
 exact ⟨mA,⟨ob,n,ne⟩,r,q,z,d⟩
end
structure Cls (K:PySem.W.Frag) (C:Addr):Prop where
 pg:PySem.W.plainGet K C Str.empty=true
 hd:PySem.W.hasDictIn K C=true
 po:PySem.W.plainOver K C=true
 sa:PySem.W.findIn K (.ref C) "__setattr__"=some (some (.builtin "object.__setattr__"))
theorem Cls.get {K:PySem.W.Frag} {C:Addr} (c:Cls K C) (f:Str):PySem.W.plainGet K C f=true:=c.pg
structure Con (K:PySem.W.Frag) (C:Addr) (f:Str) (v:V) (u:Value):Prop where
 at_:PySem.W.findIn K (.ref C) f=some (some u)
 rel:RelV v u
 get:PySem.W.specialIn K u "__get__"=some none
 cp:PySem.W.copiedNames.contains f=false
structure Meth (K:PySem.W.Frag) (C:Addr) (m:Str) (f:Addr):Prop where
 at_:PySem.W.findIn K (.ref C) m=some (some (.ref f))
 fn:PySem.W.isFn K (.ref f)=true
 kp:PySem.W.keepIn K (.ref f)=true
section
variable {X:Cx} {pins:List (Addr × Obj)} {σ:St} {H:Hp} {s:Shared} {a C dx:Addr} {fs:List (Str × V)} {f:Str} {v:V} {A:Around} {E:Value→Shared→Prop}
end
section
variable {X:Cx} {o e value:Expr} {f:Str} {pos pos' tpos:Pos} {ta tv:TE}
end
section
variable {X:Cx} {pins:List (Addr × Obj)} {σ:St} {H:Hp} {s:Shared} {A:Around} {E:Value→Shared→Prop} {Q:Value→Shared→Prop} {c:Value} {b:Bool}
inductive TyOf (K:PySem.W.Frag) (H:Hp):V→Value→Prop where
 | non:TyOf K H .non (.type "NoneType")
 | bl (x:Bool):TyOf K H (.bl x) (.type "bool")
 | int (i:Int):TyOf K H (.int i) (.type "int")
 | str (x:Str):TyOf K H (.str x) (.type "str")
 | flt (x:UInt64):TyOf K H (.flt x) (.type "float")
 | lst {a:Addr} {xs:List V} (e:H a=some (.lst xs)):TyOf K H (.ref a) (.type "list")
 | frz {a:Addr} {o:Obj} {xs:List V} (e:H a=some (.frz o (.lst xs))):TyOf K H (.ref a) (.type "list")
 | tup {a:Addr} {xs:List V} (e:H a=some (.tup xs)):TyOf K H (.ref a) (.type "tuple")
 | dK {a:Addr} {kvs:List (Key × V)} (e:H a=some (.dK kvs)):TyOf K H (.ref a) (.type "dict")
 | dT {a:Addr} {kvs:List (List Key × V)} (e:H a=some (.dT kvs)):TyOf K H (.ref a) (.type "dict")
 | ins {a C dx:Addr} {fs:List (Str × V)} (e:H a=some (.ins C dx fs)) (cl:Cls K C) (ha:PySem.W.findIn K (.ref C) "__class__"=some (some (.builtin "object.__class__")))
   (hn:PySem.W.specialIn K (.builtin "object.__class__") "__get__"=some (some (.builtin "getset_descriptor.__get__"))) (htk:PySem.W.takesIn K (.builtin "object.__class__")=some true)
   (hm:PySem.W.mroIn K C (.type "object")=some true):TyOf K H (.ref a) (.ref C)
theorem isinst_ok {x:V} {u t:Value} (I:Inv X pins σ H s) (rx:RelV x u) (ty:TyOf X.K H x t) (e:PySem.W.kitOne X.K t c=some b) (h:∀ tk,Q (.bool b) { s with toks:=tk }) :
  wpAny (model X.prog X.w) A (call (.builtin "isinstance") [u,c]) Q E s:=by
 cases ty with
 | non=>cases (show u=Value.none from rx);exact PySem.W.kia_one PySem.W.kitx_none I.kIn True.intro e (fun z=>nomatch z) h
 | bl y=>cases (show u=Value.bool y from rx);exact PySem.W.kia_one PySem.W.kitx_bool I.kIn True.intro e (fun z=>nomatch z) h
 | int i=>obtain ⟨t,q⟩:=(show ∃ t,u=Value.int i t from rx);cases q;exact PySem.W.kia_one PySem.W.kitx_int I.kIn True.intro e (fun z=>nomatch z) h
 | str y=>obtain ⟨t,q⟩:=(show ∃ t,u=Value.str y t from rx);cases q;exact PySem.W.kia_one PySem.W.kitx_str I.kIn True.intro e (fun z=>nomatch z) h
 | flt y=>obtain ⟨t,q⟩:=(show ∃ t,u=Value.float y t from rx);cases q;exact PySem.W.kia_one PySem.W.kitx_float I.kIn True.intro e (fun z=>nomatch z) h
 | @lst a xs ea =>
  cases (show u=Value.ref a from rx)
  obtain ⟨_,_,n,_,h1⟩:=(show ObjOk X.prog X.w H s.heap a (.lst xs) from I.hok a _ ea)
  exact PySem.W.kia_one PySem.W.kitx_list I.kIn ⟨_,h1,rfl⟩ e (fun z=>nomatch z) h
 | @frz a ob xs ea =>
  cases (show u=Value.ref a from rx)
  obtain ⟨_,_,_,n,_,h1⟩:=(show ObjOk X.prog X.w H s.heap a (.frz ob (.lst xs)) from I.hok a _ ea)
  exact PySem.W.kia_one PySem.W.kitx_list I.kIn ⟨_,h1,rfl⟩ e (fun z=>nomatch z) h
 | @tup a xs ea =>
  cases (show u=Value.ref a from rx)
  obtain ⟨_,_,_,p⟩:=(show ObjOk X.prog X.w H s.heap a (.tup xs) from I.hok a _ ea)
  obtain ⟨o,h1,h2,_⟩:=p
  exact PySem.W.kia_one PySem.W.kitx_tuple I.kIn ⟨o,h1,h2⟩ e (fun z=>nomatch z) h
 | @dK a kvs ea =>
  cases (show u=Value.ref a from rx)
  obtain ⟨_,_,vs,_,p⟩:=(show ObjOk X.prog X.w H s.heap a (.dK kvs) from I.hok a _ ea)
  obtain ⟨o,es,ep,h1,h2,_⟩:=p
  exact PySem.W.kia_one PySem.W.kitx_dict I.kIn ⟨o,h1,h2.1⟩ e (fun z=>nomatch z) h
 | @dT a kvs ea =>
  cases (show u=Value.ref a from rx)
  obtain ⟨_,_,xs,_,o,es,ep,h1,h2,_⟩:=(show ObjOk X.prog X.w H s.heap a (.dT kvs) from I.hok a _ ea)
  exact PySem.W.kia_one PySem.W.kitx_dict I.kIn ⟨o,h1,h2.1⟩ e (fun z=>nomatch z) h
 | @ins a C dx fs ea cl ha hn htk hm =>
  cases (show u=Value.ref a from rx)
  obtain ⟨mA,O,_⟩:=ins_get I.hok ea
  obtain ⟨od,J,_⟩:=O.look
  exact PySem.W.kia_one (PySem.W.kitx_own (cl.get _) cl.hd ha hn htk hm) I.kIn J e (fun z=>nomatch z) h
end
end L2
namespace L2
open PySem PySem.Spec PyProof.Rows
structure Room (k:Nat) (A:Around):Prop where
 hd:A.handled=none
 dp:A.depth+3*k+5<recursionLimit
 un:A.units+16*k+200<cLine
theorem Room.mono {j k:Nat} {A:Around} (r:Room k A) (h:j≤k):Room j A:=⟨r.hd,by have:=r.dp;lia,by have:=r.un;lia⟩
theorem Room.deeper {k:Nat} {A:Around} (r:Room (k+1) A) (env:Env):Room k (A.deeper env) :=
 ⟨r.hd,by have:=r.dp;show A.depth+1+3*k+5<_;lia,by have:=r.un;show A.units+3+16*k+200<_;lia⟩
theorem Room.in1 {k:Nat} {A:Around} (r:Room (k+1) A):Room k A.in1 :=
 ⟨r.hd,by have:=r.dp;show A.depth+3*k+5<_;lia,by have:=r.un;show A.units+1+16*k+200<_;lia⟩
theorem make_depth {A:Around} {C:Addr} {us:List Value} {kw:List (Str × Value)}:(A.under (.builtin "type.__call__" ⟨.ref C::us,kw⟩)).depth=A.depth+1:=by
 first | rfl | simp [Around.under,Code.weight,Code.isCreation,Code.isGuard,Code.isCaller,Code.frames,Code.isFrame,guardIds]
theorem make_units {A:Around} {C:Addr} {us:List Value} {kw:List (Str × Value)}:(A.under (.builtin "type.__call__" ⟨.ref C::us,kw⟩)).units=A.units+1:=by
 first | rfl | simp [Around.under,Code.cUnits,Code.frames,Code.isFrame]
theorem Room.make {k:Nat} {A:Around} (r:Room (k+1) A) (C:Addr) (us:List Value) (kw:List (Str × Value)):Room k (A.under (.builtin "type.__call__" ⟨.ref C::us,kw⟩)) :=
 ⟨r.hd,by have:=r.dp;rw [make_depth];lia,by have:=r.un;rw [make_units];lia⟩
theorem Room.depth {k:Nat} {A:Around} (r:Room k A):A.depth<recursionLimit:=by have:=r.dp;lia
theorem Room.units {k:Nat} {A:Around} (r:Room k A):A.units+64<cLine:=by have:=r.un;lia
def tNil:TA:=fun _ H Q=>Q [] H
def tCons (ta:TE) (tr:TA):TA:=fun σ H Q=>ta σ H fun x H1=>tr σ H1 fun xs H2=>Q (x::xs) H2
section
variable {X:Cx} {e:Expr} {es:List Expr} {te:TE} {t:TA} {pos:Pos}
theorem pa_nil:PA X [] tNil:=fun _ _ _ _ H Q I h=>Calls.spliced_nil ⟨[],H,I,.nil,h⟩
theorem pa_cons (ha:PE X e te) (hr:PA X es t) (hs:starEach (e::es) X.env=(false,eval e X.env)::starEach es X.env:=by rfl):PA X (e::es) (tCons te t):=by
 intro pos pins s σ H Q I h
 rw [hs]
 show wpAny _ _ (spliced ((false,eval e X.env)::backTo pos (starEach es X.env))) _ _ s
 refine Calls.spliced_cons (thn (ha pins s σ H _ I h) fun u s1 ⟨x,H1,I1,r1,q1⟩=>?_)
 exact thn (hr pos pins s1 σ H1 _ I1 q1) fun us s2 ⟨xs,H2,I2,r2,q2⟩=>⟨x::xs,H2,I2,.cons r1 r2,q2⟩
def tTup (t:TA):TE:=fun σ H Q=>t σ H fun xs H1=>xs.length≤sizeLine∧∀ p,H1 p=none→Q (.ref p) (upd H1 p (.tup xs))
def tLst (t:TA):TE:=fun σ H Q=>t σ H fun xs H1=>xs.length≤sizeLine∧∀ p,H1 p=none→Q (.ref p) (upd H1 p (.lst xs))
theorem pe_tup {x1} (h:PA X es t):PE X (.Tuple es x1 pos) (tTup t):=by
 intro pins s σ H Q I hq
 refine wpAny_Tuple_spliced (thn (h pos pins s σ H _ I hq) fun us s1 ⟨xs,H1,I1,r,z,q⟩=>⟨by rw [←r.length];exact z,?_⟩)
 have hf:H1 s1.heap.objs.size=none:=I1.hok.fresh (Nat.le_refl _)
 refine ⟨.ref s1.heap.objs.size,upd H1 s1.heap.objs.size (.tup xs),I1.laid (t':=s1.toks) (fun b u e=>Heap.get?_push_of_some _ e) (Nat.le_refl _) ?_,rfl,q _ hf⟩
 exact ⟨z,us,r,⟨_,Heap.get?_push_size _ rfl,rfl,_,rfl⟩⟩
theorem pe_lst (h:PA X es t):PE X (.List es pos) (tLst t):=by
 intro pins s σ H Q I hq
 refine wpAny_List_spliced (thn (h pos pins s σ H _ I hq) fun us s1 ⟨xs,H1,I1,r,z,q⟩=>⟨by rw [←r.length];exact z,?_⟩)
 have hf:H1 s1.heap.objs.size=none:=I1.hok.fresh (Nat.le_refl _)
 refine ⟨.ref s1.heap.objs.size,upd H1 s1.heap.objs.size (.lst xs),I1.laid (t':=s1.toks) (fun b u e=>Heap.get?_push_of_some _ e) (Nat.le_refl _) ?_,rfl,q _ hf⟩
 exact ⟨z,us,0,r,Heap.get?_push_size _ rfl⟩
end
abbrev Sp:=List V→Hp→VK→XK→Prop
abbrev CXT:=List Env→Hp→Shared→XK→Value→Shared→Prop
structure Env0 (P:Program) (w:World) (K:PySem.W.Frag) (mg:Str→Option Value) (base:Heap) (A:Around) (outer:List Env) (s:Shared) (H:Hp):Prop where
 frames:A.frames=some outer
 mod:Mod K mg base
 bs:∀ b o,base.get? b=some o→s.heap.get? b=some o∧H b=none
 bsz:base.objs.size≤s.heap.objs.size
 funs:s.heap.FunFrames base outer
 frf:∀ b∈frs outer,H b=none
 hok:HOk P w H s.heap
 bare:AllBare s.gens
def CE (outer:List Env) (P:Program) (w:World) (H:Hp) (s:Shared) (Q:VK) (u:Value) (s':Shared):Prop :=
 ∃ v H',s'.os=s.os∧AllBare s'.gens∧Un (frs outer) [] H H' s.heap s'.heap∧HOk P w H' s'.heap∧RelV v u∧Q v H'
def CR (CX:CXT) (outer:List Env) (P:Program) (w:World) (H:Hp) (s:Shared) (Q:VK) (E:XK) (r:Result) (s':Shared):Prop :=
 match r with
 | .ok (.ret u)=>CE outer P w H s Q u s'
 | .ok _=>False
 | .error e=>CX outer H s E e s'
structure FnOk (P:Program) (w:World) (K:PySem.W.Frag) (mg:Str→Option Value) (base:Heap) (CX:CXT) (k:Nat) (f:Addr) (fd:FuncData) (ps:List Str) (sp:Sp):Prop where
 len:∀ vs H Q E,sp vs H Q E→vs.length=ps.length
 run:∀ (A:Around) (outer:List Env) (s:Shared) (H:Hp) (args:Args) (us:List Value) (vs:List V) (Q:VK) (E:XK),Room k A→Env0 P w K mg base A outer s H→BindsTo s fd args (ps.zip us)→Vals vs us→sp vs H Q E →
  codeAny (model P w) A (.call (.ref f) args) (CR CX outer P w H s Q E) s
theorem FnOk.mono {P:Program} {w:World} {K:PySem.W.Frag} {mg:Str→Option Value} {base:Heap} {CX:CXT} {j k:Nat} {f:Addr} {fd:FuncData} {ps:List Str} {sp:Sp} (F:FnOk P w K mg base CX j f fd ps sp) (h:j≤k) :
  FnOk P w K mg base CX k f fd ps sp:=⟨F.len,fun A outer s H args us vs Q E hr=>F.run A outer s H args us vs Q E (hr.mono h)⟩
theorem FnOk.imp {P:Program} {w:World} {K:PySem.W.Frag} {mg:Str→Option Value} {base:Heap} {CX:CXT} {k:Nat} {f:Addr} {fd:FuncData} {ps:List Str} {sp sp':Sp} (F:FnOk P w K mg base CX k f fd ps sp)
  (h:∀ vs H Q E,sp' vs H Q E→sp vs H Q E):FnOk P w K mg base CX k f fd ps sp' :=
 ⟨fun vs H Q E q=>F.len vs H Q E (h _ _ _ _ q),fun A outer s H args us vs Q E hr he hb hv hs=>F.run A outer s H args us vs Q E hr he hb hv (h _ _ _ _ hs)⟩
theorem Env0.make {P:Program} {w:World} {K:PySem.W.Frag} {mg:Str→Option Value} {base:Heap} {A:Around} {outer:List Env} {s:Shared} {H:Hp} (e:Env0 P w K mg base A outer s H) (C:Addr) (us:List Value) (kw:List (Str × Value)) :
  Env0 P w K mg base (A.under (.builtin "type.__call__" ⟨.ref C::us,kw⟩)) outer s H:=⟨by first | exact e.frames | (simpa [Around.under,Code.envs,Code.isFrame,pushEnvs] using e.frames),e.mod,e.bs,e.bsz,e.funs,e.frf,e.hok,e.bare⟩
theorem Env0.in1 {P:Program} {w:World} {K:PySem.W.Frag} {mg:Str→Option Value} {base:Heap} {A:Around} {outer:List Env} {s:Shared} {H:Hp} (e:Env0 P w K mg base A outer s H) :
  Env0 P w K mg base A.in1 outer s H:=⟨e.frames,e.mod,e.bs,e.bsz,e.funs,e.frf,e.hok,e.bare⟩
section
variable {X:Cx} {pins:List (Addr × Obj)} {σ:St} {H:Hp} {s s':Shared}
theorem Inv.env0 (I:Inv X pins σ H s):Env0 X.prog X.w X.K X.mg X.base X.A X.stack s H :=
 ⟨I.ok.frames,I.ok.mod,I.bs,Nat.le_trans I.ok.bsz I.sz,I.stack,I.stkFree,I.hok,I.bare⟩
theorem Inv.after {Q:VK} {u:Value} (I:Inv X pins σ H s) (h:CE X.stack X.prog X.w H s Q u s'):EP X pins σ Q u s':=by
 obtain ⟨v,H',os,bare,un,hok,r,q⟩:=h
 obtain ⟨hh,g,d,t,os'⟩:=s'
 obtain rfl:os'=s.os:=os
 exact ⟨v,H',I.call (h':=hh) (g':=g) (d':=d) (t':=t) (ch:=[]) un hok bare (fun b z=>absurd z (by simp)),r,q⟩
end
def tCall (sp:Sp) (dvs:List V) (E:XK) (t:TA):TE:=fun σ H Q=>t σ H fun vs H1=>sp (vs++dvs) H1 Q E
def Binds (K:PySem.W.Frag) (fd:FuncData) (ps:List Str) (ds:List Value):Prop :=
 ∀ (s:Shared) (us:List Value),K.In s.heap→(us++ds).length=ps.length→BindsTo s fd ⟨us,[]⟩ (ps.zip (us++ds))
theorem Binds.all {K:PySem.W.Frag} {fd:FuncData} {ps:List Str} (h:∀ us:List Value,us.length=ps.length→bindArgs fd ⟨us,[]⟩=pure (ps.zip us)):Binds K fd ps []:=fun s us _ hl=>by
 rw [List.append_nil] at hl ⊢
 exact .of_eq (h us hl)
section
variable {X:Cx} {CX:CXT} {k:Nat} {f C:Addr} {fd:FuncData} {ps:List Str} {sp:Sp} {dvs:List V} {ds:List Value} {E:XK} {x m:Str} {p pos apos:Pos} {e o:Expr} {es:List Expr} {ta:TE} {t:TA}
structure Mk (K:PySem.W.Frag) (C f:Addr):Prop where
 makes:PySem.W.makesIn K C=true
 init:PySem.W.findIn K (.ref C) "__init__"=some (some (.ref f))
 fn:PySem.W.isFn K (.ref f)=true
 kp:PySem.W.keepIn K (.ref C)=true
end
section
variable {X:Cx} {CX:CXT} {k:Nat} {f C:Addr} {fd:FuncData} {ps ks:List Str} {sp:Sp} {E:XK} {x m:Str} {p pos apos kpos:Pos} {e o:Expr} {es:List Expr} {kws:List Keyword} {te ta:TE} {t tk:TA} {nm:Option Str}
structure KBinds (K:PySem.W.Frag) (fd:FuncData) (ps ks:List Str) (g:List Value→List Value→List Value) (gV:List V→List V→List V):Prop where
 to:∀ (s:Shared) (us ws:List Value),K.In s.heap→(g us ws).length=ps.length→BindsTo s fd ⟨us,ks.zip ws⟩ (ps.zip (g us ws))
 rel:∀ {vs:List V} {us:List Value} {zs:List V} {ws:List Value},Vals vs us→Vals zs ws→Vals (gV vs zs) (g us ws)
variable {g:List Value→List Value→List Value} {gV:List V→List V→List V}
end
structure FnScope (N P:List Str) (sc:Scope):Prop where
 kind:sc.kind=.function
 co:sc.isCoroutine=false
 gen:sc.isGenerator=false
 nd:N.Nodup
 pre:N.take P.length=P
 par:∀ x∈P,sc.names.lookup x=some .local∨sc.names.lookup x=some .cell
 nofree:∀ y∈sc.names,y.2≠.free
theorem bindL_out {kindOf:Str→Option NameKind} {x:Str}:∀ {binds:List (Str × Value)} {m:Str→Option Value},(∀ v,(x,v)∉binds)→bindL kindOf binds m x=m x
 | [],_,_=>rfl
 | (n,v)::r,m,h=>by
  unfold bindL
  rw [bindL_out fun w hw=>h w (List.mem_cons_of_mem _ hw)]
  split
  ·have:x≠n:=by rintro rfl;exact h v List.mem_cons_self
   simp [this]
  ·rfl
theorem bindC_out {kindOf:Str→Option NameKind} {x:Str}:∀ {binds:List (Str × Value)} {m:Str→Option Value},(∀ v,(x,v)∉binds)→bindC kindOf binds m x=m x
 | [],_,_=>rfl
 | (n,v)::r,m,h=>by
  unfold bindC
  rw [bindC_out fun w hw=>h w (List.mem_cons_of_mem _ hw)]
  split
  ·rfl
  ·have:x≠n:=by rintro rfl;exact h v List.mem_cons_self
   simp [this]
theorem bindL_get {kindOf:Str→Option NameKind} {x:Str} {v:Value}:∀ {P:List Str} {vs:List Value} {i:Nat} {m:Str→Option Value},P.Nodup→P[i]?=some x→vs[i]?=some v→kindOf x=some .local →
  bindL kindOf (P.zip vs) m x=some v
 | [],_,_,_,_,h,_,_=>by simp at h
 | _::_,[],_,_,_,_,h,_=>by simp at h
 | p::P,w::vs,0,m,nd,h1,h2,hk=>by
  simp at h1 h2;subst h1;subst h2
  show bindL kindOf ((p,w)::P.zip vs) m p=_
  unfold bindL
  rw [bindL_out fun v hv=>(List.nodup_cons.mp nd).1 (List.of_mem_zip hv).1,if_pos hk]
  simp
 | p::P,w::vs,i+1,m,nd,h1,h2,hk=>by
  show bindL kindOf ((p,w)::P.zip vs) m x=_
  unfold bindL
  exact bindL_get (i:=i) (List.nodup_cons.mp nd).2 (by simpa using h1) (by simpa using h2) hk
theorem bindC_get {kindOf:Str→Option NameKind} {x:Str} {v:Value}:∀ {P:List Str} {vs:List Value} {i:Nat} {m:Str→Option Value},P.Nodup→P[i]?=some x→vs[i]?=some v→kindOf x≠some .local →
  bindC kindOf (P.zip vs) m x=some v
 | [],_,_,_,_,h,_,_=>by simp at h
 | _::_,[],_,_,_,_,h,_=>by simp at h
 | p::P,w::vs,0,m,nd,h1,h2,hk=>by
  simp at h1 h2;subst h1;subst h2
  show bindC kindOf ((p,w)::P.zip vs) m p=_
  unfold bindC
  rw [bindC_out fun v hv=>(List.nodup_cons.mp nd).1 (List.of_mem_zip hv).1,if_neg hk]
  simp
 | p::P,w::vs,i+1,m,nd,h1,h2,hk=>by
  show bindC kindOf ((p,w)::P.zip vs) m x=_
  unfold bindC
  exact bindC_get (i:=i) (List.nodup_cons.mp nd).2 (by simpa using h1) (by simpa using h2) hk
def start (N:List Str) (vs:List V):St:=vs.map some++List.replicate (N.length - vs.length) none
def cxOf (CX:CXT) (P:Program) (w:World) (K:PySem.W.Frag) (mg:Str→Option Value) (base:Heap) (N:List Str) (qual:Str) (scope:Scope) (f:Addr) (cd:Value) (A:Around) (outer:List Env) (s:Shared) (H:Hp) (E:XK):Cx where
 prog:=P
 w:=w
 K:=K
 mg:=mg
 base:=base
 A:=A.deeper (envOfC qual scope s.heap.objs.size f cd)
 N:=N
 s₀:=s
 H₀:=H
 env:=envOfC qual scope s.heap.objs.size f cd
 outer:=outer
 stack:=envOfC qual scope s.heap.objs.size f cd::outer
 ex:=[]
 calm:=true
 fn:=fun _=>true
 pn:=[]
 xe:=fun e s'=>wpAny (model P w) (A.deeper (envOfC qual scope s.heap.objs.size f cd)) (leaving (envOfC qual scope s.heap.objs.size f cd) e) (fun _ s''=>CX outer H s E e s'') (fun e' s''=>CX outer H s E e' s'') s'
theorem cell_has {sc:Scope} {n:Nat} {x:Str} (h:sc.names.lookup x=some .cell):∃ c,(cellsFrom n sc.names []).lookup x=some c:=by
 have q:=PySem.W.cellsFrom_some sc.names n [] (.inl h)
 exact Option.isSome_iff_exists.mp q
theorem inv_start {CX:CXT} {P:Program} {w:World} {K:PySem.W.Frag} {mg:Str→Option Value} {base:Heap} {N ps:List Str} {qual:Str} {scope:Scope} {f:Addr} {cd:Value} {A:Around} {outer:List Env} {s s1:Shared} {H:Hp} {E:XK} {us:List Value} {vs:List V}
  (S:FnScope N ps scope) (hd:A.handled=none) (e0:Env0 P w K mg base A outer s H) (hl:vs.length=ps.length) (r:Vals vs us)
  (x:InCallC s s.heap.objs.size (bindL (envOfC qual scope s.heap.objs.size f cd).kindOf (ps.zip us) fun _=>none) (cellsFrom (s.heap.objs.size+1) scope.names []) (bindC (envOfC qual scope s.heap.objs.size f cd).kindOf (ps.zip us) fun _=>none) s1) :
  Inv (cxOf CX P w K mg base N qual scope f cd A outer s H E) [] (start N vs) H s1:=by
 have hpl:ps.length≤N.length:=by have:=congrArg List.length S.pre;rw [Z16] at this;lia
 obtain ⟨h1,tk,rfl,hk⟩:=x.done
 have noA:∀ b:Addr,b∉(cxOf CX P w K mg base N qual scope f cd A outer s H E).ex:=fun b z=>absurd (show b∈([]:List Addr) from z) (by simp)
 refine ⟨⟨e0.mod,S.kind,rfl,rfl,Nat.le_refl _,fun y z c h1 h2=>?_,fun y hy=>?_,fun y c _ h=>?_,fun _=>hd,Around.frames_deeper e0.frames,.inr ⟨rfl,rfl⟩,fun b z=>absurd z (noA b),e0.bs,e0.bsz,fun b _ _=>noA b,fun b z=>absurd z (noA b),e0.funs,e0.frf⟩,
  rfl,e0.bare,Un.kept hk,⟨_,x.toInCall.ns,fun i y v h1 h2 h3=>?_⟩,fun y c h=>⟨_,x.cell y c h⟩,e0.hok.fresh (Nat.le_refl _),fun y c h=>?_,fun p hp=>absurd (show p∈([]:List (Addr × Obj)) from hp) (by simp),e0.hok.kept hk,?_⟩
 ·exact name_of_addr x.apart (PySem.mem_of_lookup h1) (PySem.mem_of_lookup h2)
 ·have hy:scope.names.lookup y=some .cell∨scope.names.lookup y=some .free:=hy
  rcases hy with hy | hy
  ·exact cell_has hy
  ·exact absurd rfl (S.nofree _ (PySem.mem_of_lookup hy))
 ·exact Nat.le_of_lt (x.above y c (PySem.mem_of_lookup h))
 ·have hi:i<vs.length:=by
   unfold start at h2
   by_cases hi:i<vs.length
   ·exact hi
   ·rw [List.getElem?_append_right (by simpa using hi)] at h2
    rw [Z19] at h2
    split at h2 <;> cases h2
  have ha:vs[i]?=some v:=by
   unfold start at h2
   rw [List.getElem?_append_left (by simpa using hi),List.getElem?_map] at h2
   cases e:vs[i]? with
   | none=>rw [e] at h2;cases h2
   | some a=>rw [e] at h2;cases h2;rfl
  obtain ⟨u,hu,rv⟩:=r.get ha
  have hp:ps[i]?=some y:=by
   rw [←S.pre,List.getElem?_take_of_lt (by lia)];exact h1
  have ndP:ps.Nodup:=by rw [←S.pre];exact S.nd.sublist (List.take_sublist _ _)
  refine ⟨u,rv,?_⟩
  rcases S.par y (List.mem_of_getElem? hp) with k | k
  ·exact .inl ⟨k,bindL_get ndP hp hu k⟩
  ·obtain ⟨c,e⟩:=cell_has (n:=s.heap.objs.size+1) k
   refine .inr ⟨.inl k,c,e,?_⟩
   have q:=x.cell y c e
   rw [bindC_get ndP hp hu (by show scope.names.lookup y≠_;rw [k];decide)] at q
   exact q
 ·exact e0.hok.fresh (Nat.le_of_lt (x.above y c (PySem.mem_of_lookup h)))
 ·unfold start
  show _=N.length
  rw [Z4,Z1,Z9]
  lia
theorem fn_of {CX:CXT} {P:Program} {w:World} {K:PySem.W.Frag} {mg:Str→Option Value} {base:Heap} {k:Nat} {f:Addr} {name qual:Str} {params:Arguments} {body:List Stmt} {scope:Scope} {dV kV doc pm cdv ct oc:Value} {an od:Option Addr}
  {osl:Array (Option Value)} {N ps:List Str} {sp:Sp} (lk:K.lookup f=some ⟨oc,od,.func (PySem.W.fnOf name qual params body scope dV kV doc pm an cdv ct),osl⟩) (hcd:PySem.W.codeIn K cdv qual=true) (S:FnScope N ps scope)
  (len:∀ vs H Q E,sp vs H Q E→vs.length=ps.length)
  (hbody:∀ (A:Around) (outer:List Env) (s:Shared) (H:Hp) (vs:List V) (Q:VK) (E:XK),Room k (A.deeper (envOfC qual scope s.heap.objs.size f cdv))→sp vs H Q E →
   ∃ t,PSs (cxOf CX P w K mg base N qual scope f cdv A outer s H E) body t∧t { nx:=fun _ H'=>Q .non H',rt:=Q } (start N vs) H) :
  FnOk P w K mg base CX (k+1) f (PySem.W.fnOf name qual params body scope dV kV doc pm an cdv ct) ps sp:=by
 refine ⟨len,fun A outer s H args us vs Q E hr e0 hb r hsp=>?_⟩
 have hl:=len _ _ _ _ hsp
 have KX:K.In s.heap:=e0.mod.kin.keeps fun b o e=>(e0.bs b o e).1
 have lim:s.heap.NoLimit:=e0.mod.nolimit.keeps fun b o e=>(e0.bs b o e).1
 have hkind:∀ y∈ps.zip us,scope.names.lookup y.1=some .local∨(scope.names.lookup y.1=some .cell∧((cellsFrom (s.heap.objs.size+1) scope.names []).lookup y.1).isSome=true):=fun ⟨n,v⟩ hy=>by
  rcases S.par n (List.of_mem_zip hy).1 with q | q
  ·exact .inl q
  ·exact .inr ⟨q,PySem.W.cellsFrom_some _ _ _ (.inl q)⟩
 refine codeAny_call_function hr.depth (KX _ _ lk) rfl S.co S.gen rfl (PySem.W.codeRec_of KX hcd) (hb _ _ _ _ ?_)
 refine wpAny_newFunctionEnv_cells S.kind hkind fun env he s1 x=>?_
 subst he
 refine ⟨lim.keeps x.toInCall.keep,codeAny_func ?_⟩
 obtain ⟨t,ht,hq⟩:=hbody A outer s H vs Q E (hr.deeper _) hsp
 have I:Inv (cxOf CX P w K mg base N qual scope f cdv A outer s H E) [] (start N vs) H s1:=inv_start S hr.hd e0 hl r x
 refine wpAny_mono (ht [] s1 (start N vs) H _ I hq) (fun fl s' hs=>?_) fun e s' hs=>hs
 have fin:∀ {σ':St} {H':Hp} {v:V} {u:Value},Inv (cxOf CX P w K mg base N qual scope f cdv A outer s H E) [] σ' H' s'→RelV v u→Q v H'→CE outer P w H s Q u s' :=
  fun {σ' H' v u} J rv q=>⟨v,H',J.os,J.bare,J.base,J.hok,rv,q⟩
 cases fl with
 | ret u =>
  obtain ⟨v,σ',H',J,rv,q⟩:=hs
  exact fin J rv q
 | next =>
  obtain ⟨σ',H',J,q⟩:=hs
  exact fin (v:=V.non) (u:=Value.none) J rfl q
 | brk =>
  obtain ⟨_,_,_,q⟩:=hs
  exact False.elim q
 | cont =>
  obtain ⟨_,_,_,q⟩:=hs
  exact False.elim q
end L2
namespace L2
open PySem PySem.Spec PyProof.Rows
section
variable {X:Cx} {x:Str} {p pos:Pos} {e:Expr} {es:List Expr} {t:TA} {id T:String} {r:List V→Hp→VK→Prop}
def tCB (r:List V→Hp→VK→Prop) (t:TA):TE:=fun σ H Q=>t σ H fun vs H1=>r vs H1 Q
theorem pe_callB (hc:CallR X (.builtin id) r) (hg:Gl X x) (hm:X.mg x=none) (hv:bootBuiltins x=some (.builtin id)) (ha:PA X (e::es) t) (hn:x≠"__name__":=by decide) (hdb:(x == ("__debug__":Str))=false:=by decide)
  (he:starEach (e::es) X.env=(false,eval e X.env)::starEach es X.env:=by rfl) (hpl:(backTo pos (starEach es X.env)).any (·.1)=false:=by rfl):PE X (.Call (.Name x p) (e::es) [] pos) (tCB r t):=by
 intro pins s σ H Q I h
 refine wpAny_Call_Name_kw (ld_blt I hg hm hv ?_ hn hdb)
 exact PyProof.Rows.callWith_builtin1 (thn (ha pos pins s σ H _ I h) fun us s1 ⟨vs,H1,I1,r1,q1⟩=>hc pins s1 σ H1 vs us Q I1 r1 q1) he hpl
theorem pe_callTy (hc:CallR X (.type T) r) (hg:Gl X x) (hm:X.mg x=none) (hv:bootBuiltins x=some (.type T)) (ha:PA X (e::es) t) (hn:x≠"__name__":=by decide) (hdb:(x == ("__debug__":Str))=false:=by decide)
  (he:starEach (e::es) X.env=(false,eval e X.env)::starEach es X.env:=by rfl) (hpl:(backTo pos (starEach es X.env)).any (·.1)=false:=by rfl):PE X (.Call (.Name x p) (e::es) [] pos) (tCB r t):=by
 intro pins s σ H Q I h
 refine wpAny_Call_Name_kw (ld_blt I hg hm hv ?_ hn hdb)
 exact PyProof.Rows.callWith_type1 (thn (ha pos pins s σ H _ I h) fun us s1 ⟨vs,H1,I1,r1,q1⟩=>hc pins s1 σ H1 vs us Q I1 r1 q1) he hpl
end
end L2
namespace HT
open PySem PyProof.Rows
section
open PySem.SeqAt
open PySem.AutoSeq1 (wpAny_loadPart')
open PySem.MeetsSeq PySem.MeetsSeq2 PySem.MeetsSeq3
end
section
variable {prog:Program} {w:World} {A:Around} {E:Value→Shared→Prop} {s:Shared}
def sIx (n d:Nat):Option Int→Nat
 | none=>d
 | some v=>if v<0 then (v+(n:Int)).toNat else min v.toNat n
end
end HT
namespace L2
open PySem PySem.Spec PyProof.Rows
abbrev TO:=St→Hp→(Option Int→Hp→Prop)→Prop
def PO (X:Cx) (e:Option Expr) (t:TO):Prop :=
 ∀ (pins:List (Addr × Obj)) (s:Shared) (σ:St) (H:Hp) (Q:Option Int→Hp→Prop),Inv X pins σ H s→t σ H Q →
  wpAny (model X.prog X.w) X.A (evalPart e X.env) (fun u s'=>∃ o H',Inv X pins σ H' s'∧IsPart u o∧Q o H') X.xe s
def tNoPart:TO:=fun _ H Q=>Q none H
def tPart (t:TE):TO:=fun σ H Q=>t σ H fun x H1=>∃ i,x=.int i∧Q (some i) H1
theorem intsAre_of {ns:List Int}:∀ {us:List Value},Vals (ns.map V.int) us→IntsAre us ns:=by
 induction ns with
 | nil=>intro us r;rw [List.map_nil] at r;cases r;exact .nil
 | cons n ns ih =>
  intro us r
  rw [List.map_cons] at r
  cases r with
  | cons r1 r2 =>
   obtain ⟨t,e⟩:=r1
   subst e
   exact .cons n t (ih r2)
section
variable {X:Cx} {e:Expr} {te:TE} {lo hi:Option Expr} {tl th:TO} {pos p2:Pos}
theorem po_none:PO X none tNoPart:=by
 intro pins s σ H Q I h
 rw [evalPart_none]
 exact wpAny_pure ⟨none,H,I,.none,h⟩
theorem po_some (h:PE X e te):PO X (some e) (tPart te):=by
 intro pins s σ H Q I hw
 rw [evalPart_some]
 refine thn (h pins s σ H _ I hw) fun u s1 ⟨x,H1,I1,r1,q1⟩=>?_
 obtain ⟨i,rfl,q⟩:=q1
 obtain ⟨t,rfl⟩:=r1
 exact ⟨some i,H1,I1,.int i t,q⟩
def SlR (X:Cx) (r:V→Option Int→Option Int→Hp→VK→Prop):Prop :=
 ∀ (pins:List (Addr × Obj)) (s:Shared) (σ:St) (H:Hp) (x:V) (v vl vu:Value) (lo hi:Option Int) (sl:Addr) (Q:VK),Inv X pins σ H s→RelV x v→s.heap.IsSliceOf sl vl vu .none→IsPart vl lo→IsPart vu hi→r x lo hi H Q →
  ∃ T id,typeLookup (.type T) "__getitem__"=pure (some (.builtin id))∧s.TypeIs v T∧wpAny (model X.prog X.w) X.A (getItem v (.ref sl)) (EP X pins σ Q) X.xe s
def tSl (r:V→Option Int→Option Int→Hp→VK→Prop) (te:TE) (tl th:TO):TE:=fun σ H Q=>te σ H fun x H1=>tl σ H1 fun l H2=>th σ H2 fun u H3=>r x l u H3 Q
theorem pe_slice {r:V→Option Int→Option Int→Hp→VK→Prop} (hr:SlR X r) (he:PE X e te) (hl:PO X lo tl) (hu:PO X hi th):PE X (.Subscript e (.Slice lo hi none p2) pos) (tSl r te tl th):=by
 intro pins s σ H Q I h
 refine Subscript_ (thn (he pins s σ H _ I h) fun v s1 ⟨x,H1,I1,r1,q1⟩=>?_)
 refine wpAny_Slice (thn (hl pins s1 σ H1 _ I1 q1) fun vl s2 ⟨l,H2,I2,pl,q2⟩=>thn (hu pins s2 σ H2 _ I2 q2) fun vu s3 ⟨u,H3,I3,pu,q3⟩=>?_)
 rw [evalPart_none]
 refine wpAny_pure ?_
 have I4:Inv X pins σ H3 { s3 with heap:=s3.heap.push { cls:=.type "slice",data:=.fields #[vl,vu,.none] } }:=I3.kept (t':=s3.toks) fun b ob q=>Heap.get?_push_of_some _ q
 obtain ⟨T,id,hT,ht,hg⟩:=hr pins { s3 with heap:=s3.heap.push { cls:=.type "slice",data:=.fields #[vl,vu,.none] } } σ H3 x v vl vu l u s3.heap.objs.size Q I4 r1 (Heap.IsSliceOf.new ..) pl pu q3
 show wpAny (model X.prog X.w) X.A (subscriptTail e (.Slice lo hi none p2) v (.ref s3.heap.objs.size)) (EP X pins σ Q) X.xe { s3 with heap:=s3.heap.push { cls:=.type "slice",data:=.fields #[vl,vu,.none] } }
 exact tail_any (ops:=[.ref s3.heap.objs.size,v]) ht hT hg (by with_unfolding_all rfl)
def cutV (xs:List V) (lo hi:Option Int):List V:=(xs.drop (HT.sIx xs.length 0 lo)).take (HT.sIx xs.length xs.length hi - HT.sIx xs.length 0 lo)
theorem cutV_length (xs:List V) (lo hi:Option Int):(cutV xs lo hi).length≤xs.length:=by
 unfold cutV
 rw [Z16,Z25]
 lia
end
end L2
namespace L2
open PySem PySem.Spec PyProof.Rows
def ixN (n:Nat) (i:Int):Option Nat:=if 0≤i then (if i<n then some i.toNat else none) else if -(n:Int)≤i then some (i+n).toNat else none
def atI {α:Type} (xs:List α) (i:Int):Option α:=(ixN xs.length i).bind fun j=>xs[j]?
theorem ixN_seq {n:Nat} {i:Int} {j:Nat} (h:ixN n i=some j):seqIndex? i n=some j∧j<n∧-(n:Int)≤i∧i<n:=by
 unfold ixN at h
 by_cases h0:0≤i
 ·rw [if_pos h0] at h
  by_cases h1:i<n
  ·rw [if_pos h1] at h
   have e:i.toNat=j:=Option.some.inj h
   exact ⟨by rw [seqIndex_of h0 h1,e],by lia,by lia,h1⟩
  ·rw [if_neg h1] at h;cases h
 ·rw [if_neg h0] at h
  by_cases h1:-(n:Int)≤i
  ·rw [if_pos h1] at h
   have e:(i+n).toNat=j:=Option.some.inj h
   exact ⟨by rw [seqIndex_neg (by lia) h1,e],by lia,h1,by lia⟩
  ·rw [if_neg h1] at h;cases h
theorem atI_get {α:Type} {xs:List α} {i:Int} {v:α} (h:atI xs i=some v):∃ j,seqIndex? i xs.length=some j∧xs[j]?=some v∧j<xs.length∧-(xs.length:Int)≤i∧i<xs.length:=by
 unfold atI at h
 cases e:ixN xs.length i with
 | none=>rw [e] at h;cases h
 | some j =>
  rw [e] at h
  obtain ⟨h1,h2,h3,h4⟩:=ixN_seq e
  exact ⟨j,h1,h,h2,h3,h4⟩
theorem atI_nat {α:Type} {xs:List α} {j:Nat} {v:α} (h:xs[j]?=some v):atI xs (j:Int)=some v:=by
 have hj:j<xs.length:=(List.getElem?_eq_some_iff.mp h).1
 have e:ixN xs.length (j:Int)=some j:=by
  unfold ixN
  rw [if_pos (by lia),if_pos (by lia)];simp
 unfold atI;rw [e];exact h
def PlainIx (b:Expr):Prop:=∀ o i,subscripted b false o i=operate [o,i] (getItem o i)
def IxR (X:Cx) (r:R2):Prop :=
 ∀ (value slice:Expr) (pins:List (Addr × Obj)) (s:Shared) (σ:St) (H:Hp) (x y:V) (v u:Value) (Q:VK),Inv X pins σ H s→RelV x v→RelV y u→r x y H Q →
  subscripted slice false v u=operate [v,u] (getItem v u)→wpAny (model X.prog X.w) X.A (subscriptTail value slice v u) (EP X pins σ Q) X.xe s
def MtR (X:Cx) (id:String) (r:V→List V→Hp→VK→Prop):Prop :=
 ∀ (pins:List (Addr × Obj)) (s:Shared) (σ:St) (H:Hp) (x:V) (xs:List V) (v:Value) (us:List Value) (Q:VK),Inv X pins σ H s→RelV x v→Vals xs us→r x xs H Q →
  wpAny (model X.prog X.w) X.A (call (.builtin id) (v::us)) (EP X pins σ Q) X.xe s
section
variable {X:Cx} {a b:Expr} {ta tb:TE} {pos:Pos}
theorem pe_ix {r:R2} (hr:IxR X r) (ha:PE X a ta) (hb:PE X b tb) (hs:PlainIx b):PE X (.Subscript a b pos) (tOp r ta tb):=by
 intro pins s σ H Q I h
 exact Subscript_ (binT ha hb I h fun v u s2 x y H2 I2 rx ry q=>hr a b pins s2 σ H2 x y v u Q I2 rx ry q (hs _ _))
def rIxL (K:PySem.W.Frag):R2:=fun x y H Q=>∃ p xs i v,x=.ref p∧y=.int i∧SqL K H p xs∧atI xs i=some v∧Q v H
def rIxT (K:PySem.W.Frag):R2:=fun x y H Q=>∃ p xs i v,x=.ref p∧y=.int i∧SqT K H p xs∧atI xs i=some v∧Q v H
theorem ix_list:IxR X (rIxL X.K):=by
 intro value slice pins s σ H x y v u Q I rx ry h hs
 obtain ⟨p,xs,i,z,rfl,rfl,hq,he,q⟩:=h
 cases rx
 obtain ⟨t,rfl⟩:=ry
 obtain ⟨its,r,pl,hz⟩:=I.list hq
 obtain ⟨j,h1,h2,h3,h4,h5⟩:=atI_get he
 obtain ⟨w,ew,rw'⟩:=r.get h2
 have hl:=r.length
 have hn:=line63
 have fin:EP X pins σ Q w s:=⟨z,H,I,rw',q⟩
 by_cases h0:0≤i
 ·have hj:i.toNat=j:=by
   rw [seqIndex_of h0 h5] at h1
   exact Option.some.inj h1
  exact item_listR pl.isList h0 (by lia) (by rw [hj];simpa using ew) fin hs
 ·have hj:(i+(its.toArray.size:Int)).toNat=j:=by
   rw [seqIndex_neg (by lia) h4] at h1
   rw [Z17,←hl]
   exact Option.some.inj h1
  exact subscriptTail_builtinR (x:=w) pl.isList.typeIs slot_list_getitem.lookup
   (wpAny_getItem_list_neg (Q:=fun r s'=>r=w∧EP X pins σ Q r s') pl.isList (by lia) (by rw [List.size_toArray] <;> lia) (by lia) (by rw [hj];simpa using ew) ⟨rfl,fin⟩) hs
theorem ix_tup:IxR X (rIxT X.K):=by
 intro value slice pins s σ H x y v u Q I rx ry h hs
 obtain ⟨p,xs,i,z,rfl,rfl,hq,he,q⟩:=h
 cases rx
 obtain ⟨t,rfl⟩:=ry
 obtain ⟨its,r,pl,hz⟩:=I.tuple hq
 obtain ⟨j,h1,h2,h3,h4,h5⟩:=atI_get he
 obtain ⟨w,ew,rw'⟩:=r.get h2
 have hl:=r.length
 have hn:=line63
 have fin:EP X pins σ Q w s:=⟨z,H,I,rw',q⟩
 exact subscriptTail_builtinR (x:=w) pl.typeIs slot_tuple_getitem.lookup
  (getItem_tuple (j:=j) (Q:=fun r s'=>r=w∧EP X pins σ Q r s') pl (by lia) (by lia) (by rw [List.size_toArray,←hl];exact h1) (by simpa using ew) ⟨rfl,fin⟩) hs
theorem mapSeq_set (its:List Value) (n j:Nat) (u:Value):Obj.mapSeq (·.setIfInBounds j u) { cls:=.type "list",data:=.seq its.toArray n }={ cls:=.type "list",data:=.seq (its.set j u).toArray n }:=by
 simp [Obj.mapSeq]
theorem Inv.lst {pins:List (Addr × Obj)} {σ:St} {H:Hp} {s:Shared} {p:Addr} {xs:List V} (I:Inv X pins σ H s) (h:H p=some (.lst xs)) :
  ∃ (its:List Value) (n:Nat),Vals xs its∧s.heap.get? p=some { cls:=.type "list",data:=.seq its.toArray n }∧xs.length≤sizeLine:=by
 obtain ⟨z,its,n,r,e⟩:=I.hok p _ h
 exact ⟨its,n,r,e,z⟩
theorem Inv.lstUpd {pins:List (Addr × Obj)} {σ:St} {H:Hp} {s:Shared} {p:Addr} {xs ys:List V} {its its':List Value} {n n':Nat} {f:Obj→Obj} (I:Inv X pins σ H s) (h:H p=some (.lst xs))
  (ho:s.heap.get? p=some { cls:=.type "list",data:=.seq its.toArray n }) (hf:f { cls:=.type "list",data:=.seq its.toArray n }={ cls:=.type "list",data:=.seq its'.toArray n' }) (r:Vals ys its') (hz:ys.length≤sizeLine) (t:Nat) :
  Inv X pins σ (upd H p (.lst ys)) { s with heap:=s.heap.update p f,toks:=t }:=by
 have e:(s.heap.update p f).get? p=some { cls:=.type "list",data:=.seq its'.toArray n' }:=by
  rw [Heap.get?_update_self f ho (by rw [hf] <;> rfl),hf]
 refine I.write (x:=p) (e:=p) (by rw [h];trivial) (.inl rfl) (fun b u hb q=>(Heap.get?_update_other _ _ (Ne.symm hb)).trans q) ⟨_,e⟩ ?_
 exact ⟨hz,its',n',r,e⟩
def rSetL:V→V→V→Hp→(Hp→Prop)→Prop:=fun o i v H Q=>∃ p xs k j,o=.ref p∧i=.int k∧H p=some (.lst xs)∧ixN xs.length k=some j∧Q (upd H p (.lst (xs.set j v)))
theorem set_list:PSet X rSetL:=by
 intro pins s σ H o i v ov iv u Q I ro ri rv h
 obtain ⟨p,xs,k,j,rfl,rfl,hp,hj,q⟩:=h
 cases ro
 obtain ⟨t,rfl⟩:=ri
 obtain ⟨its,n,r,ho,hz⟩:=I.lst hp
 obtain ⟨h1,h2,h3,h4⟩:=ixN_seq hj
 have hl:=r.length
 have hn:=line63
 have I':Inv X pins σ (upd H p (.lst (xs.set j v))) { s with heap:=s.heap.update p (Obj.mapSeq (·.setIfInBounds j u)) } :=
  I.lstUpd hp ho (mapSeq_set its n j u) (r.set rv j) (by rw [Z11];exact hz) s.toks
 by_cases h0:0≤k
 ·have hk:k.toNat=j:=by
   rw [seqIndex_of h0 h4] at h1
   exact Option.some.inj h1
  exact PySem.W.ki_setAt ho h0 (by lia) (by rw [Z17,←hl];exact h4) (by rw [hk];exact ⟨_,I',q⟩)
 ·have hk:(k+(its.toArray.size:Int)).toNat=j:=by
   rw [seqIndex_neg (by lia) h3] at h1
   rw [Z17,←hl]
   exact Option.some.inj h1
  exact PySem.W.ki_setBack ho (by lia) (by rw [Z17,←hl];exact h3) (by lia) (by rw [hk];exact ⟨_,I',q⟩)
theorem slice_bounds (lo hi:Option Int) (n:Nat):(sliceBounds lo hi none n).1=((HT.sIx n 0 lo:Nat):Int)∧(sliceBounds lo hi none n).2.1=((HT.sIx n n hi:Nat):Int)∧(sliceBounds lo hi none n).2.2=1:=by
 refine ⟨?_,?_,rfl⟩
 ·cases lo with
  | none=>simp [sliceBounds,HT.sIx]
  | some i =>
   simp only [sliceBounds,HT.sIx,Option.getD_none,show (1:Int) > 0 by decide,if_true]
   by_cases h:i<0
   ·simp only [h,if_true] <;> lia
   ·simp only [h,if_false] <;> lia
 ·cases hi with
  | none=>simp [sliceBounds,HT.sIx]
  | some i =>
   simp only [sliceBounds,HT.sIx,Option.getD_none,show (1:Int) > 0 by decide,if_true]
   by_cases h:i<0
   ·simp only [h,if_true] <;> lia
   ·simp only [h,if_false] <;> lia
theorem slicePick_cut (its:List Value) (lo hi:Option Int):slicePick its.toArray lo hi none=((its.drop (HT.sIx its.length 0 lo)).take (HT.sIx its.length its.length hi - HT.sIx its.length 0 lo)).toArray:=by
 obtain ⟨h1,h2,h3⟩:=slice_bounds lo hi its.toArray.size
 unfold slicePick
 rw [h1,h2,h3]
 simp only [sliceRange_one,pick_run,List.size_toArray] <;> rfl
def rSlL (K:PySem.W.Frag):V→Option Int→Option Int→Hp→VK→Prop:=fun x lo hi H Q=>∃ a xs,x=.ref a∧SqL K H a xs∧∀ p,H p=none→Q (.ref p) (upd H p (.lst (cutV xs lo hi)))
theorem sl_list:SlR X (rSlL X.K):=by
 intro pins s σ H x v vl vu lo hi sl Q I rx hs pl pu h
 obtain ⟨a,xs,rfl,hx,q⟩:=h
 cases rx
 obtain ⟨its,r,ht,hz⟩:=I.list hx
 have hlen:=r.length
 refine ⟨"list",_,slot_list_getitem.lookup,ht.isList.typeIs,?_⟩
 refine wpAny_getItem_list_slice ht.isList hs pl pu .none (by simp) ?_ (by rw [List.size_toArray] <;> lia)
 rw [slicePick_cut,←hlen]
 refine ⟨.ref s.heap.objs.size,_,I.laid (t':=s.toks) (o:=.lst (cutV xs lo hi)) (fun b ob q=>Heap.get?_push_of_some _ q) (Nat.le_refl _) ?_,rfl,q _ (I.hok.fresh (Nat.le_refl _))⟩
 exact ⟨Nat.le_trans (cutV_length xs lo hi) hz,_,0,(r.drop (HT.sIx xs.length 0 lo)).take (HT.sIx xs.length xs.length hi - HT.sIx xs.length 0 lo),Heap.get?_push_size _ rfl⟩
def flatV:V→Bool
 | .non=>true
 | .bl _=>true
 | .int _=>true
 | .str _=>true
 | _=>false
def eqV:V→V→Bool
 | .non,.non=>true
 | .bl a,.bl b=>a == b
 | .bl a,.int b=>(if a then 1 else 0) == b
 | .int a,.bl b=>a == (if b then 1 else 0)
 | .int a,.int b=>a == b
 | .str a,.str b=>a == b
 | _,_=>false
theorem eqAt_V {A:Around} {s:Shared} {y x:V} {u v:Value} (ry:RelV y u) (rx:RelV x v) (fy:flatV y=true) (fx:flatV x=true):SeqAt.EqAt A s u v (eqV y x):=by
 cases y with
 | non =>
  cases ry
  cases x with
  | non=>cases rx;exact SeqAt.EqAt.same _
  | bl b=>cases rx;exact SeqAt.EqAt.none_bool b
  | int b=>obtain ⟨t,rfl⟩:=rx;exact SeqAt.EqAt.none_int b t
  | str b=>obtain ⟨t,rfl⟩:=rx;exact SeqAt.EqAt.none_str b t
  | _=>exact absurd (show false=true from fx) Bool.false_ne_true
 | bl a =>
  cases ry
  cases x with
  | non=>cases rx;exact SeqAt.EqAt.bool_none a
  | bl b=>cases rx;exact SeqAt.EqAt.bool_bool a b
  | int b=>obtain ⟨t,rfl⟩:=rx;exact SeqAt.EqAt.bool_int a b t
  | str b=>obtain ⟨t,rfl⟩:=rx;exact SeqAt.EqAt.bool_str a b t
  | _=>exact absurd (show false=true from fx) Bool.false_ne_true
 | int a =>
  obtain ⟨t',rfl⟩:=ry
  cases x with
  | non=>cases rx;exact SeqAt.EqAt.int_none a t'
  | bl b=>cases rx;exact SeqAt.EqAt.int_bool a t' b
  | int b=>obtain ⟨t,rfl⟩:=rx;exact SeqAt.EqAt.int_int a t' b t
  | str b=>obtain ⟨t,rfl⟩:=rx;exact SeqAt.EqAt.int_str a t' b t
  | _=>exact absurd (show false=true from fx) Bool.false_ne_true
 | str a =>
  obtain ⟨t',rfl⟩:=ry
  cases x with
  | non=>cases rx;exact SeqAt.EqAt.str_none a t'
  | bl b=>cases rx;exact SeqAt.EqAt.str_bool a t' b
  | int b=>obtain ⟨t,rfl⟩:=rx;exact SeqAt.EqAt.str_int a t' b t
  | str b=>obtain ⟨t,rfl⟩:=rx;exact SeqAt.EqAt.str_str a t' b t
  | _=>exact absurd (show false=true from fx) Bool.false_ne_true
 | _=>exact absurd (show false=true from fy) Bool.false_ne_true
def eqU (x:V) (u:Value):Bool:=match u with
 | .none=>eqV .non x
 | .bool b=>eqV (.bl b) x
 | .int i _=>eqV (.int i) x
 | .str z _=>eqV (.str z) x
 | _=>false
theorem eqU_of {x y:V} {u:Value} (r:RelV y u) (f:flatV y=true):eqU x u=eqV y x:=by
 cases y with
 | non=>cases r;rfl
 | bl b=>cases r;rfl
 | int i=>obtain ⟨t,rfl⟩:=r;rfl
 | str z=>obtain ⟨t,rfl⟩:=r;rfl
 | _=>exact absurd (show false=true from f) Bool.false_ne_true
theorem any_eqU {x:V}:∀ {xs:List V} {us:List Value},Vals xs us→xs.all flatV=true→us.any (eqU x)=xs.any fun y=>eqV y x
 | _,_,.nil,_=>rfl
 | y::xs,u::us,.cons r t,f=>by
  rw [List.all_cons,Bool.and_eq_true] at f
  rw [List.any_cons,List.any_cons,eqU_of r f.1,any_eqU t f.2]
theorem mem_eqAt {A:Around} {s:Shared} {x:V} {v:Value} (rx:RelV x v) (fx:flatV x=true):∀ {xs:List V} {us:List Value},Vals xs us→xs.all flatV=true→∀ u∈us,SeqAt.EqAt A s u v (eqU x u)
 | _,_,.nil,_=>fun u hu=>by cases hu
 | y::xs,u::us,.cons r t,f=>fun u' hu=>by
  rw [List.all_cons,Bool.and_eq_true] at f
  rcases List.mem_cons.mp hu with rfl | hu
  ·rw [eqU_of r f.1];exact eqAt_V r rx f.1 fx
  ·exact mem_eqAt rx fx t f.2 u' hu
def inV (x:V) (xs:List V):Bool:=xs.any fun y=>eqV y x
def rIn (K:PySem.W.Frag) (neg:Bool):R2:=fun x y H Q=>∃ p xs,y=.ref p∧(SqL K H p xs∨SqT K H p xs)∧flatV x=true∧xs.all flatV=true∧Q (.bl (if neg then !inV x xs else inV x xs)) H
theorem op_in_seq:OpR X (compareOp .In) (rIn X.K false):=by
 intro pins s σ H x y v u Q I rx ry h
 obtain ⟨p,xs,rfl,hq,fx,fs,q⟩:=h
 cases ry
 rcases hq with hq | hq
 ·obtain ⟨its,r,pl,hz⟩:=I.list hq
  refine SeqAt.in_listAt (eqU x) pl.isList (fun w hw=>mem_eqAt rx fx r fs w (by simpa using hw)) ⟨.bl _,H,I,rfl,?_⟩
  rw [show its.toArray.any (eqU x)=its.any (eqU x) by simp,any_eqU r fs]
  exact q
 ·obtain ⟨its,r,pl,hz⟩:=I.tuple hq
  refine SeqAt.in_tupleAt (eqU x) pl (fun w hw=>mem_eqAt rx fx r fs w (by simpa using hw)) ⟨.bl _,H,I,rfl,?_⟩
  rw [show its.toArray.any (eqU x)=its.any (eqU x) by simp,any_eqU r fs]
  exact q
theorem op_notIn_seq:OpR X (compareOp .NotIn) (rIn X.K true):=by
 intro pins s σ H x y v u Q I rx ry h
 obtain ⟨p,xs,rfl,hq,fx,fs,q⟩:=h
 cases ry
 rcases hq with hq | hq
 ·obtain ⟨its,r,pl,hz⟩:=I.list hq
  refine SeqAt.notIn_listAt (eqU x) pl.isList (fun w hw=>mem_eqAt rx fx r fs w (by simpa using hw)) ⟨.bl _,H,I,rfl,?_⟩
  rw [show its.toArray.any (eqU x)=its.any (eqU x) by simp,any_eqU r fs]
  exact q
 ·obtain ⟨its,r,pl,hz⟩:=I.tuple hq
  refine SeqAt.notIn_tupleAt (eqU x) pl (fun w hw=>mem_eqAt rx fx r fs w (by simpa using hw)) ⟨.bl _,H,I,rfl,?_⟩
  rw [show its.toArray.any (eqU x)=its.any (eqU x) by simp,any_eqU r fs]
  exact q
theorem call_len_seq:CallR X (.builtin "len") (fun xs H Q=>∃ p ys,xs=[.ref p]∧(SqL X.K H p ys∨SqT X.K H p ys)∧Q (.int ys.length) H):=by
 intro pins s σ H xs us Q I r h
 obtain ⟨p,ys,rfl,hq,q⟩:=h
 obtain ⟨u,rfl,rx⟩:=vals1 r
 cases rx
 have hn:=line63
 rcases hq with hq | hq
 ·obtain ⟨its,r',pl,hz⟩:=I.list hq
  have hlen:=r'.length
  exact Calls.call_len_list pl.isList (by simp only [List.size_toArray] <;> lia) ⟨.int ys.length,H,I.tok _,⟨s.toks+1,by rw [List.size_toArray,hlen]⟩,q⟩
 ·obtain ⟨its,r',pl,hz⟩:=I.tuple hq
  have hlen:=r'.length
  exact len_tuple pl (by simp only [List.size_toArray] <;> lia) ⟨.int ys.length,H,I.tok _,⟨s.toks+1,by rw [List.size_toArray,hlen]⟩,q⟩
theorem call_list_of:CallR X (.type "list") (fun xs H Q=>∃ p ys,xs=[.ref p]∧(SqL X.K H p ys∨SqT X.K H p ys)∧∀ l,H l=none→Q (.ref l) (upd H l (.lst ys))):=by
 intro pins s σ H xs us Q I r h
 obtain ⟨p,ys,rfl,hq,q⟩:=h
 obtain ⟨u,rfl,rx⟩:=vals1 r
 cases rx
 have fin:∀ (its:List Value),Vals ys its→ys.length≤sizeLine→∀ (h':Heap) (c':Nat),(∀ b o',s.heap.get? b=some o'→h'.get? b=some o') →
   h'.get? s.heap.objs.size=some { cls:=.type "list",dict:=none,data:=.seq its.toArray c',slots:=#[] }→EP X pins σ Q (.ref s.heap.objs.size) { s with heap:=h' }:=fun its r' hz h' c' kp e =>
  ⟨.ref s.heap.objs.size,_,I.laid (t':=s.toks) kp (Nat.le_refl _) (show ObjOk X.prog X.w _ h' _ (.lst ys) from ⟨hz,its,c',r',e⟩),rfl,q _ (I.hok.fresh (Nat.le_refl _))⟩
 rcases hq with hq | hq
 ·obtain ⟨its,r',pl,hz⟩:=I.list hq
  have hlen:=r'.length
  obtain ⟨o,ho,hc,n,hd⟩:=pl.isList
  exact call_list_seq p (.inl rfl) ho hc hd (fun h' c' kp e=>fin its r' hz h' c' kp e) (by simp only [List.size_toArray] <;> lia)
 ·obtain ⟨its,r',pl,hz⟩:=I.tuple hq
  have hlen:=r'.length
  obtain ⟨o,ho,hc,n,hd⟩:=pl
  exact call_list_seq p (.inr rfl) ho hc hd (fun h' c' kp e=>fin its r' hz h' c' kp e) (by simp only [List.size_toArray] <;> lia)
theorem call_tuple_of:CallR X (.type "tuple") (fun xs H Q=>∃ p ys,xs=[.ref p]∧((SqL X.K H p ys∧∀ l,H l=none→Q (.ref l) (upd H l (.tup ys)))∨(SqT X.K H p ys∧Q (.ref p) H))):=by
 intro pins s σ H xs us Q I r h
 obtain ⟨p,ys,rfl,h⟩:=h
 obtain ⟨u,rfl,rx⟩:=vals1 r
 cases rx
 rcases h with ⟨hq,q⟩ | ⟨hq,q⟩
 ·obtain ⟨its,r',pl,hz⟩:=I.list hq
  have hlen:=r'.length
  refine call_tuple_list pl.isList (fun h' kp=>?_) (by simp only [List.size_toArray] <;> lia)
  have I1:Inv X pins σ H { s with heap:=h' }:=I.kept (t':=s.toks) kp
  have I2:Inv X pins σ (upd H h'.objs.size (.tup ys)) { s with heap:=h'.push { cls:=.type "tuple",data:=.seq its.toArray } } :=
   I1.laid (t':=s.toks) (fun b o e=>Heap.get?_push_of_some _ e) (Nat.le_refl _) (show ObjOk X.prog X.w _ _ _ (.tup ys) from ⟨hz,its,r',IsTup.new _ _⟩)
  exact ⟨.ref h'.objs.size,_,I2,rfl,q _ (I1.hok.fresh (Nat.le_refl _))⟩
 ·obtain ⟨its,r',pl,hz⟩:=I.tuple hq
  exact call_tuple_same pl ⟨.ref p,H,I,rfl,q⟩
def tyV (K:PySem.W.Frag) (T:String) (x:V) (H:Hp):Prop:=match x with
 | .str _=>T="str"
 | .int _=>T="int"
 | .ref p=>(T="list"∧∃ xs,SqL K H p xs)∨(T="tuple"∧∃ o,K.lookup p=some o∧o.cls=.type "tuple"∧o.dict=none) ∨
   (T="dict"∧((∃ kvs,H p=some (.dK kvs))∨∃ kvs,H p=some (.dT kvs)))∨(T="set"∧∃ S n,H p=some (.set S n))
 | _=>False
theorem tyV_is {pins:List (Addr × Obj)} {σ:St} {H:Hp} {s:Shared} {T:String} {x:V} {v:Value} (I:Inv X pins σ H s) (r:RelV x v) (ty:tyV X.K T x H) :
  s.TypeIs v T∧∀ a,v=.ref a→∃ ob,s.heap.get? a=some ob∧ob.dict=none:=by
 cases x with
 | str z =>
  obtain ⟨t,rfl⟩:=r
  cases (show T="str" from ty)
  exact ⟨typeIs_str s z t,fun _ e=>nomatch e⟩
 | int i =>
  obtain ⟨t,rfl⟩:=r
  cases (show T="int" from ty)
  exact ⟨typeIs_int s i t,fun _ e=>nomatch e⟩
 | ref p =>
  cases r
  rcases ty with ⟨rfl,xs,hq⟩ | ⟨rfl,o,hk,hc,hd⟩ | ⟨rfl,hk⟩ | ⟨rfl,S,n,hk⟩
  ·obtain ⟨its,_,pl,_⟩:=I.list hq
   refine ⟨pl.isList.typeIs,fun a e=>?_⟩
   cases e
   obtain ⟨o,n,e,c,hd,_⟩:=pl
   exact ⟨o,e,hd⟩
  ·refine ⟨⟨o,I.kIn p o hk,hc⟩,fun a e=>?_⟩
   cases e
   exact ⟨o,I.kIn _ o hk,hd⟩
  ·have z:∃ o,s.heap.get? p=some o∧o.ExactDict:=by
    rcases hk with ⟨kvs,hk⟩ | ⟨kvs,hk⟩
    ·obtain ⟨_,_,_,_,o,_,_,e,ex,_⟩:=I.hok p _ hk
     exact ⟨o,e,ex⟩
    ·obtain ⟨_,_,_,_,o,_,_,e,ex,_⟩:=I.hok p _ hk
     exact ⟨o,e,ex⟩
   obtain ⟨o,e,ex⟩:=z
   refine ⟨⟨o,e,ex.1⟩,fun a e2=>?_⟩
   cases e2
   exact ⟨o,e,ex.2.1⟩
  ·obtain ⟨o,_,_,_,e,ex,_⟩:=I.hok p _ hk
   refine ⟨⟨o,e,ex.1⟩,fun a e2=>?_⟩
   cases e2
   exact ⟨o,e,ex.2.1⟩
 | _=>exact False.elim ty
def tBM0 (K:PySem.W.Frag) (T:String) (r:V→List V→Hp→VK→Prop) (to:TE):TE:=fun σ H Q=>to σ H fun x H1=>tyV K T x H1∧r x [] H1 Q
def tBM (K:PySem.W.Frag) (T:String) (r:V→List V→Hp→VK→Prop) (to:TE) (t:TA):TE:=fun σ H Q=>to σ H fun x H1=>tyV K T x H1∧t σ H1 fun xs H2=>r x xs H2 Q
variable {o e:Expr} {es:List Expr} {to:TE} {t:TA} {name:Str} {apos cpos:Pos} {T id:String} {r:V→List V→Hp→VK→Prop}
theorem pe_bm0 (pa:PlainAttrs T) (slot:Slot T name id) (hty:typeOf (.builtin id)=pure (.type "method_descriptor")) (hm:MtR X id r) (ho:PE X o to)
  (hbase:attributeBase o name X.env (eval o X.env)=eval o X.env:=by rfl) (hline:(apos.endLine == cpos.line)=true:=by rfl):PE X (.Call (.Attribute o name apos) [] [] cpos) (tBM0 X.K T r to):=by
 intro pins s σ H Q I h
 refine wpAny_Call_method0_late hbase hline (thn (ho pins s σ H _ I h) fun v s1 ⟨x,H1,I1,r1,ty,q1⟩=>?_)
 obtain ⟨h1,h2⟩:=tyV_is I1 r1 ty
 exact ⟨T,id,pa,slot,hty,h1,h2,Calls.callWith_builtin rfl (PySem.evalArgs_none (hm pins s1 σ H1 x [] v [] Q I1 r1 .nil q1))⟩
theorem pe_bm (pa:PlainAttrs T) (slot:Slot T name id) (hty:typeOf (.builtin id)=pure (.type "method_descriptor")) (hm:MtR X id r) (ho:PE X o to) (ha:PA X (e::es) t)
  (hbase:attributeBase o name X.env (eval o X.env)=eval o X.env:=by rfl)
  (hfew:((backTo cpos (starEach (e::es) X.env)).all (fun x=>!x.1) && (backToKw cpos (keywordEach [] X.env)).all (fun x=>x.1.isSome)
   && decide ((e::es).length+([]:List Keyword).length+(if ([]:List Keyword).isEmpty then 0 else 1)<30))=true:=by rfl)
  (hline:(apos.endLine == cpos.line)=true:=by rfl) (hs:starEach (e::es) X.env=(false,eval e X.env)::starEach es X.env:=by rfl) (hplain:(backTo cpos (starEach es X.env)).any (·.1)=false:=by rfl) :
  PE X (.Call (.Attribute o name apos) (e::es) [] cpos) (tBM X.K T r to t):=by
 intro pins s σ H Q I h
 refine wpAny_Call_method_late hbase hfew hline rfl (thn (ho pins s σ H _ I h) fun v s1 ⟨x,H1,I1,r1,ty,q1⟩=>?_)
 obtain ⟨h1,h2⟩:=tyV_is I1 r1 ty
 refine ⟨T,id,pa,slot,hty,h1,h2,?_⟩
 have hA:=ha cpos pins s1 σ H1 _ I1 q1
 rw [hs] at hA ⊢
 refine Calls.callWith_builtin (by show (false || (backTo cpos (starEach es X.env)).any (·.1))=false;rw [hplain] <;> rfl) (Calls.evalArgs_plain ?_)
 exact thn hA fun us s2 ⟨vs,H2,I2,r2,q2⟩=>hm pins s2 σ H2 x vs v us Q I2 r1 r2 q2
end
end L2
namespace L2
open PySem PySem.Spec PyProof.Rows
def MtM (X:Cx) (id:String) (r:V→List V→Hp→VK→Prop):Prop :=
 ∀ (pins:List (Addr × Obj)) (s:Shared) (σ:St) (H:Hp) (x:V) (xs:List V) (v:Value) (us:List Value) (Q:VK),Inv X pins σ H s→RelV x v→Vals xs us→r x xs H Q →
  wpAny (model X.prog X.w) X.A (call (.builtin id) (v::us)) (EP X pins σ Q) X.xe s
theorem Vals.one:∀ {x:V} {us:List Value},Vals [x] us→∃ u,us=[u]∧RelV x u
 | _,_,.cons r .nil=>⟨_,rfl,r⟩
theorem Vals.two:∀ {x y:V} {us:List Value},Vals [x,y] us→∃ u v,us=[u,v]∧RelV x u∧RelV y v
 | _,_,_,.cons r (.cons q .nil)=>⟨_,_,rfl,r,q⟩
theorem Vals.zero:∀ {us:List Value},Vals [] us→us=[]
 | _,.nil=>rfl
theorem Vals.reverse {xs:List V} {us:List Value} (h:Vals xs us):Vals xs.reverse us.reverse:=by
 induction h with
 | nil=>exact .nil
 | cons r t ih=>rw [List.reverse_cons,List.reverse_cons];exact Vals.append ih (.cons r .nil)
theorem Vals.rep {xs:List V} {us:List Value} (h:Vals xs us):∀ k:Nat,Vals (List.replicate k xs).flatten (List.replicate k us).flatten
 | 0=>.nil
 | k+1=>by
  rw [Z24,Z24,List.flatten_cons,List.flatten_cons]
  exact Vals.append h (Vals.rep h k)
theorem foldl_rep (its:List Value):∀ (k:Nat) (acc:List Value),
  List.foldl (fun x1 x2=>x1++x2) acc.toArray (List.replicate k its.toArray)=(acc++(List.replicate k its).flatten).toArray
 | 0,acc=>by simp
 | k+1,acc=>by
  have e:acc.toArray++its.toArray=(acc++its).toArray:=by simp
  have e2:(acc++its)++(List.replicate k its).flatten=acc++(List.replicate (k+1) its).flatten:=by
   rw [Z24,List.flatten_cons,List.append_assoc]
  rw [←e2,←foldl_rep its k (acc++its),←e,Z24,List.foldl_cons]
section
variable {X:Cx} {pins:List (Addr × Obj)} {σ:St} {H:Hp} {s:Shared} {l b:Addr} {xs ys zs:List V}
theorem Inv.lset {its its':List Value} {n:Nat} {f:Array Value→Array Value} {t':Nat} (I:Inv X pins σ H s) (hH:H l=some (.lst xs))
  (e:s.heap.get? l=some { cls:=.type "list",data:=.seq its.toArray n }) (hf:f its.toArray=its'.toArray) (hv:Vals ys its') (hz:ys.length≤sizeLine) :
  Inv X pins σ (upd H l (.lst ys)) { s with heap:=s.heap.update l (Obj.mapSeq f),toks:=t' }:=by
 have q:=PySem.IsL.update e f
 rw [hf] at q
 refine I.write (x:=l) (e:=l) (by rw [hH];exact trivial) (.inl rfl) (fun b' u hb hu=>(Heap.get?_update_other s.heap (Obj.mapSeq f) (Ne.symm hb)).trans hu) ⟨_,q⟩ ?_
 exact ⟨hz,its',_,hv,q⟩
theorem Inv.lnew {its:List Value} {t':Nat} (I:Inv X pins σ H s) (hv:Vals ys its) (hz:ys.length≤sizeLine) :
  Inv X pins σ (upd H s.heap.objs.size (.lst ys)) { s with heap:=s.heap.push { cls:=.type "list",data:=.seq its.toArray },toks:=t' } :=
 I.laid (fun _ _ q=>Heap.get?_push_of_some _ q) (Nat.le_refl _) ⟨hz,its,0,hv,Heap.get?_push_size _ rfl⟩
theorem Inv.fresh (I:Inv X pins σ H s):H s.heap.objs.size=none:=I.hok.fresh (Nat.le_refl _)
theorem Inv.lstM (I:Inv X pins σ H s) (hH:H l=some (.lst xs)):xs.length≤sizeLine∧∃ (its:List Value) (n:Nat),Vals xs its∧xs.length=its.length∧s.heap.get? l=some { cls:=.type "list",data:=.seq its.toArray n }:=by
 obtain ⟨z,its,n,r,e⟩:=I.hok l _ hH
 exact ⟨z,its,n,r,r.length,e⟩
theorem notLongL {n:Nat} (h:n≤sizeLine):Builtin.List.listTooLong n=false:=by
 unfold Builtin.List.listTooLong
 exact decide_eq_false (by lia)
end
section
variable {X:Cx}
def rAppend:V→List V→Hp→VK→Prop:=fun x vs H Q=>∃ l xs y,x=.ref l∧vs=[y]∧H l=some (.lst xs)∧xs.length<sizeLine∧Q .non (upd H l (.lst (xs++[y])))
theorem mt_append:MtM X "list.append" rAppend:=by
 intro pins s σ H x vs v us Q I rx rv h
 obtain ⟨l,xs,y,rfl,rfl,hH,hz,q⟩:=h
 cases rx
 obtain ⟨u,rfl,ru⟩:=rv.one
 obtain ⟨z,its,n,r,hl,e⟩:=I.lstM hH
 refine call_meets F.slot_list_append ⟨_,e,rfl⟩ F.entry_list_append (F.args_list_append_2 _ _) (PySem.list_append l its.toArray n u (by rw [Z17];lia)) ⟨e,?_⟩
 refine ⟨.non,_,I.lset (its':=its++[u]) hH e (by simp) (r.append (.cons ru .nil)) ?_,rfl,q⟩
 rw [Z4,Z15]
 lia
def rClear:V→List V→Hp→VK→Prop:=fun x vs H Q=>∃ l xs,x=.ref l∧vs=[]∧H l=some (.lst xs)∧Q .non (upd H l (.lst []))
theorem mt_clear:MtM X "list.clear" rClear:=by
 intro pins s σ H x vs v us Q I rx rv h
 obtain ⟨l,xs,rfl,rfl,hH,q⟩:=h
 cases rx
 have hus:=rv.zero
 subst hus
 obtain ⟨z,its,n,r,hl,e⟩:=I.lstM hH
 refine call_meets F.slot_list_clear ⟨_,e,rfl⟩ F.entry_list_clear (F.args_list_clear_1 _) (AutoSeq1.list_clear_list_0 l its.toArray n (by rw [Z17];lia)) ⟨e,?_⟩
 exact ⟨.non,_,I.lset (its':=[]) (ys:=[]) hH e rfl .nil (Nat.zero_le _),rfl,q⟩
def rCat:R2:=fun x y H Q=>∃ l b xs zs,x=.ref l∧y=.ref b∧H l=some (.lst xs)∧H b=some (.lst zs)∧xs.length+zs.length≤sizeLine∧∀ p,H p=none→Q (.ref p) (upd H p (.lst (xs++zs)))
theorem op_cat:OpR X (binaryOp .Add) rCat:=by
 intro pins s σ H x y v u Q I rx ry h
 obtain ⟨l,b,xs,zs,rfl,rfl,hH,hB,hz,q⟩:=h
 cases rx
 cases ry
 obtain ⟨z,its,n,r,hl,e⟩:=I.lstM hH
 obtain ⟨z2,its2,n2,r2,hl2,e2⟩:=I.lstM hB
 refine PySem.P.add_list e e2 ?_ (by rw [Z17,Z17];lia)
 have ea:its.toArray++its2.toArray=(its++its2).toArray:=by simp
 rw [ea]
 exact ⟨.ref _,_,I.lnew (t':=s.toks) (r.append r2) (by rw [Z4];lia),rfl,q _ I.fresh⟩
def rRep:R2:=fun x y H Q=>∃ l k xs,x=.ref l∧y=.int k∧H l=some (.lst xs)∧-(2^63)≤k∧k<2^63∧xs.length*k.toNat≤sizeLine ∧
 ∀ p,H p=none→Q (.ref p) (upd H p (.lst (List.replicate k.toNat xs).flatten))
theorem len_rep {α:Type} (xs:List α) (k:Nat):(List.replicate k xs).flatten.length=k*xs.length:=by
 induction k with
 | zero=>simp
 | succ k ih=>rw [Z24,List.flatten_cons,Z4,ih,Nat.succ_mul,Nat.add_comm]
theorem op_rep:OpR X (binaryOp .Mult) rRep:=by
 intro pins s σ H x y v u Q I rx ry h
 obtain ⟨l,k,xs,rfl,rfl,hH,h1,h2,hz,q⟩:=h
 cases rx
 obtain ⟨t,rfl⟩:=ry
 obtain ⟨z,its,n,r,hl,e⟩:=I.lstM hH
 have hlen:its.toArray.size*k.toNat≤sizeLine:=by rw [Z17,←hl];exact hz
 have hcap:¬ its.toArray.size*k.toNat > (2^63 - 1) / 8:=by
  have:(sizeLine:Nat)≤(2^63 - 1) / 8:=by decide
  lia
 have hfit:¬ (!Builtin.List.listFitsIndex k)=true:=by
  rw [fitsIndex_both h1 h2]
  exact Bool.false_ne_true
 have hlong:¬ Builtin.List.listTooLong (its.toArray.size*k.toNat)=true:=by
  rw [notLongL hlen]
  exact Bool.false_ne_true
 have hnew:List.foldl (fun x1 x2=>x1++x2) #[] (List.replicate (if its.toArray.isEmpty=true then 0 else k.toNat) its.toArray)=(List.replicate k.toNat its).flatten.toArray:=by
  have f0:∀ m:Nat,List.foldl (fun x1 x2=>x1++x2) #[] (List.replicate m its.toArray)=(List.replicate m its).flatten.toArray:=fun m=>by
   have:=foldl_rep its m []
   rw [List.nil_append] at this
   exact this
  rw [f0]
  cases its with
  | nil=>simp
  | cons a r'=>rw [if_neg (by simp)]
 refine wpAny_binaryOp_repeat_ref (T:="list") (U:="int") (by decide) ⟨_,e,rfl⟩ (fun s'=>typeIs_int s' k t) noFill_list_mul F.fills_int_mul F.slot_int_rmul repeat_list F.slot_int_index.lookup
  (call_meets F.slot_int_rmul (typeIs_int s k t) F.entry_int_rmul (F.args_int_rmul_2 _ _) (int___rmul___int_list k t l its.toArray n)
   ⟨e,rfl,⟨_,e,rfl⟩,call_meets F.slot_list_mul ⟨_,e,rfl⟩ F.entry_list_mul (F.args_list_mul_2 _ _) (AutoListH.list___mul___list_int_3 l its.toArray n k t hfit hcap hlong) ⟨e,?_⟩⟩)
 rw [hnew]
 exact ⟨.ref _,_,I.lnew (t':=s.toks) (r.rep k.toNat) (by rw [len_rep,Nat.mul_comm];exact hz),rfl,q _ I.fresh⟩
end
section
variable {prog:Program} {w:World} {A:Around} {E:Value→Shared→Prop} {s:Shared}
end
section
variable {X:Cx}
end
end L2
namespace Att
open PySem PySem.W PySem.Calls PyProof.Rows
theorem ints_of_wellAll {P:Params} {h:Heap}:∀ (ns:List Int) (vs:List Value),WellAll P h vs (ns.map WData.int)→IntsAre vs ns:=by
 intro ns
 induction ns with
 | nil =>
  intro vs w
  rw [List.map_nil] at w
  cases w
  exact .nil
 | cons n ns ih =>
  intro vs w
  rw [List.map_cons] at w
  cases w with
  | cons a b =>
   cases a
   exact .cons _ _ (ih _ b)
theorem script_of {l:OpenLaw} {n:Nat} (hn:l.most=some n) {P:Params} {h:Heap} {args:List WData} {vals:List Value}
  (hpre:l.row.toRowW.claim.pre args=true) (hwl:WellAll P h vals args) :
  ∃ a vs ns,vals=[Value.ref a]∧args=[WData.list (ns.map WData.int)]∧h.get? a=some { cls:=.type "list",data:=.seq vs.toArray }∧IntsAre vs ns∧ns.length≤n:=by
 have hsh:WShape.hasAll [] args [.list .int]=true:=(pre_splitW hpre).1
 have hc:l.pre.holds [] { args:=args }=true:=(pre_splitW hpre).2
 obtain ⟨d,r,rfl,h1,h2⟩:=hasAllW_cons hsh
 obtain rfl:=hasAllW_nil h2
 obtain ⟨xs,rfl,h3⟩:=hasW_list h1
 obtain ⟨ns,rfl⟩:=items_int h3
 have hlen:ns.length≤n:=by
  unfold OpenLaw.pre at hc
  have h4:(WTm.not (.lt (.lit (.int (n:Int))) (.len (.arg 0)))).holds [] { args:=[.list (ns.map .int)] }=true:=by
   have h4:=(holds_andW hc).1
   rw [hn] at h4
   exact h4
  have h5:=condW_of h4 (w_not (w_lt w_lit (w_len_list (w_arg rfl))))
  rw [Z1] at h5
  refine Nat.le_of_not_lt fun q=>?_
  have q':(n:Int)<((ns.length:Nat):Int):=by lia
  first
   | (rw [decide_eq_true q'] at h5;exact absurd h5 (by decide))
   | (simp at h5;lia)
 cases hwl with
 | cons w1 w2 =>
  cases w2
  cases w1 with
  | list ho hall=>exact ⟨_,_,ns,rfl,rfl,ho,ints_of_wellAll ns _ hall,hlen⟩
theorem post_true (l:OpenLaw) (args:List WData):l.row.toRowW.claim.post args (.bool true) args=true :=
 postW_of (r:=l.row.toRowW) (X:=(true == true))
  (show WShape.has [] (.bool true) .bool=true by first | rfl | decide | simp [WShape.has,WShape.arms,WShape.armsAll])
  (show (WTm.eq .res (.lit (.bool true))).value [] { args:=args,res:=some (.bool true),after:=args }=some (.bool (true == true)) from w_eq_bool (w_res rfl) w_lit) rfl
theorem attach_call {l:OpenLaw} {n:Nat} {q:Program} {loose:List Str} {XP:(Str→Option Value)→Heap→Prop} {YP:World→Heap→Prop} {d:DefRec}
  (hn:l.most=some n) (hdf:d.params.defaults=[])
  (call:∀ (w:World) (s₀ s₁:Shared) (mg mb:Str→Option Value) (fa:Addr) (o:Obj) (pm cd doc:Value) (a:Addr) (vs:List Value) (ns:List Int),
   Ground q loose [] XP w s₀ mg mb s₁.heap→YP w s₁.heap →
   s₁.heap.get? fa=some o→o.data=.func (docDef d.name d.params d.body d.scope pm cd doc)→s₁.heap.CodeRec cd d.name→mg d.name=some (.ref fa) →
   s₁.heap.get? a=some { cls:=.type "list",data:=.seq vs.toArray }→IntsAre vs ns→ns.length≤n→s₁.gens=#[] →
   codeAny (model l.prog w) callerA (.call (.ref fa) ⟨[.ref a],[]⟩) (fun r s'=>r=.ok (.ret (.bool true))∧OldK s₁.heap s'.heap∧s'.os=s₁.os∧AllBare s'.gens) s₁) :
  WalkO q loose XP YP l.row.toRowW d [] (fun f vs=>PySem.call f vs):=by
 intro w s₀ s₁ mg mb G Y fa o pm cd doc dV kV ho hd hcd hD hmg hg args vals as hpre hlay hrd hwl hlo
 obtain rfl:dV=.none:=Dflts.none hD hdf
 obtain rfl:kV=.none:=Dflts.noKw hD
 obtain ⟨a,vs,ns,rfl,rfl,hobj,hints,hlen⟩:=script_of hn hpre hwl
 refine enter_call (codeAny_mono (call w s₀ s₁ mg mb fa o pm cd doc a vs ns G Y ho (fd_plain hd) hcd hmg hobj hints hlen hg) fun r s' hq=>?_)
 obtain ⟨rfl,h2,h3,h4⟩:=hq
 exact ⟨.inl ⟨.bool true,.bool true,[],rfl,fun _=>rfl,.bool true,post_true l _,fun _=>⟨List.Pairwise.nil,fun _ hm=>(nomatch hm)⟩⟩,h2,h3,h4⟩
section
variable {prog:Program} {w:World} {A:Around} {E:Value→Shared→Prop} {s:Shared} {K:Frag}
def ledger (h:Heap) (L d:Addr):List (Addr × Obj):=(List.range h.objs.size).filterMap fun a=>if a=L∨a=d then none else (h.get? a).map fun o=>(a,o)
end
end Att
namespace L2
open PySem PySem.Spec PyProof.Rows
theorem vals_ints:∀ {vs:List Value} {ns:List Int},IntsAre vs ns→Vals (ns.map V.int) vs
 | _,_,.nil=>.nil
 | _,_,.cons n t h=>.cons ⟨t,rfl⟩ (vals_ints h)
def Only (H:Hp):Prop:=∀ b,H b=none∨∃ o xs,H b=some (.frz o (.lst xs))
theorem law_call {P:Program} {w:World} {K:PySem.W.Frag} {mg mb:Str→Option Value} {CX:CXT} {k:Nat} {fa a:Addr} {fd:FuncData} {x:Str} {sp:Sp} {s₁:Shared} {vs:List Value} {ns:List Int}
  (KX:K.In s₁.heap) (hns:s₁.heap.Ns mainGlobals mg) (hb:s₁.heap.Ns builtinsNs mb) (hbb:∀ x:Str,x≠"__name__"→mb x=bootBuiltins x) (hlim:s₁.heap.NoLimit) (hg:s₁.gens=#[])
  (ha:s₁.heap.get? a=some { cls:=.type "list",data:=.seq vs.toArray }) (hi:IntsAre vs ns) (hl:ns.length≤sizeLine) (hr:Room k callerA)
  (F:∀ base:Heap,K.In base→base.Ns mainGlobals mg→FnOk P w K mg base CX k fa fd [x] sp) (hbind:∀ (s:Shared) (u:Value),BindsTo s fd ⟨[u],[]⟩ [(x,u)])
  (hsp:∀ H:Hp,Only H→SqL K H a (ns.map V.int)→sp [.ref a] H (fun v _=>v=.bl true) fun _ _ _=>False)
  (hCX:∀ H e s',CX [] H s₁ (fun _ _ _=>False) e s'→False) :
  codeAny (model P w) callerA (.call (.ref fa) ⟨[.ref a],[]⟩) (fun r s'=>r=.ok (.ret (.bool true))∧OldK s₁.heap s'.heap∧s'.os=s₁.os∧AllBare s'.gens) s₁:=by
 have rv:=vals_ints hi
 have lenV:=hi.length
 have core:∀ H:Hp,Only H→SqL K H a (ns.map V.int)→HOk P w H s₁.heap→(∀ b,H b≠none→b=a)→(H a≠none→K.lookup a=none) →
   codeAny (model P w) callerA (.call (.ref fa) ⟨[.ref a],[]⟩) (fun r s'=>r=.ok (.ret (.bool true))∧OldK s₁.heap s'.heap∧s'.os=s₁.os∧AllBare s'.gens) s₁:=by
  intro H hO hS hok hA hK
  have base_of:∀ {b:Addr} {o:Obj},s₁.heap.get? b=some o→H b=none→(hidT s₁.heap H).get? b=some o:=fun e n=>hidT_get e n
  have noA:∀ {b:Addr} {o:Obj} {es:Array DictEntry} {ep:Nat},s₁.heap.get? b=some o→o.data=.dict es ep→H b=none:=fun {b o es ep} e d=>by
   cases q:H b with
   | none=>rfl
   | some u =>
    have e':b=a:=hA b (by rw [q];simp)
    subst e'
    rw [ha] at e;cases e
    have d':Data.seq vs.toArray _=Data.dict es ep:=d
    cases d'
  have nsK:∀ {b:Addr} {m:Str→Option Value},s₁.heap.Ns b m→(hidT s₁.heap H).Ns b m:=fun {b m} ⟨o,es,ep,e,d,r⟩=>⟨o,es,ep,base_of e (noA e d),d,r⟩
  have hKb:K.In (hidT s₁.heap H):=fun b o e=>base_of (KX b o e) (by
   cases q:H b with
   | none=>rfl
   | some u =>
    have e':b=a:=hA b (by rw [q];simp)
    subst e'
    rw [hK (by rw [q];simp)] at e;cases e)
  have hM:Mod K mg (hidT s₁.heap H):=⟨hKb,nsK hns,⟨mb,nsK hb,hbb⟩,let ⟨mc,h1,h2⟩:=hlim;⟨mc,nsK h1,h2⟩⟩
  have e0:Env0 P w K mg (hidT s₁.heap H) callerA [] s₁ H:=⟨rfl,hM,fun b o e=>of_hidT e,Nat.le_of_eq (hidT_size _ _),trivial,fun b hb=>absurd (show b∈([]:List Addr) from hb) (by simp),hok,.of_eq hg⟩
  refine codeAny_mono ((F _ hKb (nsK hns)).run callerA [] s₁ H ⟨[.ref a],[]⟩ [.ref a] [.ref a] _ _ hr e0 (hbind s₁ (.ref a)) (.cons rfl .nil) (hsp H hO hS)) fun r s' h=>?_
  cases r with
  | error e=>exact (hCX H e s' h).elim
  | ok fl =>
   cases fl with
   | next=>exact False.elim h
   | brk=>exact False.elim h
   | cont=>exact False.elim h
   | ret u =>
    obtain ⟨v,H',os,bare,un,hok',r',q⟩:=h
    have q':v=.bl true:=q
    subst q'
    obtain rfl:u=Value.bool true:=r'
    refine ⟨rfl,OldK.of_keep fun b o e=>?_,os,bare⟩
    cases q:H b with
    | none=>exact un.keep b o e q (by intro z;exact absurd (show b∈([]:List Addr) from z) (by simp)) (by simp)
    | some u =>
     rcases hO b with z | ⟨ob,xs,z⟩
     ·rw [q] at z;cases z
     ·have z2:=un.frzs b ob _ z
      obtain ⟨e1,_⟩:=hok b _ z
      obtain ⟨e2,_⟩:=hok' b _ z2
      rw [e] at e1;cases e1
      exact e2
 cases hk:K.lookup a with
 | some o =>
  have e:=KX a o hk
  rw [ha] at e
  cases e
  refine core (fun _=>none) (fun _=>.inl rfl) (.inr ⟨_,vs.toArray,_,hk,rfl,rfl,rfl,by rw [List.size_toArray,lenV];exact hl,by simpa using rv⟩) (fun b u z=>by have z':(none:Option HO)=some u:=z;cases z') (fun b z=>absurd rfl z) fun z=>absurd rfl z
 | none =>
  refine core (fun b=>if b=a then some (.frz { cls:=.type "list",data:=.seq vs.toArray } (.lst (ns.map V.int))) else none) (fun b=>?_) (.inl (.inr ⟨{ cls:=.type "list",data:=.seq vs.toArray },if_pos rfl⟩)) (fun b u z=>?_) (fun b z=>?_) fun _=>hk
  ·by_cases hb:b=a
   ·exact .inr ⟨_,_,if_pos hb⟩
   ·exact .inl (if_neg hb)
  ·by_cases hb:b=a
   ·have z':=(if_pos hb).symm.trans z
    cases z'
    subst hb
    exact ⟨ha,by rw [Z1];exact hl,vs,_,rv,ha⟩
   ·have z':=(if_neg hb).symm.trans z
    cases z'
  ·by_cases hb:b=a
   ·exact hb
   ·exact absurd (if_neg hb) z
end L2
namespace L2
open PySem PySem.Spec PyProof.Rows
abbrev KOf {K:PySem.W.Frag} {h:Heap} (_:K.In h):PySem.W.Frag:=K
theorem walk_of {l:PySem.W.OpenLaw} {n k:Nat} {q:Program} {loose:List Str} {XP:(Str→Option Value)→Heap→Prop} {YP:World→Heap→Prop} {d:DefRec} {K:Params→PySem.W.Frag} {CX:World→CXT} {sp:World→Sp} {x:Str}
  (hn:l.most=some n) (hn2:n≤sizeLine) (hdf:d.params.defaults=[]) (hr:Room k callerA)
  (hY:∀ (w:World) (h:Heap),YP w h→(K w.params).In h)
  (F:∀ (w:World) (mg:Str→Option Value) (fa:Addr) (h:Heap),(K w.params).In h→h.Ns mainGlobals mg→mg d.name=some (.ref fa) →
   ∃ fd:FuncData,(∀ (s:Shared) (u:Value),BindsTo s fd ⟨[u],[]⟩ [(x,u)]) ∧
    ∀ base:Heap,(K w.params).In base→base.Ns mainGlobals mg→FnOk l.prog w (K w.params) mg base (CX w) k fa fd [x] (sp w))
  (hsp:∀ (w:World) (H:Hp) (a:Addr) (ns:List Int),ns.length≤n→Only H→SqL (K w.params) H a (ns.map V.int)→sp w [.ref a] H (fun v _=>v=.bl true) fun _ _ _=>False)
  (hCX:∀ (w:World) (H:Hp) (s:Shared) (e:Value) (s':Shared),CX w [] H s (fun _ _ _=>False) e s'→False) :
  PySem.W.WalkO q loose XP YP l.row.toRowW d [] (fun f vs=>PySem.call f vs):=by
 refine Att.attach_call hn hdf fun w s₀ s₁ mg mb fa o pm cd doc a vs ns G Y ho hd hcd hmg hobj hints hlen hg=>?_
 have KX:=hY w _ Y
 obtain ⟨fd,hb,hF⟩:=F w mg fa _ KX G.T.g hmg
 exact law_call KX G.T.g G.T.b G.T.builtins G.T.nolimit hg hobj hints (Nat.le_trans hlen hn2) hr hF hb (fun H hO hS=>hsp w H a ns hlen hO hS) fun H e s'=>hCX w H s₁ e s'
end L2
namespace L2
open PySem PySem.Spec PyProof.Rows
def inClass (s:Stmt) (j:Nat):Stmt:=match s with
 | .ClassDef _ _ _ body _ _ _ _ _ _ _=>body.getD j (.Pass ⟨0,0,0,0⟩)
 | _=>.Pass ⟨0,0,0,0⟩
def defArgs (s:Stmt):Arguments:=match s with
 | .FunctionDef _ a _ _ _ _ _ _ _ _=>a
 | _=>{ posonlyargs:=[],args:=[],vararg:=none,kwonlyargs:=[],kw_defaults:=[],kwarg:=none,defaults:=[] }
def defBody (s:Stmt):List Stmt:=match s with
 | .FunctionDef _ _ b _ _ _ _ _ _ _=>b
 | _=>[]
def defScope (s:Stmt):Scope:=match s with
 | .FunctionDef _ _ _ _ _ _ sc _ _ _=>sc
 | _=>{ kind:=.function,names:=[],isGenerator:=false,isCoroutine:=false }
abbrev CX0:CXT:=fun _ _ _ _ _ _=>False
abbrev E0:XK:=fun _ _ _=>False
structure Fun (K:PySem.W.Frag) (x qual:Str) (st:Stmt) (f:Addr) (fd:FuncData):Prop where
 ex:∃ (oc:Value) (od:Option Addr) (kV doc pm:Value) (an:Option Addr) (cdv ct:Value) (osl:Array (Option Value)),
  fd=PySem.W.fnOf x qual (defArgs st) (defBody st) (defScope st) .none kV doc pm an cdv ct∧K.lookup f=some ⟨oc,od,.func fd,osl⟩∧PySem.W.codeIn K cdv qual=true
 kp:PySem.W.keepIn K (.ref f)=true
section
variable {P:Program} {w:World} {K:PySem.W.Frag} {mg:Str→Option Value} {base:Heap}
theorem Fun.ok {x qual:Str} {st:Stmt} {f:Addr} {fd:FuncData} {N ps:List Str} {k:Nat} {sp:Sp} (F:Fun K x qual st f fd) (S:FnScope N ps (defScope st)) (len:∀ vs H Q E,sp vs H Q E→vs.length=ps.length)
  (hbody:∀ (cdv:Value) (A:Around) (outer:List Env) (s:Shared) (H:Hp) (vs:List V) (Q:VK) (E:XK),Room k (A.deeper (envOfC qual (defScope st) s.heap.objs.size f cdv))→sp vs H Q E →
   ∃ t,PSs (cxOf CX0 P w K mg base N qual (defScope st) f cdv A outer s H E).nox (defBody st) t∧t { nx:=fun _ H'=>Q .non H',rt:=Q } (start N vs) H):FnOk P w K mg base CX0 (k+1) f fd ps sp:=by
 obtain ⟨oc,od,kV,doc,pm,an,cdv,ct,osl,rfl,lk,hcd⟩:=F.ex
 refine fn_of lk hcd S len fun A outer s H vs Q E hr hsp=>?_
 obtain ⟨t,h,q⟩:=hbody cdv A outer s H vs Q E hr hsp
 exact ⟨t,h.nox,q⟩
theorem Fun.binds {x qual:Str} {st:Stmt} {f:Addr} {fd:FuncData} {ps:List Str} (F:Fun K x qual st f fd)
  (h:∀ (kV doc pm:Value) (an:Option Addr) (cdv ct:Value) (us:List Value),us.length=ps.length→bindArgs (PySem.W.fnOf x qual (defArgs st) (defBody st) (defScope st) .none kV doc pm an cdv ct) ⟨us,[]⟩=pure (ps.zip us)):Binds K fd ps []:=by
 obtain ⟨oc,od,kV,doc,pm,an,cdv,ct,osl,rfl,lk,hcd⟩:=F.ex
 exact .all (h kV doc pm an cdv ct)
theorem fun_mk {x qual:Str} {st:Stmt} {f:Addr} {oc:Value} {od an:Option Addr} {osl:Array (Option Value)} {kV doc pm cdv ct:Value} (l:K.lookup f=some ⟨oc,od,.func (PySem.W.fnOf x qual (defArgs st) (defBody st) (defScope st) .none kV doc pm an cdv ct),osl⟩)
  (c:PySem.W.codeIn K cdv qual=true) (k:PySem.W.keepIn K (.ref f)=true):Fun K x qual st f (PySem.W.fnOf x qual (defArgs st) (defBody st) (defScope st) .none kV doc pm an cdv ct):=⟨⟨oc,od,kV,doc,pm,an,cdv,ct,osl,rfl,l,c⟩,k⟩
end
theorem small1000 {n:Nat} (h:n≤1000):n<sizeLine:=Nat.lt_of_le_of_lt h (by decide)
section
variable {X:Cx}
theorem pv (i:Nat) {x:Str} {pos:Pos} (hN:X.N[i]?=some x:=by rfl) (hv:Vis X.env.scope x:=by first | exact Or.inl rfl | exact Or.inr (Or.inl rfl) | exact Or.inr (Or.inr rfl)) (hd:(x == ("__debug__":Str))=false:=by decide)
  (hcd:(x == ("__classdict__":Str))=false:=by decide):PE X (.Name x pos) (tVar i):=pe_var hN hv hd hcd
end
theorem iteF {A B:Prop} (h:B):if false=true then A else B:=by
 rw [if_neg Bool.false_ne_true]
 exact h
def Same (H H':Hp):Prop:=∀ b o,H b=some o→H' b=some o
theorem Same.refl (H:Hp):Same H H:=fun _ _ h=>h
theorem Same.trans {H H1 H2:Hp} (a:Same H H1) (b:Same H1 H2):Same H H2:=fun c o h=>b c o (a c o h)
theorem Same.free {H H':Hp} (e:Same H H') {l:Addr} (h:H' l=Option.none):H l=Option.none:=by
 cases q:H l with
 | none=>rfl
 | some o =>
  rw [e l o q] at h
  cases h
theorem Same.seq {K:PySem.W.Frag} {H H':Hp} {a:Addr} {xs:List V} (e:Same H H') (h:SqL K H a xs):SqL K H' a xs:=by
 rcases h with (h | ⟨o,h⟩) | h
 ·exact .inl (.inl (e _ _ h))
 ·exact .inl (.inr ⟨o,e _ _ h⟩)
 ·exact .inr h
end L2
set_option maxHeartbeats 4000000
namespace L2
open PySem PySem.Spec PyProof.Rows
def ctxOf (o:Obj):Option Value:=match o.data with
 | .fields vs=>vs[2]?
 | _=>none
def DK (h h':Heap):Prop:=h.objs.size≤h'.objs.size∧∀ (b:Nat) (o o':Obj),h.objs[b]?=some o→h'.objs[b]?=some o'→o'.dict=o.dict∧ctxOf o'=ctxOf o
theorem DK.refl (h:Heap):DK h h:=⟨Nat.le_refl _,fun b o o' e e'=>by rw [e] at e';cases e';exact ⟨rfl,rfl⟩⟩
theorem DK.trans {h1 h2 h3:Heap} (x:DK h1 h2) (y:DK h2 h3):DK h1 h3:=⟨Nat.le_trans x.1 y.1,fun b o o' e e'=>by
 obtain ⟨hb,_⟩:=Array.getElem?_eq_some_iff.mp e
 have q:h2.objs[b]?=some (h2.objs[b]'(Nat.lt_of_lt_of_le hb x.1)):=Array.getElem?_eq_getElem (Nat.lt_of_lt_of_le hb x.1)
 exact ⟨(y.2 b _ o' q e').1.trans (x.2 b o _ e q).1,(y.2 b _ o' q e').2.trans (x.2 b o _ e q).2⟩⟩
theorem raw_of {h:Heap} {a:Addr} {o:Obj} (e:h.get? a=some o):h.objs[a]?=some o:=by
 unfold Heap.get? at e
 split at e
 ·cases e
 ·exact e
theorem DK.get {h h':Heap} {a:Addr} {o o':Obj} (x:DK h h') (e:h.get? a=some o) (e':h'.get? a=some o'):o'.dict=o.dict∧ctxOf o'=ctxOf o:=x.2 a o o' (raw_of e) (raw_of e')
theorem DK.push (h:Heap) (o:Obj):DK h (h.push o):=by
 refine ⟨?_,fun b u u' e e'=>?_⟩
 ·rw [Heap.size_push];exact Nat.le_succ _
 ·have hb:=(Array.getElem?_eq_some_iff.mp e).1
  have q:(h.push o).objs[b]?=h.objs[b]?:=by
   show (h.objs.push o)[b]?=_
   rw [Array.getElem?_push_lt hb,Array.getElem?_eq_getElem hb]
  rw [q,e] at e'
  cases e';exact ⟨rfl,rfl⟩
theorem DK.update (h:Heap) (a:Addr) {f:Obj→Obj} (k:∀ o,(f o).dict=o.dict∧ctxOf (f o)=ctxOf o):DK h (h.update a f):=by
 have q:(h.update a f).objs=h.objs.modify a f:=rfl
 refine ⟨by rw [q,Array.size_modify];exact Nat.le_refl _,fun b u u' e e'=>?_⟩
 rw [q,Array.getElem?_modify] at e'
 split at e'
 ·rw [e] at e'
  cases e'
  exact k u
 ·rw [e] at e';cases e';exact ⟨rfl,rfl⟩
def KT {α:Type}:Sem α→Prop
 | .rule _ k=>∀ u,KT (k u)
 | .at _ k=>∀ u,KT (k u)
 | .load _ _ k=>∀ u,KT (k u)
 | .update _ _ f k=>(∀ o,(f o).dict=o.dict∧ctxOf (f o)=ctxOf o)∧∀ u,KT (k u)
 | .loadIfAlive _ k=>∀ u,KT (k u)
 | .point _ k=>∀ u,KT (k u)
 | .alloc _ k=>∀ u,KT (k u)
 | .fresh k=>∀ u,KT (k u)
 | .ask k=>∀ u,KT (k u)
 | .handled _ k=>∀ u,KT (k u)
 | .stack k=>∀ u,KT (k u)
 | .thread k=>∀ u,KT (k u)
 | .pure _=>True
 | .raise _=>True
 | .unsupported _=>True
 | .finish _=>True
 | _=>False
theorem KT.keep {α:Type} {M:Model} {Γ:PySem.Ctx}:∀ (t:Sem α),KT t→∀ (Q:α→Pos→Shared→Prop) (E:Value→Pos→Shared→Prop) (p:Pos) (s:Shared),Sem.wp M Γ t Q E p s →
  Sem.wp M Γ t (fun a p' s'=>Q a p' s'∧DK s.heap s'.heap) (fun e p' s'=>E e p' s'∧DK s.heap s'.heap) p s:=by
 intro t
 induction t with
 | pure x=>exact fun _ Q E p s h=>⟨h,DK.refl _⟩
 | raise v=>exact fun _ Q E p s h=>⟨h,DK.refl _⟩
 | unsupported | finish=>exact fun _ Q E p s h=>h
 | yield | fork | await | register | choose | os | call | genState | newGen | resume=>exact fun k=>k.elim
 | rule _ k ih | «at» _ k ih | point _ k ih | loadIfAlive _ k ih | fresh k ih | ask k ih | handled _ k ih | stack k ih | thread k ih=>exact fun z Q E p s h=>ih _ (z _) Q E _ _ h
 | alloc o k ih=>exact fun z Q E p s h=>Sem.wp_mono _ _ _ (fun a p' s' q=>⟨q.1,(DK.push _ _).trans q.2⟩) (fun a p' s' q=>⟨q.1,(DK.push _ _).trans q.2⟩) _ _ (ih _ (z _) Q E _ _ h)
 | load a _ k ih=>exact fun z Q E p s ⟨o,ho,h⟩=>⟨o,ho,ih _ (z _) Q E _ _ h⟩
 | update a _ f k ih=>exact fun z Q E p s ⟨ha,h⟩=>⟨ha,Sem.wp_mono _ _ _ (fun a p' s' q=>⟨q.1,(DK.update _ _ z.1).trans q.2⟩) (fun a p' s' q=>⟨q.1,(DK.update _ _ z.1).trans q.2⟩) _ _ (ih _ (z.2 _) Q E _ _ h)⟩
theorem KT.run {α:Type} {M:Model} {A:Around} {t:Sem α} {Q:α→Shared→Prop} {E:Value→Shared→Prop} {s:Shared} (k:KT t) (h:wpAny M A t Q E s) :
  wpAny M A t (fun a s'=>Q a s'∧DK s.heap s'.heap) (fun e s'=>E e s'∧DK s.heap s'.heap) s:=fun Γ p hΓ=>KT.keep t k _ _ p s (h Γ p hΓ)
theorem KT.bind {α β:Type} {m:Sem α} {f:α→Sem β} (a:KT m) (b:∀ x,KT (f x)):KT (m >>= f):=by
 show KT (m.bind f)
 induction m with
 | pure x=>exact b x
 | raise v=>exact a
 | unsupported | finish=>exact a
 | yield | fork | await | register | choose | os | call | genState | newGen | resume=>exact a.elim
 | rule _ k ih | «at» _ k ih | point _ k ih | loadIfAlive _ k ih | fresh k ih | ask k ih | handled _ k ih | stack k ih | thread k ih | alloc _ k ih | load _ _ k ih=>exact fun u=>ih u (a u)
 | update _ _ f' k ih=>exact ⟨a.1,fun u=>ih u (a.2 u)⟩
theorem KT.pure {α:Type} (x:α):KT (Pure.pure x:Sem α):=trivial
theorem KT.ite {α:Type} {c:Prop} [Decidable c] {a b:Sem α} (x:KT a) (y:KT b):KT (if c then a else b):=by split <;> assumption
theorem kt_un {α:Type} (x:String):KT (PySem.unsupported x:Sem α):=trivial
theorem kt_load (a:Addr):KT (PySem.load a):=fun _=>trivial
theorem kt_fieldsOf (v:Value):KT (fieldsOf v):=by
 unfold fieldsOf
 split
 ·refine KT.bind (kt_load _) fun o=>?_
  split
  ·exact KT.pure _
  ·exact kt_un _
 ·exact kt_un _
theorem kt_field (v:Value) (i:Nat):KT (field v i):=by
 unfold field
 refine KT.bind (kt_fieldsOf v) fun o=>?_
 split
 ·exact KT.pure _
 ·exact kt_un _
theorem kt_setField (v x:Value) (i:Nat) (hi:i≠2):KT (setField v i x):=by
 unfold setField
 split
 ·unfold updateField
  refine KT.bind (kt_load _) fun o=>?_
  split
  ·refine KT.ite ⟨fun o=>?_,fun _=>trivial⟩ (kt_un _)
   obtain ⟨c,d,dt,sl⟩:=o
   cases dt with
   | fields vs=>exact ⟨rfl,Array.getElem?_setIfInBounds_ne hi⟩
   | _=>exact ⟨rfl,rfl⟩
  ·exact kt_un _
 ·exact kt_un _
theorem kt_setFlight (e:Value) (f:Option Addr):KT (setFlight e f):=by
 unfold setFlight
 refine KT.bind (kt_field _ _) fun tb=>?_
 exact KT.ite (kt_setField _ _ _ (by decide)) (KT.pure _)
theorem kt_stack:KT PySem.stack:=fun _=>trivial
theorem kt_ready:∀ l:List Env,KT (readyFrames l)
 | []=>trivial
 | env::outer=>by
  unfold readyFrames
  split
  ·refine KT.bind (kt_load _) fun o=>KT.ite (KT.pure _) ?_
   refine KT.bind ?_ fun i=>KT.bind ?_ fun back=>KT.bind ⟨fun o=>⟨rfl,rfl⟩,fun _=>trivial⟩ fun _=>kt_ready outer
   ·unfold behindIsImport
    exact KT.ite (KT.pure _) (KT.ite (KT.pure _) (KT.bind (kt_field _ _) fun _=>KT.pure _))
   ·unfold keptBack
    split
    ·refine KT.ite (KT.pure _) (KT.bind ?_ fun _=>KT.pure _)
     unfold underTheClaimsCaller
     exact KT.bind kt_stack fun _=>KT.pure _
    ·exact KT.pure _
  ·exact kt_un _
theorem kt_frameOf (env:Env):KT (PySem.frameOf env):=by
 unfold PySem.frameOf frameEnvs
 refine KT.bind (KT.bind kt_stack fun _=>KT.pure _) fun l=>KT.bind ?_ fun r=>?_
 ·unfold frameObject
  split
  ·exact KT.pure _
  ·exact KT.bind (kt_ready _) fun _=>KT.pure _
 ·split
  ·exact KT.pure _
  ·exact kt_un _
theorem kt_newFields (ty:String) (vs:List Value):KT (newFields ty vs):=by
 unfold newFields newObj
 dsimp only
 split
 ·exact kt_un _
 ·exact fun _=>trivial
theorem kt_place (f:Addr) (b:Bool):KT (entryPlaceOf f b):=by
 unfold entryPlaceOf
 refine KT.bind kt_stack fun _=>?_
 split <;> exact KT.pure _
theorem kt_note (e:Value) (env:Env):KT (noteFrame e env):=by
 have last:∀ h:Value,∀ f:Addr,KT (do setField e 1 (←EntryCells.newEntry h (←PySem.frameOf env) .none (rawInt f) .none (←entryPlaceOf f (h != .none)))):=fun h f =>
  KT.bind (kt_frameOf env) fun _=>KT.bind (kt_place _ _) fun _=>KT.bind (kt_newFields _ _) fun _=>kt_setField _ _ _ (by decide)
 unfold noteFrame
 split
 ·refine KT.bind (kt_field _ _) fun h=>?_
  split
  ·refine KT.bind (kt_field _ _) fun x=>KT.ite (KT.pure _) (KT.bind (kt_setField _ _ _ (by decide)) fun _=>last h _)
  ·exact last h _
 ·exact kt_un _
theorem kt_leaving (e:Value) (env:Env):KT (leaving env e):=by
 unfold leaving
 exact KT.bind (kt_note _ _) fun _=>kt_setFlight _ _
end L2
namespace L2
open PySem PySem.Spec PyProof.Rows
structure Fly (nc:Bool) (P:Program) (w:World) (outer:List Env) (H:Hp) (s:Shared) (a:Addr) (cls a0:Value) (D:Option Addr) (B:Heap) (H':Hp) (s':Shared):Prop where
 os:s'.os=s.os
 bare:AllBare s'.gens
 un:Un (frs outer) [] H H' s.heap s'.heap
 hok:HOk P w H' s'.heap
 fly:Heap.FlyingW B outer a cls a0 s'.heap
 old:∀ b o,s.heap.get? b=some o→b∉frs outer→∀ o',s'.heap.get? b=some o'→B.get? b=some o'
 trk:∀ b u,H' b=some u→∀ o',s'.heap.get? b=some o'→B.get? b=some o'
 dct:∃ oe,s'.heap.get? a=some oe∧oe.dict=D
 ctx:nc=true→∃ oe,s'.heap.get? a=some oe∧ctxOf oe=some .none
def CXC (nc:Bool) (P:Program) (w:World):CXT:=fun outer H s E e s'=>∃ a cls a0 D B H',e=.ref a∧Fly nc P w outer H s a cls a0 D B H' s'∧E cls D H'
abbrev CXF (P:Program) (w:World):CXT:=CXC false P w
theorem ObjOk.somewhere {P:Program} {w:World} {H:Hp} {h:Heap} {a:Addr} {o:HO} (x:ObjOk P w H h a o):∃ ob,h.get? a=some ob:=by
 cases o with
 | lst xs=>obtain ⟨_,_,_,_,e⟩:=x;exact ⟨_,e⟩
 | tup xs=>obtain ⟨_,_,_,ob,e,_⟩:=x;exact ⟨ob,e⟩
 | dK kvs=>obtain ⟨_,_,_,_,ob,_,_,e,_⟩:=x;exact ⟨ob,e⟩
 | dT kvs=>obtain ⟨_,_,_,_,ob,_,_,e,_⟩:=x;exact ⟨ob,e⟩
 | set S n=>obtain ⟨ob,_,_,_,e,_⟩:=x;exact ⟨ob,e⟩
 | ins C dx fs=>obtain ⟨_,_,_,e,_⟩:=x;exact ⟨_,e⟩
 | own y=>exact x
 | xd fs=>obtain ⟨_,⟨ob,_,_,e,_⟩,_⟩:=x;exact ⟨ob,e⟩
 | rng lo hi=>obtain ⟨_,_,_,e⟩:=x;exact ⟨_,e⟩
 | frz ob u=>obtain ⟨e,_⟩:=x;exact ⟨ob,e⟩
 | tbl ps=>exact ⟨_,(show h.get? a=some _ from x)⟩
 | met f y=>exact ⟨_,(show h.get? a=some _ from x)⟩
 | ext φ=>obtain ⟨_,e,_⟩:=x;exact e
section
variable {X:Cx} {pins:List (Addr × Obj)} {σ:St} {H H':Hp} {s s':Shared} {h':Heap}
theorem Inv.slotted {t':Nat} (I:Inv X pins σ H s) (k:∀ b o,s.heap.get? b=some o→b∉frs X.stack→h'.get? b=some o)
  (f:∀ b o,s.heap.get? b=some o→b∈frs X.stack→∃ sl,h'.get? b=some { o with slots:=sl }):Inv X pins σ H { s with heap:=h',toks:=t' }:=by
 have u:Un (frs X.stack) [] H H s.heap h':=⟨fun b o e _ hb _=>k b o e hb,fun b o e _ hb _=>f b o e hb,fun _ _ _ n _=>n,fun b o e _=>by
  by_cases hb:b∈frs X.stack
  ·obtain ⟨sl,q⟩:=f b o e hb
   exact ⟨_,q⟩
  ·exact ⟨o,k b o e hb⟩,fun _ _ q=>q,fun _ _ _ q=>q,fun b ps q=>⟨#[],by rw [q];simp⟩⟩
 have hok:HOk X.prog X.w H h':=fun b u q=>(I.hok b u q).stay (fun c v hc r=>k c v r fun hm=>by
  have z:=I.stkFree c hm
  rcases hc with e | e
  ·rw [e,q] at z;cases z
  ·rw [e] at z;cases z) (fun _ q=>q) fun _ _ q=>q
 exact I.call (g':=s.gens) (d':=s.drawn) (ch:=[]) u hok I.bare (fun b z=>absurd z (by simp))
theorem Inv.frameData (I:Inv X pins σ H s) {b:Addr} {o:Obj} (e:s.heap.get? b=some o) (hb:b∈frs X.stack):∀ vs,o.data≠.fields vs:=by
 obtain ⟨_,o',e',nf⟩:=I.stack.mem hb
 rw [e] at e';cases e'
 exact nf
theorem Fly.fresh {nc:Bool} {a:Addr} {cls a0:Value} {D:Option Addr} {B:Heap} (F:Fly nc X.prog X.w X.stack H s a cls a0 D B H' s'):H' a=none∧s.heap.get? a=none:=by
 have hB:=F.fly.2.1
 obtain ⟨oe,vs,he,_,hd,_⟩:=F.fly.first
 refine ⟨?_,?_⟩
 ·cases q:H' a with
  | none=>rfl
  | some u =>
   have z:=F.trk a u q oe he
   rw [hB] at z;cases z
 ·cases q:s.heap.get? a with
  | none=>rfl
  | some o =>
   by_cases hm:a∈frs X.stack
   ·obtain ⟨_,o',e',nf⟩:=F.fly.2.2.1.mem hm
    rw [he] at e';cases e'
    exact absurd hd (nf vs)
   ·have z:=F.old a o q hm oe he
    rw [hB] at z;cases z
theorem Fly.unAt {nc:Bool} {a:Addr} {cls a0:Value} {D:Option Addr} {B:Heap} (I:Inv X pins σ H s) (F:Fly nc X.prog X.w X.stack H s a cls a0 D B H' s') (hB:B.StaysIn h') (sm:s'.heap.UpToSlots h') :
  Un (frs X.stack) [] H H' s.heap h'∧HOk X.prog X.w H' h':=by
 have up:∀ b o,s.heap.get? b=some o→b∈frs X.stack→∃ sl,h'.get? b=some { o with slots:=sl }:=fun b o e hb=>by
  obtain ⟨sl,e1⟩:=F.un.slot b o e (I.stkFree b hb) hb (by simp)
  obtain ⟨sl',e2⟩:=sm b _ e1 (show ∀ vs,o.data≠.fields vs from I.frameData e hb)
  exact ⟨sl',e2⟩
 refine ⟨⟨fun b o e n hb hx=>hB b o (F.old b o e hb o (F.un.keep b o e n hb hx)),fun b o e _ hb _=>up b o e hb,F.un.free,fun b o e hx=>?_,F.un.tups,F.un.frzs,F.un.tbls⟩,fun b u q=>?_⟩
 ·by_cases hb:b∈frs X.stack
  ·obtain ⟨sl,q⟩:=up b o e hb
   exact ⟨_,q⟩
  ·obtain ⟨o',e1⟩:=F.un.there b o e hx
   exact ⟨o',hB b o' (F.old b o e hb o' e1)⟩
 ·refine (F.hok b u q).stay (fun c v hc r=>?_) (fun _ q=>q) fun _ _ q=>q
  rcases hc with e | e
  ·subst e;exact hB c v (F.trk c u q v r)
  ·exact hB c v (F.trk c _ e v r)
theorem Fly.land {nc:Bool} {a:Addr} {cls a0:Value} {D:Option Addr} {B:Heap} {t':Nat} (I:Inv X pins σ H s) (F:Fly nc X.prog X.w X.stack H s a cls a0 D B H' s') (hB:B.StaysIn h') (sm:s'.heap.UpToSlots h'):Inv X pins σ H' { s' with heap:=h',toks:=t' }:=by
 obtain ⟨u,hok⟩:=F.unAt I hB sm
 exact I.call' (s':={ s' with heap:=h',toks:=t' }) (ch:=[]) F.os u hok F.bare (fun b z=>absurd z (by simp))
def excIs (a:Addr) (cls:Value) (D:Option Addr) (n:Bool) (h:Heap):Prop:=∃ o vs,h.get? a=some o∧o.cls=cls∧o.data=.fields vs∧o.dict=D∧(n=true→∃ t:Addr,vs=#[.ref t,.none,.none,.none,.bool false,.none])
def exo (a:Addr) (cls:Value) (D:Option Addr) (n:Bool):HO:=.ext (excIs a cls D n)
theorem Fly.land' {nc:Bool} {a:Addr} {cls a0:Value} {D:Option Addr} {B:Heap} {t':Nat} {l:List Env} (I:Inv X pins σ H s) (F:Fly nc X.prog X.w X.stack H s a cls a0 D B H' s') (fl:Heap.FlyingW B l a cls a0 h') (sm:s'.heap.UpToSlots h') (dk:DK s'.heap h') :
  Inv X pins σ (upd H' a (exo a cls D false)) { s' with heap:=h',toks:=t' }:=by
 obtain ⟨u,hok⟩:=F.unAt I fl.1 sm
 obtain ⟨n1,n2⟩:=F.fresh
 obtain ⟨oe,vs,he,hc,hd,_⟩:=fl.first
 have ne:∀ b o,s.heap.get? b=some o→b≠a:=fun b o e z=>by rw [z,n2] at e;cases e
 have ne2:∀ b o,H' b=some o→b≠a:=fun b o e z=>by rw [z,n1] at e;cases e
 refine I.call' (s':={ s' with heap:=h',toks:=t' }) (ch:=[]) F.os ⟨u.keep,u.slot,fun b o e n hx=>?_,u.there,fun b xs q=>?_,fun b o v q=>?_,fun b ps q=>?_⟩ (fun b v q=>?_) F.bare (fun b z=>absurd z (by simp))
 ·rw [upd_ne (ne b o e)];exact u.free b o e n hx
 ·have q':=u.tups b xs q
  rw [upd_ne (ne2 b _ q')];exact q'
 ·have q':=u.frzs b o v q
  rw [upd_ne (ne2 b _ q')];exact q'
 ·obtain ⟨more,q'⟩:=u.tbls b ps q
  exact ⟨more,by rw [upd_ne (ne2 b _ q')];exact q'⟩
 ·by_cases hb:b=a
  ·subst hb
   rw [upd_same] at q
   cases q
   obtain ⟨ow,hw,hwd⟩:=F.dct
   exact ⟨⟨oe,vs,he,hc,hd,(dk.get hw he).1.trans hwd,fun z=>by cases z⟩,⟨oe,he⟩,fun h1 h2 ⟨o,ws,e,r⟩ k=>⟨o,ws,k o e,r⟩⟩
  ·rw [upd_ne hb] at q
   exact (hok b v q).stay (fun c v' _ r=>r) (fun c z=>by rw [upd_ne (ne2 c _ z)];exact z) fun c xs z=>by rw [upd_ne (ne2 c _ z)];exact z
end
def Raises (X:Cx) (C:Value) (E:XK):Prop :=
 ∀ (pins:List (Addr × Obj)) (σ:St) (H:Hp) (s:Shared) (h':Heap) (e:Addr) (args:List Value),Inv X pins σ H s→Heap.MadeExcOf s.heap h' e C args→E C none H→X.xe (.ref e) { s with heap:=h' }
def PassesX (CX:CXT) (X:Cx) (E:St→XK):Prop:=∀ (pins:List (Addr × Obj)) (σ:St) (H:Hp) (s:Shared) (e:Value) (s':Shared),Inv X pins σ H s→CX X.stack H s (E σ) e s'→X.xe e s'
section
variable {P:Program} {w:World} {K:PySem.W.Frag} {mg:Str→Option Value} {base:Heap} {N:List Str} {qual:Str} {scope:Scope} {f:Addr} {cd:Value} {A:Around} {outer:List Env} {s:Shared} {H:Hp} {E:XK}
theorem raises_body {nc:Bool} {C:Value}:Raises (cxOf (CXC nc P w) P w K mg base N qual scope f cd A outer s H E) C E:=by
 intro pins σ H1 s1 h1 e args I hx hE
 generalize hX:cxOf (CXC nc P w) P w K mg base N qual scope f cd A outer s H E=X at I ⊢
 have hst:X.stack=X.env::X.outer:=by rw [←hX];rfl
 have hfr:X.env.frame=some X.env.locals:=by rw [←hX];rfl
 have hxe:X.xe=fun e s'=>wpAny (model P w) X.A (leaving X.env e) (fun _ s''=>CXC nc P w X.outer X.H₀ X.s₀ E e s'') (fun e' s''=>CXC nc P w X.outer X.H₀ X.s₀ E e' s'') s':=by rw [←hX];rfl
 have hex:X.ex=[]:=by rw [←hX];rfl
 have hp:X.prog=P:=by rw [←hX];rfl
 have hw:X.w=w:=by rw [←hX];rfl
 subst hp hw
 rw [hxe]
 have fr:=I.stack
 have hin:∀ env∈X.stack,∀ b,env.frame=some b→b∈frs X.stack:=fun env he b hb=>List.mem_filterMap.mpr ⟨env,he,hb⟩
 have fr':s1.heap.FunFrames (PySem.W.hideAll s1.heap (frs X.stack)) (X.env::X.outer):=by rw [←hst];exact PySem.W.funFrames_hide fr hin
 refine wpAny_mono (KT.run (kt_leaving _ _) (wpAny_leaves_madeW (Q:=fun _ s2=>∃ h2 t,s2={ s1 with heap:=h2 }∧Heap.FlyingW (PySem.W.hideAll s1.heap (frs X.stack)) X.outer e C (.ref t) h2∧h1.UpToSlots h2) (E:=fun _ _=>False) (base:=PySem.W.hideAll s1.heap (frs X.stack)) (h:=s1.heap) (L:=X.env.locals) (by rw [←hst];exact I.ok.frames) hfr (fun b o q=>PySem.W.of_hideAll _ q) fr' hx fun h2 t x1 x2 x3 x4=>⟨h2,t,rfl,x1,x4⟩)) (fun _ s2 q=>?_) fun _ _ q=>q.1.elim
 obtain ⟨⟨h2,t,rfl,x1,x4⟩,dk⟩:=q
 have kept:∀ b o,s1.heap.get? b=some o→b∉frs X.stack→h2.get? b=some o:=fun b o q hb=>x1.1 b o (PySem.W.hideAll_get _ q hb)
 have J:Inv X pins σ H1 { s1 with heap:=h2,toks:=s1.toks }:=I.slotted kept fun b o q hb=>x4 b o (hx.keeps b o q) (I.frameData q hb)
 have un:Un (frs X.outer) [] X.H₀ H1 X.s₀.heap h2:=by have z:=J.base;rw [hex] at z;exact z
 have hdc:∃ oe,h2.get? e=some oe∧oe.dict=none:=by
  obtain ⟨ob,hob,_⟩:=x1.there
  obtain ⟨t',he,_,_⟩:=hx.there
  exact ⟨ob,hob,(dk.get he hob).1.trans rfl⟩
 have hcx:∃ oe,h2.get? e=some oe∧ctxOf oe=some .none:=by
  obtain ⟨ob,hob,_⟩:=x1.there
  obtain ⟨t',he,_,_⟩:=hx.there
  exact ⟨ob,hob,(dk.get he hob).2.trans rfl⟩
 refine ⟨e,C,.ref t,none,_,H1,rfl,⟨J.os,J.bare,un,J.hok,x1,fun b o q hb o' q'=>?_,fun b u q o' q'=>?_,hdc,fun _=>hcx⟩,hE⟩
 ·obtain ⟨o1,q1⟩:=I.base.there b o q (by rw [hex];simp)
  have hn:b∉frs X.stack:=fun z=>by
   rcases List.mem_cons.mp (I.stkSub b z) with y | y
   ·exact absurd (Nat.lt_of_lt_of_le (Heap.lt_size q) I.ok.above) (by rw [y];exact Nat.lt_irrefl _)
   ·exact hb y
  have q2:=kept b o1 q1 hn
  rw [q'] at q2;cases q2
  exact PySem.W.hideAll_get _ q1 hn
 ·have hn:b∉frs X.stack:=fun z=>by
   have y:=I.stkFree b z
   rw [q] at y;cases y
  obtain ⟨o1,r⟩:=(I.hok b u q).somewhere
  have q2:=kept b o1 r hn
  rw [q'] at q2;cases q2
  exact PySem.W.hideAll_get _ r hn
theorem passes_body {nc:Bool}:PassesX (CXC nc P w) (cxOf (CXC nc P w) P w K mg base N qual scope f cd A outer s H E) (fun _=>E):=by
 intro pins σ H1 s1 e s2 I h
 generalize hX:cxOf (CXC nc P w) P w K mg base N qual scope f cd A outer s H E=X at I h ⊢
 have hst:X.stack=X.env::X.outer:=by rw [←hX];rfl
 have hfr:X.env.frame=some X.env.locals:=by rw [←hX];rfl
 have hxe:X.xe=fun e s'=>wpAny (model P w) X.A (leaving X.env e) (fun _ s''=>CXC nc P w X.outer X.H₀ X.s₀ E e s'') (fun e' s''=>CXC nc P w X.outer X.H₀ X.s₀ E e' s'') s':=by rw [←hX];rfl
 have hex:X.ex=[]:=by rw [←hX];rfl
 have hp:X.prog=P:=by rw [←hX];rfl
 have hw:X.w=w:=by rw [←hX];rfl
 subst hp hw
 rw [hxe]
 obtain ⟨a,cls,a0,D,B,H',rfl,F,hE⟩:=h
 have fl:Heap.FlyingW B (X.env::X.outer) a cls a0 s2.heap:=by rw [←hst];exact F.fly
 refine wpAny_mono (KT.run (kt_leaving _ _) (wpAny_leaves_onW (Q:=fun _ s3=>∃ h3,s3={ s2 with heap:=h3 }∧Heap.FlyingW B X.outer a cls a0 h3∧s2.heap.UpToSlots h3) (E:=fun _ _=>False) (by rw [←hst];exact I.ok.frames) hfr fl fun h3 x1 x2=>⟨h3,rfl,x1,x2⟩)) (fun _ s3 q=>?_) fun _ _ q=>q.1.elim
 obtain ⟨⟨h3,rfl,x1,x2⟩,dk⟩:=q
 have J:Inv X pins σ H' { s2 with heap:=h3,toks:=s2.toks }:=F.land I x1.1 x2
 have un:Un (frs X.outer) [] X.H₀ H' X.s₀.heap h3:=by have z:=J.base;rw [hex] at z;exact z
 have hdc:∃ oe,h3.get? a=some oe∧oe.dict=D:=by
  obtain ⟨ob,hob,_⟩:=x1.there
  obtain ⟨ow,hw,hwd⟩:=F.dct
  exact ⟨ob,hob,(dk.get hw hob).1.trans hwd⟩
 have hcx:nc=true→∃ oe,h3.get? a=some oe∧ctxOf oe=some .none:=fun hnc=>by
  obtain ⟨ob,hob,_⟩:=x1.there
  obtain ⟨ow,hw,hwd⟩:=F.ctx hnc
  exact ⟨ob,hob,(dk.get hw hob).2.trans hwd⟩
 refine ⟨a,cls,a0,D,B,H',rfl,⟨J.os,J.bare,un,J.hok,x1,fun b o q hb o' q'=>?_,fun b u q o' q'=>?_,hdc,hcx⟩,hE⟩
 ·obtain ⟨o1,q1⟩:=I.base.there b o q (by rw [hex];simp)
  have hn:b∉frs X.stack:=fun z=>by
   rcases List.mem_cons.mp (I.stkSub b z) with y | y
   ·exact absurd (Nat.lt_of_lt_of_le (Heap.lt_size q) I.ok.above) (by rw [y];exact Nat.lt_irrefl _)
   ·exact hb y
  obtain ⟨o2,q2⟩:=F.un.there b o1 q1 (by simp)
  have q3:=F.old b o1 q1 hn o2 q2
  have q4:=x1.1 b o2 q3
  rw [q'] at q4;cases q4
  exact q3
 ·obtain ⟨o2,q2⟩:=(F.hok b u q).somewhere
  have q3:=F.trk b u q o2 q2
  have q4:=x1.1 b o2 q3
  rw [q'] at q4;cases q4
  exact q3
end
abbrev bmVE:List Value:=[.type "ValueError",.type "Exception",.type "BaseException",.type "object"]
theorem exc_obj {K:PySem.W.Frag} {h:Heap} {C:Addr} {newId:String} {bmB:List Value} (kin:K.In h) (q:PySem.W.excIn K C bmB newId=true) :
  ∃ tl N nm qn bs dy sn sub ab col dd k0 k1 k2 k3 k5 mN,h.get? C=some (excClassObj nm qn C N bs tl dy sn sub ab col dd k0 k1 k2 k3 k5 newId)∧h.Ns N mN∧mN "__init__"=none∧OwnTail h bmB tl:=by
 unfold PySem.W.excIn at q
 split at q
 next dd cd sl ho =>
  split at q
  next C2 tl k0 k1 k2 k3 n k5 hm hs =>
   simp only [Bool.and_eq_true,beq_iff_eq,Bool.not_eq_true'] at q
   obtain ⟨⟨⟨⟨⟨e1,e2⟩,e3⟩,e4⟩,e5⟩,e6⟩:=q
   subst e1 e2
   obtain ⟨nm,bs,mro,N,qn,dy,sn,sub,ab,col,del⟩:=cd
   dsimp only at hm e3 e5 e6
   subst hm e3
   have e7:sl=#[k0,k1,k2,k3,some (.builtin n),k5]:=by
    obtain ⟨l⟩:=sl
    simp only at hs
    rw [hs]
   subst e7
   exact ⟨tl,N,nm,qn,bs,dy,sn,sub,ab,col,dd,k0,k1,k2,k3,k5,_,kin _ _ ho,.of_isNs (PySem.W.isNs_of_in kin e5),PySem.W.nsMap_none_of_in kin e5 e6,PySem.W.tail_of_in kin e4⟩
  next=>cases q
 next=>cases q
def tRaise (C:Addr) (E:XK) (t:TA):TS:=fun _ σ H=>t σ H fun vs H1=>vs.length≤sizeLine∧E (.ref C) none H1
section
variable {X:Cx} {x:Str} {C:Addr} {E:XK} {e:Expr} {es:List Expr} {t:TA} {np cpos pos:Pos}
theorem ps_raise (hc:X.calm=true) (hC:PySem.W.excIn X.K C bmVE "ValueError.__new__"=true) (hg:Gl X x) (hm:X.mg x=some (.ref C)) (hx:Raises X (.ref C) E) (ha:PA X (e::es) t)
  (hdb:(x == ("__debug__":Str))=false:=by decide) (he:starEach (e::es) X.env=(false,eval e X.env)::starEach es X.env:=by rfl) (hpl:(backTo cpos (starEach es X.env)).any (·.1)=false:=by rfl) :
  PS X (.Raise (some (.Call (.Name x np) (e::es) [] cpos)) none pos) (tRaise C E t):=by
 intro pins s σ H D I h
 obtain ⟨tl,N,nm,qn,bs,dy,sn,sub,ab,col,dd,k0,k1,k2,k3,k5,mN,hO,hN,hni,T⟩:=exc_obj I.mod.kin hC
 have FB:=PySem.F.excBase_ValueError
 have arg:=ha cpos pins s σ H _ I h
 refine wpAny_Raise_call_subT (C:=C) (nm:=nm) (q:=qn) (N:=N) (bs:=bs) (bm:=tl) (hdct:=dy) (sn:=sn) (sub:=sub) (ab:=ab) (col:=col) (dd:=dd) (k0:=k0) (k1:=k1) (k2:=k2) (k3:=k3) (k5:=k5) FB (mN:=mN) (T.hasType FB.hasBase) (I.ok.hd hc) ?_ hni (ld_glob I hg hm ⟨rfl,?_⟩ hdb)
 ·rw [he]
  show (false || (backTo cpos (starEach es X.env)).any (·.1))=false
  rw [hpl];rfl
 ·rw [he] at arg ⊢
  refine Calls.evalArgs_plain (thn arg fun us s2 ⟨vs,H2,I2,r,z,q⟩=>?_)
  exact ⟨rfl,by rw [←r.length];exact z,I2.bk _ _ hO,hN.keeps I2.bk,T.keeps I2.bk,fun h2 a hq=>hx pins σ H2 s2 h2 a us I2 hq q⟩
end
def tCallX (sp:Sp) (dvs:List V) (E:St→XK) (t:TA):TE:=fun σ H Q=>t σ H fun vs H1=>sp (vs++dvs) H1 Q (E σ)
section
variable {X:Cx} {CX:CXT} {k:Nat} {f:Addr} {fd:FuncData} {ps:List Str} {sp:Sp} {dvs:List V} {ds:List Value} {E:St→XK} {x:Str} {p pos:Pos} {e:Expr} {es:List Expr} {t:TA}
theorem pe_callX (F:FnOk X.prog X.w X.K X.mg X.base CX k f fd ps sp) (hr:Room k X.A) (hg:Gl X x) (hm:X.mg x=some (.ref f)) (hk:PySem.W.keepIn X.K (.ref f)=true) (hb:Binds X.K fd ps ds) (hd:Vals dvs ds) (hx:PassesX CX X E)
  (ha:PA X (e::es) t) (hdb:(x == ("__debug__":Str))=false:=by decide) (he:starEach (e::es) X.env=(false,eval e X.env)::starEach es X.env:=by rfl) (hpl:(backTo pos (starEach es X.env)).any (·.1)=false:=by rfl) :
  PE X (.Call (.Name x p) (e::es) [] pos) (tCallX sp dvs E t):=by
 intro pins s σ H Q I h
 refine wpAny_Call_Name_kw (ld_glob I hg hm ?_ hdb)
 refine PySem.W.callWith_K (h₀:=X.base) I.ok.mod.kin hk (thn (ha pos pins s σ H _ I h) fun us s1 ⟨vs,H1,I1,r,q⟩=>⟨I1.kIn,?_⟩) he hpl
 have r2:Vals (vs++dvs) (us++ds):=r.append hd
 have hl:(us++ds).length=ps.length:=by rw [←r2.length];exact F.len _ _ _ _ q
 refine wpAny_call (codeAny_mono (F.run X.A X.stack s1 H1 ⟨us,[]⟩ (us++ds) (vs++dvs) Q (E σ) hr I1.env0 (hb s1 us I1.kIn hl) r2 q) fun rs s2 hq=>?_)
 rcases rs with er | fl
 ·exact hx pins σ H1 s1 er s2 I1 hq
 ·cases fl with
  | ret u=>exact I1.after hq
  | next=>exact False.elim hq
  | brk=>exact False.elim hq
  | cont=>exact False.elim hq
end
section
variable {P:Program} {w:World} {K:PySem.W.Frag} {mg:Str→Option Value} {base:Heap}
theorem Fun.okX {nc:Bool} {x qual:Str} {st:Stmt} {f:Addr} {fd:FuncData} {N ps:List Str} {k:Nat} {sp:Sp} (F:Fun K x qual st f fd) (S:FnScope N ps (defScope st)) (len:∀ vs H Q E,sp vs H Q E→vs.length=ps.length)
  (hbody:∀ (cdv:Value) (A:Around) (outer:List Env) (s:Shared) (H:Hp) (vs:List V) (Q:VK) (E:XK),Room k (A.deeper (envOfC qual (defScope st) s.heap.objs.size f cdv))→sp vs H Q E →
   ∃ t,PSs (cxOf (CXC nc P w) P w K mg base N qual (defScope st) f cdv A outer s H E) (defBody st) t∧t { nx:=fun _ H'=>Q .non H',rt:=Q } (start N vs) H):FnOk P w K mg base (CXC nc P w) (k+1) f fd ps sp:=by
 obtain ⟨oc,od,kV,doc,pm,an,cdv,ct,osl,rfl,lk,hcd⟩:=F.ex
 exact fn_of lk hcd S len fun A outer s H vs Q E hr hsp=>hbody cdv A outer s H vs Q E hr hsp
end
theorem PS.nox {X:Cx} {st:Stmt} {t:TS} (h:PS X.nox st t):PS X st t:=fun pins s σ H D I hw =>
 wpAny_mono (h pins s σ H D (I.wish _) hw) (fun _ _ q=>q.unwish) fun _ _ q=>q.elim
abbrev Cx.but (X:Cx) (p:List (Addr × Obj)) (E:Value→Shared→Prop):Cx:={ X with pn:=p,xe:=E }
theorem Cx.Ok.but {X:Cx} (ok:X.Ok) (p:List (Addr × Obj)) (E:Value→Shared→Prop):(X.but p E).Ok :=
 ⟨ok.mod,ok.kind,ok.glob,ok.blt,ok.above,ok.inj,ok.has,ok.cab,ok.hd,ok.frames,ok.stk,ok.exf,ok.bs,ok.bsz,ok.noex,ok.exfs,ok.funs,ok.frf⟩
theorem Cx.Ok.unbut {X:Cx} {p:List (Addr × Obj)} {E:Value→Shared→Prop} (ok:(X.but p E).Ok):X.Ok :=
 ⟨ok.mod,ok.kind,ok.glob,ok.blt,ok.above,ok.inj,ok.has,ok.cab,ok.hd,ok.frames,ok.stk,ok.exf,ok.bs,ok.bsz,ok.noex,ok.exfs,ok.funs,ok.frf⟩
def Cx.tr (X:Cx) (p:List (Addr × Obj)) (W:St→XK):Cx:=X.but p fun e s'=>∃ pins σ H s,Inv (X.but p fun _ _=>False) pins σ H s∧CXF X.prog X.w X.stack H s (W σ) e s'
def Cx.hdl (X:Cx) (v:Value):Cx:={ X with A:=X.A.mark (some v),calm:=false,xe:=fun _ _=>False }
section
variable {X:Cx} {pins pins' p:List (Addr × Obj)} {σ:St} {H:Hp} {s:Shared} {E E':Value→Shared→Prop}
theorem Inv.but (I:Inv X pins σ H s) (E:Value→Shared→Prop):Inv (X.but (X.pn++pins) E) [] σ H s :=
 ⟨I.ok.but _ _,I.os,I.bare,I.base,I.loc,I.cell,I.free,I.freeC,fun q hq=>I.pin q (by simpa using hq),I.hok,I.len⟩
theorem Inv.unbut (I:Inv (X.but (X.pn++pins) E) pins' σ H s):Inv X pins σ H s :=
 ⟨I.ok.unbut,I.os,I.bare,I.base,I.loc,I.cell,I.free,I.freeC,fun q hq=>I.pin q (List.mem_append_left _ hq),I.hok,I.len⟩
theorem Inv.rebut (I:Inv (X.but p E) pins σ H s):Inv (X.but p E') pins σ H s :=
 ⟨I.ok.unbut.but _ _,I.os,I.bare,I.base,I.loc,I.cell,I.free,I.freeC,I.pin,I.hok,I.len⟩
theorem Inv.hdl (I:Inv X pins σ H s) (v:Value):Inv (X.hdl v) pins σ H s :=
 ⟨⟨I.ok.mod,I.ok.kind,I.ok.glob,I.ok.blt,I.ok.above,I.ok.inj,I.ok.has,I.ok.cab,fun z=>absurd z (by show ¬ (false=true);decide),I.ok.frames,I.ok.stk,I.ok.exf,I.ok.bs,I.ok.bsz,I.ok.noex,I.ok.exfs,I.ok.funs,I.ok.frf⟩,
  I.os,I.bare,I.base,I.loc,I.cell,I.free,I.freeC,I.pin,I.hok,I.len⟩
theorem Inv.unhdl {v:Value} (hd:X.calm=true→X.A.handled=none) (I:Inv (X.hdl v) pins σ H s):Inv X pins σ H s :=
 ⟨⟨I.ok.mod,I.ok.kind,I.ok.glob,I.ok.blt,I.ok.above,I.ok.inj,I.ok.has,I.ok.cab,hd,I.ok.frames,I.ok.stk,I.ok.exf,I.ok.bs,I.ok.bsz,I.ok.noex,I.ok.exfs,I.ok.funs,I.ok.frf⟩,
  I.os,I.bare,I.base,I.loc,I.cell,I.free,I.freeC,I.pin,I.hok,I.len⟩
theorem passes_try {W:St→XK}:PassesX (CXF X.prog X.w) (X.tr p W) W:=fun pins σ H s e s' I h=>⟨pins,σ,H,s,Inv.rebut (X:=X) I,h⟩
theorem SP.unbut {D:Ends} {f:Flow} {s':Shared} (h:SP (X.but (X.pn++pins) E) pins' D f s'):SP X pins D f s':=by
 cases f with
 | next=>obtain ⟨a,b,I,q⟩:=h;exact ⟨a,b,I.unbut,q⟩
 | brk=>obtain ⟨a,b,I,q⟩:=h;exact ⟨a,b,I.unbut,q⟩
 | cont=>obtain ⟨a,b,I,q⟩:=h;exact ⟨a,b,I.unbut,q⟩
 | ret u=>obtain ⟨v,a,b,I,q⟩:=h;exact ⟨v,a,b,I.unbut,q⟩
theorem gone_ok {M:Model} {A:Around} {i:Nat} {n:Str} {pos:Pos} {Q:Unit→Shared→Prop} (I:Inv X pins σ H s) (hN:X.N.Nodup) (hi:X.N[i]?=some n) (hl:X.env.scope.names.lookup n=some .local)
  (h:∀ s',Inv X pins (σ.set i none) H s'→Q () s'):wpAny M A (do bindName X.env n .none;unbindBehindTheSuite X.env n pos) Q E s:=by
 obtain ⟨m,hn,lk⟩:=id I.loc
 have hcls:(X.env.scope.kind == .class || (X.env.scope.kind == .module && X.env.locals != X.env.globals))=false:=by rw [I.ok.kind];rfl
 refine wpAny_nameGoes_keeps (show X.env.kindOf n=some .local from hl) hn hcls fun h' v hn' sb=>h _ ?_
 have away:∀ b o,X.s₀.heap.get? b=some o→b≠X.env.locals:=fun b o e=>Nat.ne_of_lt (Nat.lt_of_lt_of_le (Heap.lt_size e) I.ok.above)
 have hiσ:i<σ.length:=by rw [I.len];exact (List.getElem?_eq_some_iff.mp hi).1
 refine ⟨I.ok,I.os,I.bare,⟨fun b o e nn hb hx=>(sb.2 b (away b o e)).trans (I.base.keep b o e nn hb hx),fun b o e nn hb hx=>?_,I.base.free,fun b o e hx=>?_,I.base.tups,I.base.frzs,I.base.tbls⟩,
  ⟨_,hn',fun j y w e1 e2 e3=>?_⟩,fun y c e=>?_,I.free,I.freeC,fun q hq=>?_,fun b u q=>?_,by simpa using I.len⟩
 ·obtain ⟨sl,e1⟩:=I.base.slot b o e nn hb hx
  exact ⟨sl,(sb.2 b (away b o e)).trans e1⟩
 ·obtain ⟨o',e1⟩:=I.base.there b o e hx
  exact ⟨o',(sb.2 b (away b o e)).trans e1⟩
 ·by_cases hj:j=i
  ·subst hj
   rw [List.getElem?_set_self hiσ] at e2
   cases e2
  ·rw [List.getElem?_set_ne (Ne.symm hj)] at e2
   obtain ⟨u,r,z⟩:=lk j y w e1 e2 e3
   refine ⟨u,r,?_⟩
   rcases z with ⟨k,z⟩ | ⟨k,c,z,y'⟩
   ·have ny:y≠n:=fun q=>hj (nodup_ix hN e1 (q▸hi))
    exact .inl ⟨k,by simp [ny,z]⟩
   ·exact .inr ⟨k,c,z,y'.sameBut sb (I.cne y c z)⟩
 ·obtain ⟨w,z⟩:=I.cell y c e
  exact ⟨w,z.sameBut sb (I.cne y c e)⟩
 ·obtain ⟨e,nn,ne,nf,d⟩:=I.pin q hq
  exact ⟨(sb.2 q.1 ne).trans e,nn,ne,nf,d⟩
 ·refine (I.hok b u q).stay (fun c w hc r=>(sb.2 c fun z=>?_).trans r) (fun _ q=>q) fun _ _ q=>q
  have fz:=I.free
  rcases hc with e | e
  ·rw [←z,e,q] at fz;cases fz
  ·rw [←z,e] at fz;cases fz
end
def tTry (K:PySem.W.Frag) (R:Value) (i:Nat) (W:St→XK) (tb th:TS):TS:=fun D σ H=>tb D σ H∧∀ σ' cls D' H',W σ' cls D' H'→PySem.W.exmOne K cls R=some true∧∀ a,H' a=none →
 th { nx:=fun σ2 H2=>D.nx (σ2.set i none) H2,rt:=D.rt,bk:=fun σ2 H2=>D.bk (σ2.set i none) H2,ct:=fun σ2 H2=>D.ct (σ2.set i none) H2 } (σ'.set i (some (.ref a))) (upd H' a (exo a cls D' false))
section
variable {X:Cx} {x n:Str} {R:Addr} {i:Nat} {W:St→XK} {b:List Stmt} {c0:Stmt} {suite:List Stmt} {tb th:TS} {np hpos pos:Pos}
theorem ps_try (hN:X.N.Nodup) (hi:X.N[i]?=some n) (hl:X.env.scope.names.lookup n=some .local) (hg:Gl X x) (hm:X.mg x=some (.ref R)) (hst:X.stack=X.env::X.outer) (hfr:X.env.frame=some X.env.locals)
  (hb:∀ p,PSs (X.tr p W) b tb) (hs:∀ v,PSs (X.hdl v) (c0::suite) th) (hd:(x == ("__debug__":Str))=false:=by decide) :
  PS X (.Try b [.ExceptHandler (some (.Name x np)) (some n) (c0::suite) hpos] [] [] pos) (tTry X.K (.ref R) i W tb th):=by
 intro pins s σ H D I h
 obtain ⟨h1,h2⟩:=h
 refine wpAny_Try_except (wpAny_mono (hb (X.pn++pins) [] s σ H D (I.but _) h1) (fun f s1 q=>?_) fun e s1 q=>?_)
 ·have q':SP X pins D f s1:=SP.unbut (pins':=[]) q
  cases f with
  | next=>exact wpAny_execs_nil q'
  | ret u=>exact q'
  | brk=>exact q'
  | cont=>exact q'
 ·obtain ⟨pins0,σ0,H0,s0,I0,a,cls,a0,D',B,H',rfl,F,hW⟩:=q
  have J0:Inv X pins σ0 H0 s0:=I0.unbut
  obtain ⟨hx,hth⟩:=h2 σ0 cls D' H' hW
  have fl:Heap.FlyingW B (X.env::X.outer) a cls a0 s1.heap:=by rw [←hst];exact F.fly
  refine wpAny_mono (KT.run (kt_note _ _) (wpAny_looks_onW (Q:=fun _ s4=>∃ h4,s4={ s1 with heap:=h4 }∧Heap.HeldW B (X.env::X.outer) a cls a0 X.env.locals h4∧s1.heap.UpToSlots h4) (E:=fun _ _=>False) (by rw [←hst];exact J0.ok.frames) hfr fl fun h4 held4 sm4=>⟨h4,rfl,held4,sm4⟩)) (fun _ s4 q=>?_) fun _ _ q=>q.1.elim
  obtain ⟨⟨h4,rfl,held4,sm4⟩,dk4⟩:=q
  refine wpAny_mono (KT.run (kt_setFlight _ _) (wpAny_landsW (Q:=fun _ s5=>∃ h5,s5={ s1 with heap:=h5 }∧Heap.FlyingW B (X.env::X.outer) a cls a0 h5∧h4.UpToSlots h5) (E:=fun _ _=>False) (s:={ s1 with heap:=h4 }) held4 fun h5 fl5 sm5=>⟨h5,rfl,fl5,sm5⟩)) (fun _ s5 q=>?_) fun _ _ q=>q.1.elim
  obtain ⟨⟨h5,rfl,fl5,sm5⟩,dk5⟩:=q
  have J5:Inv X pins σ0 H' { s1 with heap:=h5,toks:=s1.toks }:=F.land J0 fl5.1 (sm4.trans sm5)
  have K5:=J5.hdl (.ref a)
  refine wpAny_handleBy_cons (codeAny_handlers_test (ld_glob K5 hg hm ?_ hd)) (by intro q;cases q)
  obtain ⟨ob,hob,hobc⟩:=fl5.there
  have LT:PySem.W.Looks (model X.prog X.w) h5 (typeOf (.ref a)) cls:=by
   subst hobc
   exact (PySem.W.Looks.ld hob).andThen .now
  refine (PySem.W.exm_one J5.kIn LT hx).here ?_
  show codeAny _ _ _ _ _
  refine codeAny_handlers_suite_as ?_
  refine wpAny_mono (KT.run (kt_setFlight _ _) (lands_againW (Q:=fun _ s6=>∃ h6,s6={ s1 with heap:=h6 }∧Heap.FlyingW B (X.env::X.outer) a cls a0 h6∧h5.UpToSlots h6) (E:=fun _ _=>False) (s:={ s1 with heap:=h5 }) fl5 fun h6 fl6 sm6=>⟨h6,rfl,fl6,sm6⟩)) (fun _ s6 q=>?_) fun _ _ q=>q.1.elim
  obtain ⟨⟨h6,rfl,fl6,sm6⟩,dk6⟩:=q
  have J6:Inv X pins σ0 (upd H' a (exo a cls D' false)) { s1 with heap:=h6,toks:=s1.toks }:=F.land' J0 fl6 ((sm4.trans sm5).trans sm6) ((dk4.trans dk5).trans dk6)
  refine store_ok J6 hN hi (.inl hl) (v:=.ref a) rfl (fun s7 I7=>?_) (.inr hl)
  have run:=hs (.ref a) pins s7 _ _ _ (I7.hdl (.ref a)) (hth a F.fresh.1)
  refine wpAny_mono run (fun f s8 q8=>?_) fun _ _ z=>z.elim
  cases f with
  | next =>
   obtain ⟨σ8,H8,I8,q8⟩:=q8
   exact gone_ok (I8.unhdl J0.ok.hd) hN hi hl fun s9 I9=>⟨_,_,I9,q8⟩
  | brk =>
   obtain ⟨σ8,H8,I8,q8⟩:=q8
   exact gone_ok (I8.unhdl J0.ok.hd) hN hi hl fun s9 I9=>⟨_,_,I9,q8⟩
  | cont =>
   obtain ⟨σ8,H8,I8,q8⟩:=q8
   exact gone_ok (I8.unhdl J0.ok.hd) hN hi hl fun s9 I9=>⟨_,_,I9,q8⟩
  | ret u =>
   obtain ⟨v8,σ8,H8,I8,r8,q8⟩:=q8
   exact gone_ok (I8.unhdl J0.ok.hd) hN hi hl fun s9 I9=>⟨v8,_,_,I9,r8,q8⟩
end
end L2
namespace L2
open PySem PySem.Spec PyProof.Rows
structure ExcK (K:PySem.W.Frag) (D:Addr):Prop where
 ci:(PySem.W.clsIn K D).isSome=true
 ga:PySem.W.findIn K (.ref D) "__getattribute__"=some (some (.builtin "BaseException.__getattribute__"))
 gn:PySem.W.findIn K (.ref D) "__getattr__"=some none
 ca:PySem.W.findIn K (.ref D) "__class__"=some (some (.builtin "object.__class__"))
 sg:PySem.W.specialIn K (.builtin "object.__class__") "__get__"=some (some (.builtin "getset_descriptor.__get__"))
 tk:PySem.W.takesIn K (.builtin "object.__class__")=some true
 mo:PySem.W.mroIn K D (.type "object")=some true
 mb:PySem.W.mroIn K D (.type "BaseException")=some true
section
variable {K:PySem.W.Frag} {D a:Addr} {dy:Option Addr} {n:Bool}
theorem ExcK.isCls (c:ExcK K D) {M:Model} {h:Heap} (kin:K.In h):PySem.W.Looks M h (isType (.ref D)) true:=by
 have z:=c.ci
 unfold PySem.W.clsIn at z
 split at z
 next ho =>
  intro A Q E s k q
  unfold isType loadHead
  exact wpAny_bind (wpAny_loadPart (k _ _ (kin _ _ ho)) (wpAny_pure q))
 next=>cases z
theorem excIs.ty {M:Model} {h:Heap} {cls:Value} (x:excIs a cls dy n h):PySem.W.Looks M h (typeOf (.ref a)) cls:=by
 obtain ⟨o,vs,e,c,_⟩:=x
 subst c
 exact (PySem.W.Looks.ld e).andThen .now
theorem looks_data {M:Model} {h:Heap} {x:Value} {name:Str} {u g:Value} (kin:K.In h) (h1:PySem.W.findIn K (.ref D) name=some (some u)) (h2:PySem.W.specialIn K u "__get__"=some (some g)) (h3:PySem.W.takesIn K u=some true) :
  PySem.W.Looks M h (Builtin.ObjectAttr.find x (.ref D) name) (.bind g u):=by
 have a1:=PySem.W.looks_findIn (M:=M) kin h1
 have a2:PySem.W.Looks M h (Builtin.ObjectAttr.getOf (some u)) (some g):=PySem.W.looks_specialIn kin h2
 have a3:PySem.W.Looks M h (Builtin.ObjectAttr.dataDescriptor? (some u) (some g)) (some (g,u)):=(PySem.W.looks_takesIn (M:=M) kin h3).andThen .now
 exact a1.andThen (a2.andThen (a3.andThen (PySem.W.Looks.tag .now)))
theorem exc_get {prog:Program} {w:World} {A:Around} {R:Result→Shared→Prop} {s:Shared} {tp:Value} (c:ExcK K D) (kin:K.In s.heap) (x:excIs a (.ref D) dy n s.heap) (q:R (.ok (.ret (.ref D))) s) :
  codeAny (model prog w) A (.call (.builtin "getset_descriptor.__get__") ⟨[.builtin "object.__class__",.ref a,tp],[]⟩) R s:=by
 obtain ⟨hp,g,d,t,os⟩:=s
 have a1:=x.ty (M:=model prog w)
 have a2:=PySem.W.looks_mroIn (M:=model prog w) kin c.mo
 refine codeAny_call_builtin PySem.W.KF.slot_gs.plain PySem.W.KF.entry_gs (PySem.W.KF.slot_gs.check _ _ _ _ _ _ _ _ PySem.W.KF.type_class (PySem.W.KF.args_gs _ _ _) ?_)
 (unfold Builtin.«getset_descriptor.__get__» Builtin.Getset_descriptor.descrGet;rw [PySem.W.dga_obj];refine wpAny_bind (wpAny_pure ?_))
 (unfold Builtin.Getset_descriptor.descrGetter Builtin.Getset_descriptor.descrCheckInstance Builtin.Getset_descriptor.descrNameAndClass isInstance;simp only [PySem.W.KF.owner_class])
 repeat lk
 refine ⟨Code.quiet_builtin _ (by decide +kernel),codeAny_builtin PySem.W.KF.entry_class ?_⟩
 (unfold Builtin.«object.__class__» shownTypeOf;repeat lk)
 exact q
theorem exc_class {prog:Program} {w:World} {A:Around} {E:Value→Shared→Prop} {Q:Option Value→Shared→Prop} {s:Shared} (c:ExcK K D) (kin:K.In s.heap) (x:excIs a (.ref D) dy n s.heap)
  (q:Q (some (.ref D)) { s with toks:=s.toks+1 }):wpAny (model prog w) A (getAttr? (.ref a) "__class__") Q E s:=by
 obtain ⟨hp,g,d,t,os⟩:=s
 have LT:=x.ty (M:=model prog w)
 have L1:=PySem.W.looks_findIn (M:=model prog w) kin c.ga
 have L2:=PySem.W.looks_findIn (M:=model prog w) kin c.gn
 have L3:=looks_data (M:=model prog w) (x:=.ref a) kin c.ca c.sg c.tk
 have L4:PySem.W.Looks (model prog w) hp (isInstance (.ref a) (.type "BaseException")) true:=LT.andThen (PySem.W.looks_mroIn kin c.mb)
 have FA:=PySem.F.excAttr_ValueError
 unfold getAttr? getAttrBy? getAttrBy
 refine wpAny_bind (wpAny_mkText (wpAny_bind (wpAny_attempt (wpAny_holding (wpAny_bind (LT.at (wpAny_bind (L1.at ?_))))))))
 show wpAny _ _ (getAttrByItsOwn _ _ _ _ _ _) _ _ _
 unfold getAttrByItsOwn
 refine wpAny_bind (show wpAny _ _ (typeLookup (.ref D) "__getattr__") _ _ _ from L2.at ?_)
 refine wpAny_bind (wpAny_attempt (wpAny_holding ?_))
 show wpAny _ _ (boundAndCalled _ _ _) _ _ _
 unfold boundAndCalled
 refine wpAny_bind (wpAny_of_eq (FA.ga.bind _) ?_)
 refine wpAny_call (codeAny_call_builtin FA.ga.plain PySem.F.entry_bexc_ga ?_)
 have hk:builtinKind "BaseException.__getattribute__"=some .slot:=by decide +kernel
 have hsp:splitId "BaseException.__getattribute__"=some ("BaseException","__getattribute__"):=by decide +kernel
 have ha:=PySem.F.args_bexc_ga (.ref a) (.str "__class__" t)
 show wpAny _ _ (checkBuiltinCall "BaseException.__getattribute__" ⟨[.ref a,.str "__class__" t],[]⟩) _ _ _
 simp only [checkBuiltinCall,hk,hsp]
 refine wpAny_bind (L4.at ?_)
 repeat (any_goals (first | assumption | wp_step))
 obtain ⟨o,vs,eo,co,vo⟩:=id x
 refine wpAny_loadPart eo ?_
 refine wpAny_pure ?_
 rw [co]
 refine wpAny_bind (L3.at ?_)
 show wpAny _ _ (call (.builtin "getset_descriptor.__get__") [.builtin "object.__class__",.ref a,.ref D] >>= fun v=>ret v) _ _ _
 refine wpAny_bind (wpAny_call (exc_get c kin ⟨o,vs,eo,co,vo⟩ ?_))
 refine wpAny_pure ?_
 show wpAny _ _ (handedOut (.ref D)) _ _ _
 exact wpAny_pure (wpAny_pure q)
theorem kitx_exc (c:ExcK K D):PySem.W.KitX K (.ref a) (.ref D) (excIs a (.ref D) dy n) where
 ty:=fun _ _ _ x=>x.ty
 it:=fun _ _ kin _=>c.isCls kin
 ne:=fun h tp dd its n sl kin htp=>by
  refine Bool.eq_false_iff.mpr fun q=>?_
  have e:D=tp:=Value.ref.inj (beq_iff_eq.mp q)
  subst e
  have z:=c.ci
  unfold PySem.W.clsIn at z
  split at z
  next ho =>
   have y:=(kin _ _ ho).symm.trans htp
   cases y
  next=>cases z
 ca:=fun kin x q=>exc_class c kin x q
end
inductive TyE (K:PySem.W.Frag) (H:Hp):V→Value→Prop where
 | of {x:V} {t:Value} (h:TyOf K H x t):TyE K H x t
 | exc {a D:Addr} {dy:Option Addr} {n:Bool} (e:H a=some (exo a (.ref D) dy n)) (c:ExcK K D):TyE K H (.ref a) (.ref D)
section
variable {X:Cx}
def clsV:V→Option Value
 | .ty n=>some (.type n)
 | .ref a=>some (.ref a)
 | _=>none
def rIsi (K:PySem.W.Frag):List V→Hp→VK→Prop
 | [x,c],H,Q=>∃ t u b,TyE K H x t∧clsV c=some u∧PySem.W.kitOne K t u=some b∧Q (.bl b) H
 | _,_,_=>False
theorem call_isi:CallR X (.builtin "isinstance") (rIsi X.K):=by
 intro pins s σ H xs us Q I rv h
 match xs,h with
 | [x,c],h =>
 obtain ⟨t,u,b,ty,rc,k,q⟩:=h
 obtain ⟨v1,v2,rfl,r1,r2⟩:=vals2 rv
 have e:v2=u:=by
  cases c with
  | ty n=>cases rc;exact r2
  | ref a=>cases rc;exact r2
  | _=>cases rc
 subst e
 cases ty with
 | of ty=>exact isinst_ok I r1 ty k fun tk=>⟨.bl b,H,I.tok tk,rfl,q⟩
 | @exc a D dy n e ck =>
  cases (show v1=Value.ref a from r1)
  obtain ⟨x,_,_⟩:=(show ObjOk X.prog X.w H s.heap a (.ext (excIs a (.ref D) _ _)) from I.hok a _ e)
  exact PySem.W.kia_one (kitx_exc ck) I.kIn x k (fun z=>nomatch z) fun tk=>⟨.bl b,H,I.tok tk,rfl,q⟩
end
end L2
namespace L2
open PySem PySem.Spec PyProof.Rows
section
variable {prog:Program} {w:World} {A:Around} {E:Value→Shared→Prop} {s:Shared}
theorem rev_nolen:typeLookup (.type "list_reverseiterator") "__len__"=pure none:=by rw [typeLookup_type,builtinLookup_eq_fast];kernel_rfl
theorem rev_hint:typeLookup (.type "list_reverseiterator") "__length_hint__"=pure (some (.builtin "list_reverseiterator.__length_hint__")):=by rw [typeLookup_type,builtinLookup_eq_fast];kernel_rfl
theorem hint_rev {I:Addr} {Q:Bool→Shared→Prop} (hT:s.TypeIs (.ref I) "list_reverseiterator") (q:Q false s):wpAny (model prog w) A (Builtin.List.listLengthHint (.ref I)) Q E s:=by
 unfold Builtin.List.listLengthHint
 refine wpAny_bind (wpAny_specialOf hT rev_nolen ?_)
 show wpAny _ A (specialOf (Value.ref I) (Str.ofString "__length_hint__") >>= _) _ _ _
 refine wpAny_bind (wpAny_specialOf hT rev_hint ?_)
 generalize hz:("list_reverseiterator.__length_hint__":String)=zz
 wp_delta
 rw [show splitId zz=some ("list_reverseiterator","__length_hint__") from by subst hz;decide +kernel]
 subst hz
 refine wpAny_bind (wpAny_isInstance (b:=true) hT (by rw [isSubtype_type];kernel_rfl) ?_)
 exact wpAny_pure q
theorem list_of_rev {I l:Addr} {items:Array Value} {Q:Value→Shared→Prop} (hh:A.handled=none) (hIl:l≠I) (hit:s.heap.IsRevIter I l ((items.size:Int) - 1)) (hl:s.heap.IsList l items) (hz:items.size≤sizeLine)
  (hQ:∀ h' tk c' acc,(∀ b o,b≠I→s.heap.get? b=some o→h'.get? b=some o)→h'.get? s.heap.objs.size=some { cls:=.type "list",dict:=none,data:=.seq acc c',slots:=#[] } →
   acc.toList=items.toList.reverse→Q (.ref s.heap.objs.size) { s with heap:=h',toks:=tk }):wpAny (model prog w) A (call (.type "list") [.ref I]) Q E s:=by
 have W:=(Walks.listRev (prog:=prog) (w:=w) (A:=A.in1.in1) hh I l hIl items).toS
 have hIlt:I<s.heap.objs.size:=by obtain ⟨o,e,_⟩:=hit;exact Heap.lt_size e
 have hllt:l<s.heap.objs.size:=by obtain ⟨o,e,_⟩:=hl;exact Heap.lt_size e
 refine callType_codes (Q₁:=fun obj s₁=>obj=.ref s.heap.objs.size∧s₁={ s with heap:=s.heap.push { cls:=.type "list",data:=.seq #[] } }) PySem.F.called_list (PySem.F.typeCall_list_1 _) PySem.F.entry_list_init
  (code_list_new _ ⟨rfl,rfl⟩) fun obj s₁ h₁=>?_
 obtain ⟨rfl,rfl⟩:=h₁
 have hS:(s.heap.push { cls:=.type "list",data:=.seq #[] }).get? s.heap.objs.size=some { cls:=.type "list",data:=.seq #[] }:=Heap.get?_push_size _ rfl
 refine ⟨⟨_,hS,rfl⟩,PySem.F.args_list_init_2 _ _,?_⟩
 show wpAny _ _ (do let old ←Builtin.List.listItems (.ref s.heap.objs.size);Builtin.List.listUpdate (.ref s.heap.objs.size) (fun _=>#[]);letGo old.toList.reverse;Builtin.List.listExtendWith (.ref s.heap.objs.size) (.ref I) .none) _ _ _
 refine wpAny_bind ?_
 unfold Builtin.List.listItems
 refine wpAny_bind (wpAny_seqItems hS rfl (wpAny_pure ?_))
 show wpAny _ _ (updateSeq s.heap.objs.size (fun _=>#[]) >>= fun _=>letGo (#[]:Array Value).toList.reverse >>= fun _=>Builtin.List.listExtendWith (.ref s.heap.objs.size) (.ref I) .none) _ _ _
 refine wpAny_bind (wpAny_updateSeq hS rfl ?_)
 have hS2:=Heap.get?_update_self (Obj.mapSeq (fun _=>(#[]:Array Value))) hS rfl
 have kp:∀ b o,s.heap.get? b=some o→((s.heap.push { cls:=.type "list",data:=.seq #[] }).update s.heap.objs.size (Obj.mapSeq (fun _=>(#[]:Array Value)))).get? b=some o :=
  fun b o e=>(Heap.get?_update_other _ _ (Nat.ne_of_gt (Heap.lt_size e))).trans (Heap.get?_push_of_some _ e)
 refine wpAny_bind (wpAny_letGo ?_)
 have hit2:=hit.at fun o e=>kp I o e
 have hl2:=hl.at fun o e=>kp l o e
 unfold Builtin.List.listExtendWith
 refine wpAny_bind (wpAny_typeOf (T:="list_reverseiterator") hit2.typeIs ?_)
 have h1:Builtin.List.listSameRef (.ref s.heap.objs.size) (.ref I)=false:=by simp [Builtin.List.listSameRef,Nat.ne_of_gt hIlt]
 rw [if_neg (by rw [h1];decide)]
 refine wpAny_bind (wpAny_pyIter_revIter hit2 ?_)
 refine wpAny_bind (wpAny_holding (hint_rev hit2.typeIs ?_))
 rw [if_neg (by decide)]
 have nf:s.heap.objs.size∉[I,l]:=by
  simp only [List.mem_cons,List.not_mem_nil,or_false,not_or]
  exact ⟨Nat.ne_of_gt hIlt,Nat.ne_of_gt hllt⟩
 refine wpAny_pure ⟨plainId_quiet PySem.F.plain_extend_loop _,codeAny_extend_loopS W hz _ nf _ items.size 0 _ _ _ rfl (Nat.zero_le _) ⟨Nat.zero_le _,by simpa using hit2,hl2⟩ hS2 (ItemsOf.nil _) fun s' acc c' hm hS' hacc=>?_⟩
 refine ⟨rfl,?_⟩
 rw [Moved.eq_with hm]
 refine hQ s'.heap s'.toks c' acc (fun b o hb e=>hm.heap b o (fun z=>?_) (kp b o e)) hS' ?_
 ·rcases List.mem_cons.mp z with z | z
  ·exact absurd (Heap.lt_size e) (by rw [z];exact Nat.lt_irrefl _)
  ·exact hb (List.mem_singleton.mp z)
 ·apply List.ext_getElem?
  intro i
  by_cases hi:i<items.size
  ·have hi2:i<acc.size:=by rw [hacc.1];exact hi
   have p:=hacc.2 i acc[i] (Array.getElem?_eq_getElem hi2)
   rw [List.getElem?_reverse (by simpa using hi),Array.getElem?_toList,Array.getElem?_eq_getElem hi2,Array.getElem?_toList,Array.length_toList]
   exact p.symm
  ·rw [List.getElem?_eq_none (by rw [Array.length_toList,hacc.1];lia),List.getElem?_eq_none (by rw [List.length_reverse,Array.length_toList];lia)]
end
section
variable {X:Cx} {tg:Expr}
def tLRev (K:PySem.W.Frag) (ta:TA):TE:=fun σ H Q=>ta σ H fun vs H1=>∃ a xs,vs=[.ref a]∧SqL K H1 a xs∧∀ p,H1 p=none→Q (.ref p) (upd H1 p (.lst xs.reverse))
theorem pe_lrev {l:Expr} {ta:TA} {p1 p2 pos1 pos2:Pos} (hc:X.calm=true) (hg:Gl X "reversed") (hm:X.mg "reversed"=none) (hg2:Gl X "list") (hm2:X.mg "list"=none) (ha:PA X [l] ta) (hs:starEach [l] X.env=[(false,eval l X.env)]:=by rfl)
  (hs2:starEach [.Call (.Name "reversed" p1) [l] [] pos1] X.env=[(false,eval (.Call (.Name "reversed" p1) [l] [] pos1) X.env)]:=by rfl) :
  PE X (.Call (.Name "list" p2) [.Call (.Name "reversed" p1) [l] [] pos1] [] pos2) (tLRev X.K ta):=by
 intro pins s σ H Q I h
 refine Call_ (ld_blt I hg2 hm2 PyProof.Rows.boot_list (PyProof.Rows.callWith_type1 (T:="list") ?_ hs2 rfl))
 rw [hs2]
 show wpAny _ _ (spliced ((false,eval (.Call (.Name "reversed" p1) [l] [] pos1) X.env)::[])) _ _ s
 refine Calls.spliced_cons (Call_ (ld_blt I hg hm boot_reversed (PyProof.Rows.callWith_type1 (thn (ha pos1 pins s σ H _ I h) fun us s1 ⟨vs,H1,I1,r1,q1⟩=>?_) hs rfl)))
 obtain ⟨a,xs,e,hq,q⟩:=q1
 subst e
 cases r1 with
 | cons r rr =>
  cases rr
  cases r
  obtain ⟨its,rv,pl,hz⟩:=I1.list hq
  have hlen:=rv.length
  refine call_reversed_list pl.isList ?_
  refine Calls.spliced_nil ?_
  have ne:a≠s1.heap.objs.size:=by obtain ⟨o,e,_⟩:=pl.isList;exact Nat.ne_of_lt (Heap.lt_size e)
  have hL:(s1.heap.push (revObj a ((its.toArray.size:Int) - 1))).IsList a its.toArray:=pl.isList.at fun o e=>Heap.get?_push_of_some _ e
  refine list_of_rev (s:={ s1 with heap:=s1.heap.push (revObj a ((its.toArray.size:Int) - 1)) }) (I.ok.hd hc) ne ⟨_,Heap.get?_push_size _ rfl,rfl,rfl⟩ hL (by rw [Z17,←hlen];exact hz) fun h' tk c' acc kp hD hacc=>?_
  have kp2:∀ b o,s1.heap.get? b=some o→h'.get? b=some o:=fun b o e=>kp b o (Nat.ne_of_lt (Heap.lt_size e)) (Heap.get?_push_of_some _ e)
  have hf:H1 (s1.heap.push (revObj a ((its.toArray.size:Int) - 1))).objs.size=none:=I1.hok.fresh (by rw [Heap.size_push];lia)
  have rv2:Vals xs.reverse acc.toList:=by rw [hacc];simpa using rv.reverse
  refine ⟨.ref _,_,I1.laid (t':=tk) kp2 (by rw [Heap.size_push];lia) ?_,rfl,q _ hf⟩
  exact ⟨by rw [List.length_reverse];exact hz,acc.toList,c',rv2,by simpa using hD⟩
def rEqL (K:PySem.W.Frag):R2:=fun x y H Q=>∃ (a b:Addr) (ns ms:List Int),x=.ref a∧y=.ref b∧SqL K H a (ns.map V.int)∧SqL K H b (ms.map V.int)∧Q (.bl (decide (ns=ms))) H
def rNeL (K:PySem.W.Frag):R2:=fun x y H Q=>∃ (a b:Addr) (ns ms:List Int),x=.ref a∧y=.ref b∧SqL K H a (ns.map V.int)∧SqL K H b (ms.map V.int)∧Q (.bl (!decide (ns=ms))) H
theorem op_eqL (hu:X.A.units+64<cLine):OpR X (compareOp .Eq) (rEqL X.K):=by
 intro pins s σ H x y v u Q I rx ry h
 obtain ⟨a,b,ns,ms,rfl,rfl,ha,hb,q⟩:=h
 cases rx
 cases ry
 obtain ⟨va,ra,pa,_⟩:=I.list ha
 obtain ⟨vb,rb,pb,_⟩:=I.list hb
 exact PySem.W.eq_intsK pa.isList (intsAre_of ra) pb.isList (intsAre_of rb) hu ⟨.bl _,H,I,rfl,q⟩
theorem op_neL (hu:X.A.units+64<cLine):OpR X (compareOp .NotEq) (rNeL X.K):=by
 intro pins s σ H x y v u Q I rx ry h
 obtain ⟨a,b,ns,ms,rfl,rfl,ha,hb,q⟩:=h
 cases rx
 cases ry
 obtain ⟨va,ra,pa,_⟩:=I.list ha
 obtain ⟨vb,rb,pb,_⟩:=I.list hb
 exact PySem.W.ne_intsK pa.isList (intsAre_of ra) pb.isList (intsAre_of rb) hu ⟨.bl _,H,I,rfl,q⟩
end
theorem cxOf_K {CX:CXT} {P:Program} {w:World} {K:PySem.W.Frag} {mg:Str→Option Value} {base:Heap} {N:List Str} {qual:Str} {scope:Scope} {f:Addr} {cd:Value} {A:Around} {outer:List Env} {s:Shared} {H:Hp} {E:XK}:(cxOf CX P w K mg base N qual scope f cd A outer s H E).K=K:=rfl
theorem tr_K {X:Cx} {p:List (Addr × Obj)} {W:St→XK}:(X.tr p W).K=X.K:=rfl
theorem hdl_K {X:Cx} {v:Value}:(X.hdl v).K=X.K:=rfl
theorem passF {P:Program} {w:World} {X:Cx}:PassesX (CXF P w) X (fun _=>E0):=fun _ _ _ _ _ _ _ ⟨_,_,_,_,_,_,_,_,h⟩=>h.elim
theorem Same.new {H:Hp} {p:Addr} (h:H p=none) (o:HO):Same H (upd H p o):=fun b u q=>by rw [upd_ne (ne_of_none q h)];exact q
theorem upd_none {H:Hp} {p q:Addr} {o:HO} (h:upd H p o q=none):q≠p∧H q=none:=by
 have ne:q≠p:=fun z=>by rw [z,upd_same] at h;cases h
 rw [upd_ne ne] at h
 exact ⟨ne,h⟩
theorem small {n:Nat} (h:n≤1000):n≤sizeLine:=Nat.le_of_lt (small1000 h)
section
variable {X:Cx} {x:Str} {pos p:Pos} {a c:Expr} {ta tc:TE}
theorem pe_ty {n:String} (hg:Gl X x) (hm:X.mg x=none) (hv:bootBuiltins x=some (.type n)) (hn:x≠"__name__":=by decide) (hd:(x == ("__debug__":Str))=false:=by decide):PE X (.Name x pos) (tC (.ty n)) :=
 pe_bltn (v:=.ty n) hg hm hv rfl hn hd
theorem pe_cls {C:Addr} (hg:Gl X x) (hm:X.mg x=some (.ref C)) (hd:(x == ("__debug__":Str))=false:=by decide):PE X (.Name x pos) (tC (.ref C)):=pe_glob (v:=.ref C) hg hm rfl hd
theorem pe_const {i:Int} {t:Tok} (hg:Gl X x) (hm:X.mg x=some (.int i t)) (hd:(x == ("__debug__":Str))=false:=by decide):PE X (.Name x pos) (tC (.int i)):=pe_glob (v:=.int i) hg hm ⟨t,rfl⟩ hd
theorem pe_isi (hg:Gl X "isinstance") (hm:X.mg "isinstance"=none) (ha:PE X a ta) (hc:PE X c tc) (h1:starEach [a,c] X.env=(false,eval a X.env)::starEach [c] X.env:=by rfl) (h2:starEach [c] X.env=(false,eval c X.env)::starEach [] X.env:=by rfl)
  (h3:(backTo pos (starEach [c] X.env)).any (·.1)=false:=by rfl):PE X (.Call (.Name "isinstance" p) [a,c] [] pos) (tCB (rIsi X.K) (tCons ta (tCons tc tNil))) :=
 pe_callB call_isi hg hm PyProof.Rows.boot_isinstance (pa_cons ha (pa_cons hc pa_nil h2) h1) (by decide) (by decide) h1 h3
end
theorem tSeq_step {t u:TS} {D:Ends} {σ:St} {H:Hp}:tSeq t u D σ H=t { D with nx:=u D } σ H:=rfl
theorem cut {t u:TS} {D:Ends} {σ:St} {H:Hp} (Z:St→Hp→Prop) (h1:∀ N:St→Hp→Prop,(∀ σ' H',Z σ' H'→N σ' H')→t { D with nx:=N } σ H) (h2:∀ σ' H',Z σ' H'→u D σ' H'):tSeq t u D σ H:=h1 (u D) h2
def cutI (ns:List Int) (lo hi:Option Int):List Int:=(ns.drop (HT.sIx ns.length 0 lo)).take (HT.sIx ns.length ns.length hi - HT.sIx ns.length 0 lo)
theorem cutV_int (ns:List Int) (lo hi:Option Int):cutV (ns.map V.int) lo hi=(cutI ns lo hi).map V.int:=by
 unfold cutV cutI
 rw [Z1,List.map_take,List.map_drop]
theorem flat_rep (k:Nat) (v:V):(List.replicate k [v]).flatten=List.replicate k v:=by
 induction k with
 | zero=>rfl
 | succ k ih=>rw [Z24,List.flatten_cons,ih,Z24];rfl
def HasDef (K:PySem.W.Frag) (x:Str) (st:Stmt) (f:Addr):Prop:=(∃ fd,Fun K x x st f fd)∧PySem.W.nsIn K mainGlobals x=some (some (.ref f))
theorem def_mk {K:PySem.W.Frag} {x:Str} {st:Stmt} {f:Addr} {oc:Value} {od an:Option Addr} {osl:Array (Option Value)} {kV doc pm cdv ct:Value} (a:PySem.W.nsIn K mainGlobals x=some (some (.ref f)))
  (l:K.lookup f=some ⟨oc,od,.func (PySem.W.fnOf x x (defArgs st) (defBody st) (defScope st) .none kV doc pm an cdv ct),osl⟩) (c:PySem.W.codeIn K cdv x=true) (k:PySem.W.keepIn K (.ref f)=true):HasDef K x st f :=
 ⟨⟨_,fun_mk l c k⟩,a⟩
end L2
namespace L2
open PySem PySem.Spec PyProof.Rows
section
variable {X:Cx} {pins:List (Addr × Obj)} {σ:St} {H:Hp} {s:Shared} {h':Heap}
end
def tModComp (K:PySem.W.Frag) (ti:TE) (ig iy:Nat):TS:=fun D σ H=>∃ gv:Int,σ[ig]?=some (some (.int gv))∧0<gv∧ti σ H fun v H1=>∃ (a:Addr) (ns:List Int),v=.ref a∧SqL K H1 a (ns.map V.int) ∧
 ∀ p,H1 p=none→D.nx (σ.set iy (some (.ref p))) (upd H1 p (.lst ((ns.map (·%gv)).map V.int)))
section
variable {X:Cx} {x y g:Str} {px py p1 p2 p3 pos spos:Pos} {iter:Expr} {scope:Scope} {ti:TE} {ig iy:Nat} {c:Addr}
end
end L2
namespace L2
open PySem PySem.Spec PyProof.Rows
section
variable {prog:Program} {w:World} {A:Around} {E:Value→Shared→Prop} {K:PySem.W.Frag} {hp:Heap} {gs:Array GenState} {dr:Drawn} {tk:Nat} {oz:OsState}
variable {nm qn:Str} {c N:Addr} {bs tl bmB:List Value} {dy:Bool} {sn:List Str} {sub:List Value} {ab:Bool} {col:Option Bool} {dd:Option Addr} {k0 k1 k2 k3 k5:Option Value} {B nid iid:String}
theorem xi_tree (F:ExcBaseFacts B nid iid bmB) (T:OwnTail hp bmB tl) {mN:Str→Option Value} {us:List Value} {f:Addr} {Q:Fin→Shared→Prop} (kin:K.In hp)
  (hC:hp.get? c=some (excClassObj nm qn c N bs tl dy sn sub ab col dd k0 k1 k2 k3 k5 nid)) (hN:hp.Ns N mN) (hi:mN "__init__"=some (.ref f)) (hf:PySem.W.typeIn K (.ref f)=some (.type "function"))
  (k:∀ hp' e,hp.objs.size≤e→Heap.MadeExcOf hp hp' e (.ref c) us→wpAny (model prog w) A (call (.ref f) (.ref e::us)) (fun r s'=>r=.none∧Q (.done (.ret (.ref e))) s') E ⟨hp',gs,dr,tk,oz⟩) (hl:us.length≤sizeLine) :
  wpAny (model prog w) A (Builtin.«type.__call__» ⟨.ref c::us,[]⟩) Q E ⟨hp,gs,dr,tk,oz⟩:=by
 repeat (first | with_reducible refine wpAny_madeBy_exc hC ?_ | with_reducible refine wpAny_loadPart_at hC ?_ | wp_step)
 refine codeAny_call_builtin_code (Code.quiet_builtin _ F.quiet) (wpAny_check_new_subU F F.hasB T hC (codeAny_exc_new_subU F F.hasB F T hC ?_ hl))
 show wpAny _ _ _ _ _ _
 generalize e1:hp.push { cls:=.type "tuple",data:=.seq us.toArray }=hp1
 have s1:hp1.objs.size=hp.objs.size+1:=by rw [←e1,Heap.size_push]
 have u1:∀ b o,hp.get? b=some o→hp1.get? b=some o:=fun b o z=>by rw [←e1];exact Heap.get?_push_of_some _ z
 have t1:hp1.get? hp.objs.size=some { cls:=.type "tuple",data:=.seq us.toArray }:=by rw [←e1];exact Heap.get?_push_size hp rfl
 generalize e2:hp1.push { cls:=.ref c,data:=.fields #[.ref hp.objs.size,.none,.none,.none,.bool false,.none] }=hp2
 have u2:∀ b o,hp1.get? b=some o→hp2.get? b=some o:=fun b o z=>by rw [←e2];exact Heap.get?_push_of_some _ z
 have x2:hp2.get? (hp.objs.size+1)=some { cls:=.ref c,data:=.fields #[.ref hp.objs.size,.none,.none,.none,.bool false,.none] }:=by
  rw [←e2,←s1];exact Heap.get?_push_size hp1 rfl
 have u3:∀ b o,hp.get? b=some o→hp2.get? b=some o:=fun b o z=>u2 b o (u1 b o z)
 have C2:=u3 _ _ hC
 have N2:hp2.Ns N mN:=hN.keeps u3
 have T2:=T.keeps u3
 have kin2:K.In hp2:=fun b o z=>u3 b o (kin b o z)
 have cc:(Value.ref c::tl).contains (.ref c)=true:=by simp
 unfold isInstance
 repeat (first | with_reducible refine wpAny_loadPart_at x2 ?_ | (with_reducible refine wpAny_isSubtype_exc C2 ?_;rw [cc]) | wp_step)
 show wpAny _ _ (typeLookup (.ref c) _) _ _ _
 refine wpAny_typeLookup_tail C2 N2 T2 F.mroIs F.init.lookup ?_
 rw [hi]
 refine wpAny_holding (wpAny_bind ((PySem.W.bind_fn kin2 _ hf).at ?_))
 have made:Heap.MadeExcOf hp hp2 (hp.objs.size+1) (.ref c) us:=⟨u3,Heap.get?_none_of_le (Nat.le_succ _),hp.objs.size,x2,Heap.get?_none_of_le (Nat.le_refl _),u2 _ _ t1⟩
 refine wpAny_bind (wpAny_mono (k hp2 _ (Nat.le_succ _) made) (fun r s' hr=>?_) fun _ _ z=>z)
 obtain ⟨er,hQ⟩:=hr
 subst er
 wp_walk
 exact hQ
theorem xi_call (F:ExcBaseFacts B nid iid bmB) (T:OwnTail hp bmB tl) {mN:Str→Option Value} {us:List Value} {f:Addr} {Q:Value→Shared→Prop} (kin:K.In hp)
  (hC:hp.get? c=some (excClassObj nm qn c N bs tl dy sn sub ab col dd k0 k1 k2 k3 k5 nid)) (hN:hp.Ns N mN) (hi:mN "__init__"=some (.ref f)) (hf:PySem.W.typeIn K (.ref f)=some (.type "function"))
  (k:∀ hp' e,hp.objs.size≤e→Heap.MadeExcOf hp hp' e (.ref c) us→wpAny (model prog w) (A.under (.builtin "type.__call__" ⟨.ref c::us,[]⟩)) (call (.ref f) (.ref e::us)) (fun r s'=>r=.none∧Q (.ref e) s') E ⟨hp',gs,dr,tk,oz⟩) (hl:us.length≤sizeLine) :
  wpAny (model prog w) A (call (.ref c) us) Q E ⟨hp,gs,dr,tk,oz⟩:=by
 have z1:=tc_lookup
 have z2:=tc_bind (.ref c)
 have z3:(⟨hp,gs,dr,tk,oz⟩:Shared).TypeIs (.ref c) "type":=⟨_,hC,rfl⟩
 refine wpAny_call (codeAny_of_tree ?_)
 show wpAny _ _ (callAny (.ref c) _) _ _ _
 repeat (any_goals (first | assumption | with_reducible refine wpAny_loadPart_at hC ?_ | wp_step))
 refine ⟨rfl,codeAny_call_builtin_at (Code.quiet_builtin _ (by decide +kernel)) entry_typeCall (wpAny_check_type_call_sub hC (xi_tree F T kin hC hN hi hf (fun hp' e z m=>?_) hl))⟩
 exact k hp' e z m
end
def mroT (K:PySem.W.Frag) (C R:Addr):Bool:=(PySem.W.clsIn K C).any fun cd=>cd.mro == Value.ref C::Value.ref R::bmVE
structure XA (K:PySem.W.Frag) (C R:Addr) (f:Str):Prop where
 sa:PySem.W.findIn K (.ref C) "__setattr__"=some (some (.builtin "object.__setattr__"))
 hd:PySem.W.hasDictIn K C=true
 mr:mroT K C R=true
 no:PySem.W.findIn K (.ref C) f=some none
 ek:ExcK K C
section
variable {prog:Program} {w:World} {A:Around} {E:Value→Shared→Prop} {K:PySem.W.Frag} {s:Shared} {x C R:Addr} {ox:Obj} {vs:Array Value} {f:Str} {v:Value}
theorem xset_tree {Q:Unit→Shared→Prop} (kin:K.In s.heap) (c:XA K C R f) (hx:s.heap.get? x=some ox) (hc:ox.cls=.ref C) (hd:ox.data=.fields vs) (hn:ox.dict=none)
  (k:∀ h' dx,s.heap.get? dx=none→dx≠x→h'.get? x=some { ox with dict:=some dx }→h'.Ns1 dx (fun y=>if y=f then some v else none)→(∀ b o,b≠x→s.heap.get? b=some o→h'.get? b=some o)→Q () { s with heap:=h',toks:=s.toks+2 }) :
  wpAny (model prog w) A (setAttr (.ref x) f v) Q E s:=by
 obtain ⟨oc,od,dt,sl⟩:=ox
 dsimp only at hc hd hn
 subst hc hd hn
 have SF:=PySem.F.store_object
 have SV:=PySem.F.store_ValueError
 have I:PySem.W.InstAt s.heap x ⟨.ref C,none,.fields vs,sl⟩ C none:=⟨hx,rfl,rfl,trivial⟩
 refine PySem.W.set_plain kin I c.sa ?_
 obtain ⟨cd,hcd,hm0⟩:=PySem.W.any_some c.mr
 have hm1:cd.mro=Value.ref C::Value.ref R::bmVE:=beq_iff_eq.mp hm0
 obtain ⟨cd',hcd',hdd⟩:=PySem.W.any_some c.hd
 have ecd:cd'=cd:=Option.some.inj (hcd'.symm.trans hcd)
 subst ecd
 generalize es:({ s with toks:=s.toks+1 }:Shared)=s1
 have hp1:s1.heap=s.heap:=by rw [←es]
 have ty:PySem.W.Looks (model prog w) s1.heap (typeOf (.ref x)) (.ref C):=by rw [hp1];exact I.type
 have mo:PySem.W.Looks (model prog w) s1.heap (isInstance (.ref x) (.type "object")) true:=ty.andThen (by rw [hp1];exact PySem.W.looks_mroIn kin c.ek.mo)
 have ml:PySem.W.Looks (model prog w) s1.heap (mroOf (.ref C)) cd'.mro:=by rw [hp1];exact (PySem.W.looks_clsIn kin hcd).andThen .now
 have lf:PySem.W.Looks (model prog w) s1.heap (typeLookup (.ref C) f) none:=by rw [hp1];exact PySem.W.looks_findIn kin c.no
 refine codeAny_call_builtin SF.slot.plain SF.entry (@PySem.W.check_slot (model prog w) _ _ s1 "object.__setattr__" "object" "__setattr__" (.ref x) [.str f s.toks,v] [] _ SF.kind SF.split mo (SF.args (.ref x) (.str f s.toks) v) ?_)
 rw [PySem.W.osa_eq,refuse_eq]
 refine wpAny_bind (wpAny_bind (ty.here (wpAny_bind (ml.here ?_))))
 rw [hm1,refuseLoop_ref,refuseLoop_ref,SV.passes]
 refine wpAny_pure (wpAny_bind (ty.here (wpAny_bind (lf.here (wpAny_bind ?_)))))
 refine wpAny_pure (a:=(none:Option Value)) ?_
 have hx1:s1.heap.get? x=some ⟨.ref C,none,.fields vs,sl⟩:=by rw [hp1];exact hx
 have lc:PySem.W.Looks (model prog w) s1.heap (classData C) cd':=by rw [hp1];exact PySem.W.looks_clsIn kin hcd
 refine wpAny_bind (wpAny_pure (wpAny_bind (wpAny_bind (wpAny_loadPart hx1 (wpAny_bind (lc.here ?_))))))
 rw [hdd]
 have nx:x≠s1.heap.objs.size:=Nat.ne_of_lt (Heap.lt_size hx1)
 have hx2:(s1.heap.push { cls:=.type "dict",data:=.dict #[] }).get? x=some ⟨.ref C,none,.fields vs,sl⟩:=Heap.get?_push_of_some _ hx1
 refine wpAny_bind (wpAny_alloc' (wpAny_bind (wpAny_update' hx2 (wpAny_pure ?_))))
 generalize e3:(s1.heap.push { cls:=.type "dict",data:=.dict #[] }).update x (fun o=>{ cls:=o.cls,dict:=some s1.heap.objs.size,data:=o.data,slots:=o.slots })=h3
 have d3:h3.get? s1.heap.objs.size=some { cls:=.type "dict",data:=.dict #[] }:=by rw [←e3];exact (Heap.get?_update_ne _ _ _ _ nx.symm).trans (Heap.get?_push_size s1.heap rfl)
 have x3:h3.get? x=some ⟨.ref C,some s1.heap.objs.size,.fields vs,sl⟩:=by rw [←e3];exact Heap.get?_update_self _ hx2 rfl
 have o3:∀ b o,b≠x→s1.heap.get? b=some o→h3.get? b=some o:=fun b o nb z=>by rw [←e3];exact (Heap.get?_update_ne _ _ _ _ nb).trans (Heap.get?_push_of_some _ z)
 have n3:h3.Ns s1.heap.objs.size (fun _=>none):=⟨_,#[],_,d3,rfl,fun e he=>absurd he (by simp),fun _=>rfl⟩
 show wpAny _ _ (Builtin.ObjectAttr.storeInDict s1.heap.objs.size (.str f s.toks) f v) _ _ _
 unfold Builtin.ObjectAttr.storeInDict Builtin.ObjectAttr.newKeyGuard
 refine wpAny_bind (wpAny_pure (wpAny_bind (wpAny_nsSet1 (Heap.Ns1.of_empty n3) fun h4 n4 sb=>?_)))
 obtain ⟨oD,esD,epD,hoD,hdD,hcD⟩:=n4.count (PySem.Within.cons f v PySem.Within.nil)
 refine wpAny_bind (wpAny_lookBehind hoD (by rw [hdD];exact pastItsLine_dict (Nat.le_trans hcD (by rw [List.length_cons,List.length_nil,sizeLine_eq];lia))) ?_)
 subst es
 exact wpAny_pure (k h4 _ (Heap.get?_none_of_le (Nat.le_refl _)) nx.symm ((sb.2 x nx).trans x3) n4 fun b o nb z=>(sb.2 b (Nat.ne_of_lt (Heap.lt_size z))).trans (o3 b o nb z))
end
def drop (H:Hp) (a:Addr):Hp:=fun b=>if b=a then none else H b
theorem drop_same {H:Hp} {a:Addr}:drop H a a=none:=by unfold drop;rw [if_pos rfl]
theorem drop_ne {H:Hp} {a b:Addr} (h:b≠a):drop H a b=H b:=by unfold drop;rw [if_neg h]
theorem drop_some {H:Hp} {a b:Addr} {o:HO} (h:drop H a b=some o):b≠a∧H b=some o:=by
 have ne:b≠a:=fun z=>by rw [z,drop_same] at h;cases h
 rw [drop_ne ne] at h
 exact ⟨ne,h⟩
section
variable {X:Cx} {pins:List (Addr × Obj)} {σ:St} {H:Hp} {s:Shared} {A:Around} {E:Value→Shared→Prop} {a C R dx:Addr} {f:Str} {n:Bool}
theorem xset_ok {y:V} {u:Value} {Q:Unit→Shared→Prop} (I:Inv X pins σ H s) (e:H a=some (exo a (.ref C) none n)) (c:XA X.K C R f) (ry:RelV y u)
  (h:∀ dx s',H dx=none→Inv X pins σ (upd (upd H a (exo a (.ref C) (some dx) n)) dx (.xd [(f,y)])) s'→Q () s'):wpAny (model X.prog X.w) A (setAttr (.ref a) f u) Q E s:=by
 obtain ⟨⟨ox,vs,hx,hc,hd,hn,hfr⟩,_,_⟩:=(show ObjOk X.prog X.w H s.heap a (.ext (excIs a (.ref C) none n)) from I.hok a _ e)
 refine xset_tree I.kIn c hx hc hd hn fun h' dx nd ne x1 n1 k1=>?_
 have hdx:H dx=none:=by
  cases q:H dx with
  | none=>rfl
  | some o =>
   obtain ⟨ob,z⟩:=(I.hok dx o q).somewhere
   rw [nd] at z;cases z
 have na:∀ b,H b=none→b≠a:=fun b z w=>by rw [w,e] at z;cases z
 have nb:∀ b o,s.heap.get? b=some o→b≠dx:=fun b o z w=>by rw [w,nd] at z;cases z
 have nh:∀ b o,H b=some o→b≠dx:=fun b o z=>ne_of_none z hdx
 have at2:∀ b,b≠a→b≠dx→upd (upd H a (exo a (.ref C) (some dx) n)) dx (.xd [(f,y)]) b=H b:=fun b z1 z2=>by rw [upd_ne z2,upd_ne z1]
 refine h dx _ hdx (I.un (h':=h') (t':=s.toks+2) ⟨fun b o q z _ _=>k1 b o (na b z) q,fun b o q z _ _=>⟨o.slots,k1 b o (na b z) q⟩,fun b o q z _=>by rw [at2 b (na b z) (nb b o q)];exact z,fun b o q _=>?_,fun b xs q=>?_,fun b o v q=>?_,fun b ps q=>?_⟩ fun b v q=>?_)
 ·by_cases w:b=a
  ·rw [w];exact ⟨_,x1⟩
  ·exact ⟨o,k1 b o w q⟩
 ·rw [at2 b (fun w=>by rw [w,e] at q;cases q) (nh b _ q)];exact q
 ·rw [at2 b (fun w=>by rw [w,e] at q;cases q) (nh b _ q)];exact q
 ·exact ⟨#[],by rw [at2 b (fun w=>by rw [w,e] at q;cases q) (nh b _ q),q];simp⟩
 ·by_cases w:b=dx
  ·rw [w,upd_same] at q
   cases q
   rw [w]
   refine ⟨_,n1,fun g=>?_⟩
   by_cases z:g=f
   ·rw [z,if_pos rfl,List.lookup_cons_self];exact ry
   ·rw [if_neg z,List.lookup_cons,beq_false_of_ne z];exact True.intro
  ·rw [upd_ne w] at q
   by_cases z:b=a
   ·rw [z,upd_same] at q
    cases q
    rw [z]
    exact ⟨⟨_,vs,x1,hc,hd,rfl,hfr⟩,⟨_,x1⟩,fun h1 h2 ⟨o,ws,e,r⟩ k=>⟨o,ws,k o e,r⟩⟩
   ·rw [upd_ne z] at q
    refine (I.hok b v q).stay (fun c2 o hc2 r=>k1 c2 o ?_ r) (fun c2 r=>by rw [at2 c2 (fun w2=>by rw [w2,e] at r;cases r) (nh c2 _ r)];exact r) fun c2 xs r=>by rw [at2 c2 (fun w2=>by rw [w2,e] at r;cases r) (nh c2 _ r)];exact r
    rcases hc2 with w2 | w2
    ·rw [w2];exact z
    ·intro w3
     rw [w3,e] at w2;cases w2
end
def exI (K:PySem.W.Frag) (C f:Addr):Bool:=(K.lookup C).any fun o=>match o with
 | ⟨.type t,_,.cls d,sl⟩=>t == "type" && (match d.mro with
  | .ref c::tl=>c == C && PySem.W.tailIn K bmVE tl
  | _=>false) && (match sl.toList with
  | [_,_,_,_,some (.builtin m),_]=>m == "ValueError.__new__"
  | _=>false) && !d.hasDel && PySem.W.nsOkIn K d.ns && PySem.W.nsIn K d.ns "__init__" == some (some (.ref f))
 | _=>false
theorem ns_some {K:PySem.W.Frag} {h:Heap} {N:Addr} {m:Str→Option Value} {x:Str} {v:Value} (kin:K.In h) (g:h.Ns N m) (e:PySem.W.nsIn K N x=some (some v)):m x=some v:=by
 obtain ⟨o,es,ep,ho,hd,_,hf⟩:=g
 unfold PySem.W.nsIn at e
 split at e
 ·rename_i es' n' sl q
  have z:=kin _ _ q
  rw [ho] at z
  cases z
  cases hd
  split at e
  ·rename_i en he
   cases e
   rw [←hf]
   unfold nsFind findBy
   rw [←Array.find?_toList,he]
   rfl
  ·split at e <;> cases e
 ·cases e
theorem exi_obj {K:PySem.W.Frag} {h:Heap} {C f:Addr} (kin:K.In h) (q:exI K C f=true) :
  ∃ tl N nm qn bs dy sn sub ab col dd k0 k1 k2 k3 k5 mN,h.get? C=some (excClassObj nm qn C N bs tl dy sn sub ab col dd k0 k1 k2 k3 k5 "ValueError.__new__")∧h.Ns N mN∧mN "__init__"=some (.ref f)∧OwnTail h bmVE tl:=by
 unfold exI at q
 cases ho:K.lookup C with
 | none=>rw [ho] at q;cases q
 | some o =>
  rw [ho] at q
  simp only [Option.any_some] at q
  split at q
  next t dd d sl =>
   simp only [Bool.and_eq_true,beq_iff_eq,Bool.not_eq_true'] at q
   obtain ⟨⟨⟨⟨⟨e1,e2⟩,e3⟩,e4⟩,e5⟩,e6⟩:=q
   subst e1
   split at e2
   next c tl hm =>
    simp only [Bool.and_eq_true,beq_iff_eq] at e2
    obtain ⟨e7,e8⟩:=e2
    subst e7
    split at e3
    next k0 k1 k2 k3 m k5 hs =>
     simp only [beq_iff_eq] at e3
     subst e3
     obtain ⟨nm,bs,mro,N,qn,dy,sn,sub,ab,col,del⟩:=d
     dsimp only at hm e4 e5 e6
     subst hm e4
     have e9:sl=#[k0,k1,k2,k3,some (.builtin "ValueError.__new__"),k5]:=by
      obtain ⟨l⟩:=sl
      simp only at hs
      rw [hs]
     subst e9
     have g:h.Ns N (h.nsMap N):=.of_isNs (PySem.W.isNs_of_in kin e5)
     exact ⟨tl,N,nm,qn,bs,dy,sn,sub,ab,col,dd,k0,k1,k2,k3,k5,_,kin _ _ ho,g,ns_some kin g e6,PySem.W.tail_of_in kin e8⟩
    next=>cases e3
   next=>cases e2
  next=>cases q
structure XMk (K:PySem.W.Frag) (C f:Addr):Prop where
 ci:exI K C f=true
 fn:PySem.W.typeIn K (.ref f)=some (.type "function")
 kp:PySem.W.keepIn K (.ref C)=true
section
variable {X:Cx} {pins:List (Addr × Obj)} {σ:St} {H:Hp} {s:Shared} {C f:Addr} {k:Nat} {fd:FuncData} {ps:List Str} {sp:Sp} {us:List Value} {vs:List V}
theorem run_newx {Q:VK} (M:XMk X.K C f) (F:FnOk X.prog X.w X.K X.mg X.base (CXF X.prog X.w) k f fd ps sp) (hr:Room (k+1) X.A) (hb:Binds X.K fd ps []) (I:Inv X pins σ H s) (r:Vals vs us) (hz:vs.length≤sizeLine)
  (h:∀ a,H a=none→sp (.ref a::vs) (upd H a (exo a (.ref C) none true)) (fun v H2=>v=.non∧Q (.ref a) H2) E0) :
  wpAny (model X.prog X.w) X.A (call (.ref C) us) (fun v s'=>∃ a H',v=.ref a∧s.heap.get? a=none∧Inv X pins σ H' s'∧Q (.ref a) H') X.xe s:=by
 obtain ⟨tl,N,nm,qn,bs,dy,sn,sub,ab,col,dd,k0,k1,k2,k3,k5,mN,hO,hN,hi,T⟩:=exi_obj I.kIn M.ci
 obtain ⟨hp,g,d,t,os⟩:=s
 refine xi_call PySem.F.excBase_ValueError T I.kIn hO hN hi M.fn (fun hp' e hsz m=>?_) (by rw [←r.length];exact hz)
 obtain ⟨t',he,ht,_⟩:=m.there
 have I2:Inv X pins σ (upd H e (exo e (.ref C) none true)) ⟨hp',g,d,t,os⟩:=I.laid (t':=t) m.keeps hsz
  ⟨⟨_,_,he,rfl,rfl,rfl,fun _=>⟨t',rfl⟩⟩,⟨_,he⟩,fun h1 h2 ⟨o,ws,e,r⟩ k=>⟨o,ws,k o e,r⟩⟩
 have hq:=h e (I.hok.fresh hsz)
 have r2:Vals (V.ref e::vs) (Value.ref e::us):=.cons rfl r
 have hl:(Value.ref e::us++[]).length=ps.length:=by
  rw [List.append_nil,←r2.length]
  exact F.len _ _ _ _ hq
 have bb:=hb ⟨hp',g,d,t,os⟩ (Value.ref e::us) I2.kIn hl
 rw [List.append_nil] at bb
 refine wpAny_call (codeAny_mono (F.run _ X.stack _ _ ⟨Value.ref e::us,[]⟩ (Value.ref e::us) _ _ E0 (hr.make C us []) (I2.env0.make C us []) bb r2 hq) fun rs s2 hq2=>?_)
 rcases rs with er | fl
 ·obtain ⟨_,_,_,_,_,_,_,_,z⟩:=hq2
  exact z.elim
 ·cases fl with
  | ret u =>
   obtain ⟨v,H',I3,rv,ev,q3⟩:=I2.after hq2
   subst ev
   exact ⟨rv,e,H',rfl,m.new,I3,q3⟩
  | next=>exact False.elim hq2
  | brk=>exact False.elim hq2
  | cont=>exact False.elim hq2
end
def tNewX (C:Addr) (sp:Sp) (t:TA):TE:=fun σ H Q=>t σ H fun vs H1=>vs.length≤sizeLine∧∀ a,H1 a=none→sp (.ref a::vs) (upd H1 a (exo a (.ref C) none true)) (fun v H2=>v=.non∧Q (.ref a) H2) E0
def tRaiseI (C:Addr) (sp:Sp) (E:XK) (t:TA):TS:=fun _ σ H=>tNewX C sp t σ H fun v H2=>∃ a D,v=.ref a∧H2 a=some (exo a (.ref C) D true)∧E (.ref C) D (drop H2 a)
def tXat (K:PySem.W.Frag) (ta:TE) (f:Str):TE:=fun σ H Q=>ta σ H fun x H1=>∃ a C R dx n fs v,x=.ref a∧H1 a=some (exo a (.ref C) (some dx) n)∧H1 dx=some (.xd fs)∧XA K C R f∧fs.lookup f=some v∧Q v H1
def sXat (K:PySem.W.Frag) (ta tv:TE) (f:Str):TS:=fun D σ H=>tv σ H fun y H1=>ta σ H1 fun x H2=>∃ a C R n,x=.ref a∧H2 a=some (exo a (.ref C) none n)∧XA K C R f∧∀ dx,H2 dx=none→D.nx σ (upd (upd H2 a (exo a (.ref C) (some dx) n)) dx (.xd [(f,y)]))
def RaisesI (X:Cx) (C:Value) (E:XK):Prop:=∀ (pins:List (Addr × Obj)) (σ:St) (H:Hp) (s:Shared) (a:Addr) (D:Option Addr),Inv X pins σ H s→X.s₀.heap.get? a=none→H a=some (exo a C D true)→E C D (drop H a)→X.xe (.ref a) s
section
variable {P:Program} {w:World} {K:PySem.W.Frag} {mg:Str→Option Value} {base:Heap} {N:List Str} {qual:Str} {scope:Scope} {f:Addr} {cd:Value} {A:Around} {outer:List Env} {s:Shared} {H:Hp} {E:XK}
theorem raisesI_body {nc:Bool} {C:Value}:RaisesI (cxOf (CXC nc P w) P w K mg base N qual scope f cd A outer s H E) C E:=by
 intro pins σ H1 s1 a D I ha0 ea hE
 generalize hX:cxOf (CXC nc P w) P w K mg base N qual scope f cd A outer s H E=X at I ha0 ⊢
 have hst:X.stack=X.env::X.outer:=by rw [←hX];rfl
 have hfr:X.env.frame=some X.env.locals:=by rw [←hX];rfl
 have hxe:X.xe=fun e s'=>wpAny (model P w) X.A (leaving X.env e) (fun _ s''=>CXC nc P w X.outer X.H₀ X.s₀ E e s'') (fun e' s''=>CXC nc P w X.outer X.H₀ X.s₀ E e' s'') s':=by rw [←hX];rfl
 have hex:X.ex=[]:=by rw [←hX];rfl
 have hp:X.prog=P:=by rw [←hX];rfl
 have hw:X.w=w:=by rw [←hX];rfl
 subst hp hw
 rw [hxe]
 obtain ⟨⟨oe,vs,he,hcl,hd,hdt,hfs⟩,_,_⟩:=(show ObjOk X.prog X.w H1 s1.heap a (.ext (excIs a C D true)) from I.hok a _ ea)
 obtain ⟨t,hv⟩:=hfs rfl
 subst hv hcl
 have fr:=I.stack
 have hin:∀ env∈X.stack,∀ b,env.frame=some b→b∈a::frs X.stack:=fun env he b hb=>List.mem_cons_of_mem _ (List.mem_filterMap.mpr ⟨env,he,hb⟩)
 have fr':s1.heap.FunFrames (PySem.W.hideAll s1.heap (a::frs X.stack)) (X.env::X.outer):=by rw [←hst];exact PySem.W.funFrames_hide fr hin
 have hen:(PySem.W.hideAll s1.heap (a::frs X.stack)).get? a=none:=PySem.W.hideAll_none _ (List.mem_cons_self ..)
 refine wpAny_mono (KT.run (kt_leaving _ _) (wpAny_leaving_firstW (Q:=fun _ s2=>∃ h2,s2={ s1 with heap:=h2 }∧Heap.LeftW (PySem.W.hideAll s1.heap (a::frs X.stack)) (X.env::X.outer) a oe.cls (.ref t) s1.heap h2) (E:=fun _ _=>False) (a0:=.ref t) (by rw [←hst];exact I.ok.frames) fr' hfr he (fun b o q=>PySem.W.of_hideAll _ q) hen hd rfl rfl fun h2 z=>⟨h2,rfl,z⟩)) (fun _ s2 q=>?_) fun _ _ q=>q.1.elim
 obtain ⟨⟨h2,rfl,k1,⟨k0,kk,k2⟩,k3,k4⟩,dk⟩:=q
 have fl:Heap.FlyingW (PySem.W.hideAll s1.heap (a::frs X.stack)) X.outer a oe.cls (.ref t) h2:=⟨k1,hen,k2,k3⟩
 have naf:a∉frs X.stack:=fun z=>by
  have y:=I.stkFree a z
  rw [ea] at y;cases y
 have nin:∀ b,b∉frs X.stack→b≠a→b∉a::frs X.stack:=fun b z1 z2 z=>(List.mem_cons.mp z).elim z2 z1
 have kept:∀ b o,s1.heap.get? b=some o→b∉frs X.stack→b≠a→h2.get? b=some o:=fun b o q hb hn=>k1 b o (PySem.W.hideAll_get _ q (nin b hb hn))
 have nea:∀ b,H1 b=none→b≠a:=fun b z w=>by rw [w,ea] at z;cases z
 have slt:∀ b o,s1.heap.get? b=some o→b∈frs X.stack→∃ sl,h2.get? b=some { o with slots:=sl }:=fun b o q hb=>k4 b o q (I.frameData q hb)
 obtain ⟨ob,hob,_⟩:=fl.there
 have un1:Un (frs X.stack) [] H1 (drop H1 a) s1.heap h2:=⟨fun b o q z hb _=>kept b o q hb (nea b z),fun b o q _ hb _=>slt b o q hb,fun b o q z _=>by rw [drop_ne (nea b z)];exact z,fun b o q _=>by
  by_cases hb:b∈frs X.stack
  ·obtain ⟨sl,z⟩:=slt b o q hb
   exact ⟨_,z⟩
  ·by_cases hn:b=a
   ·rw [hn];exact ⟨ob,hob⟩
   ·exact ⟨o,kept b o q hb hn⟩,fun b xs q=>by rw [drop_ne fun z=>by rw [z,ea] at q;cases q];exact q,fun b o u q=>by rw [drop_ne fun z=>by rw [z,ea] at q;cases q];exact q,fun b ps q=>⟨#[],by rw [drop_ne (fun z=>by rw [z,ea] at q;cases q),q];simp⟩⟩
 have hok1:HOk X.prog X.w (drop H1 a) h2:=fun b u q=>by
  obtain ⟨hn,q'⟩:=drop_some q
  refine (I.hok b u q').stay (fun c v hc r=>?_) (fun c z=>by rw [drop_ne fun z2=>by rw [z2,ea] at z;cases z];exact z) fun c xs z=>by rw [drop_ne fun z2=>by rw [z2,ea] at z;cases z];exact z
  rcases hc with z | z
  ·refine kept c v r (fun y=>?_) (by rw [z];exact hn)
   have y':=I.stkFree c y
   rw [z,q'] at y';cases y'
  ·refine kept c v r (fun y=>?_) fun y=>?_
   ·have y':=I.stkFree c y
    rw [z] at y';cases y'
   ·rw [y,ea] at z;cases z
 have J:Inv X pins σ (drop H1 a) { s1 with heap:=h2,toks:=s1.toks }:=I.call (g':=s1.gens) (d':=s1.drawn) (ch:=[]) un1 hok1 I.bare fun b z=>absurd z (by simp)
 have un:Un (frs X.outer) [] X.H₀ (drop H1 a) X.s₀.heap h2:=by have z:=J.base;rw [hex] at z;exact z
 refine ⟨a,oe.cls,.ref t,D,_,drop H1 a,rfl,⟨J.os,J.bare,un,J.hok,fl,fun b o q hb o' q'=>?_,fun b u q o' q'=>?_,⟨ob,hob,(dk.get he hob).1.trans hdt⟩,fun _=>⟨ob,hob,(dk.get he hob).2.trans (by unfold ctxOf;rw [hd];rfl)⟩⟩,hE⟩
 ·obtain ⟨o1,q1⟩:=I.base.there b o q (by rw [hex];simp)
  have hn:b∉frs X.stack:=fun z=>by
   rcases List.mem_cons.mp (I.stkSub b z) with y | y
   ·exact absurd (Nat.lt_of_lt_of_le (Heap.lt_size q) I.ok.above) (by rw [y];exact Nat.lt_irrefl _)
   ·exact hb y
  have hne:b≠a:=fun z=>by rw [z,ha0] at q;cases q
  have q2:=kept b o1 q1 hn hne
  rw [q'] at q2;cases q2
  exact PySem.W.hideAll_get _ q1 (nin b hn hne)
 ·obtain ⟨hne,qq⟩:=drop_some q
  have hn:b∉frs X.stack:=fun z=>by
   have y:=I.stkFree b z
   rw [qq] at y;cases y
  obtain ⟨o1,r⟩:=(I.hok b u qq).somewhere
  have q2:=kept b o1 r hn hne
  rw [q'] at q2;cases q2
  exact PySem.W.hideAll_get _ r (nin b hn hne)
end
section
variable {M:Model} {A:Around} {E:Value→Shared→Prop} {s:Shared} {env:Env} {nm qn:Str} {C N:Addr} {bs tl:List Value} {dy:Bool} {sn:List Str} {sub:List Value} {ab:Bool} {col:Option Bool} {dd:Option Addr} {k0 k1 k2 k3 k5:Option Value} {nid:String}
theorem raise_made {x:Sem Value} {Q:Flow→Shared→Prop} (hb:tl.contains (.type "BaseException")=true) (hh:A.handled=none)
  (h:wpAny M A x (fun v s1=>∃ (a t:Addr) (D:Option Addr) (sl:Array (Option Value)),v=.ref a∧s1.heap.get? C=some (excClassObj nm qn C N bs tl dy sn sub ab col dd k0 k1 k2 k3 k5 nid) ∧
   s1.heap.get? a=some ⟨.ref C,D,.fields #[.ref t,.none,.none,.none,.bool false,.none],sl⟩∧E (.ref a) s1) E s):wpAny M A (raiseStmt env (some x) none) Q E s:=by
 have hcB:(Value.ref C::tl).contains (.type "BaseException")=true:=by rw [List.contains_cons,hb,Bool.or_true]
 unfold raiseStmt
 refine wpAny_bind (wpAny_mono h (fun v s1 h1=>?_) fun _ _ x=>x)
 obtain ⟨a,t,D,sl,rfl,hC,he,hE⟩:=h1
 obtain ⟨hp,g,d,tk,os⟩:=s1
 repeat (first | with_reducible refine wpAny_loadPart_at hC ?_ | with_reducible refine wpAny_loadPart_at he ?_ | (with_reducible refine wpAny_isSubtype_exc hC ?_;rw [hcB]) | wp_step)
 exact wpAny_raiseNew_none hh hE
end
section
variable {X:Cx} {C f:Addr} {k:Nat} {fd:FuncData} {ps:List Str} {sp:Sp} {x fld:Str} {E:XK} {e o value:Expr} {es:List Expr} {t:TA} {ta tv:TE} {np cpos pos pos':Pos}
theorem ps_raiseI (hc:X.calm=true) (M:XMk X.K C f) (F:FnOk X.prog X.w X.K X.mg X.base (CXF X.prog X.w) k f fd ps sp) (hr:Room (k+1) X.A) (hb:Binds X.K fd ps []) (hg:Gl X x) (hm:X.mg x=some (.ref C)) (hx:RaisesI X (.ref C) E) (ha:PA X (e::es) t) (hex:X.ex=[]:=by rfl)
  (hdb:(x == ("__debug__":Str))=false:=by decide) (he:starEach (e::es) X.env=(false,eval e X.env)::starEach es X.env:=by rfl) (hpl:(backTo cpos (starEach es X.env)).any (·.1)=false:=by rfl) :
  PS X (.Raise (some (.Call (.Name x np) (e::es) [] cpos)) none pos) (tRaiseI C sp E t):=by
 intro pins s σ H D I h
 obtain ⟨tl,N,nm,qn,bs,dy,sn,sub,ab,col,dd,k0,k1,k2,k3,k5,mN,hO,hN,hni,T⟩:=exi_obj I.mod.kin M.ci
 have FB:=PySem.F.excBase_ValueError
 rw [arm_exec_Raise]
 have call:wpAny (model X.prog X.w) X.A (eval (.Call (.Name x np) (e::es) [] cpos) X.env) (fun v s2=>∃ (a t:Addr) (D:Option Addr) (sl:Array (Option Value)),v=.ref a∧s2.heap.get? C=some (excClassObj nm qn C N bs tl dy sn sub ab col dd k0 k1 k2 k3 k5 "ValueError.__new__") ∧
   s2.heap.get? a=some ⟨.ref C,D,.fields #[.ref t,.none,.none,.none,.bool false,.none],sl⟩∧X.xe (.ref a) s2) X.xe s:=by
  refine wpAny_Call_Name_kw (ld_glob I hg hm ?_ hdb)
  refine PySem.W.callWith_K (h₀:=X.base) I.ok.mod.kin M.kp (thn (ha cpos pins s σ H _ I h) fun us s1 ⟨vs,H1,I1,r,hz,q⟩=>⟨I1.kIn,?_⟩) he hpl
  refine thn (run_newx (Q:=fun v H2=>∃ a D,v=.ref a∧H2 a=some (exo a (.ref C) D true)∧E (.ref C) D (drop H2 a)) M F hr hb I1 r hz q) fun v s2 z=>?_
  obtain ⟨a,H2,ev,hn,I2,a',D',ea',h2,hE⟩:=z
  cases ea'
  obtain ⟨⟨oe,vs',he',hcl,hd,hdt,hfs⟩,_,_⟩:=(show ObjOk X.prog X.w H2 s2.heap a (.ext (excIs a (.ref C) D' true)) from I2.hok a _ h2)
  obtain ⟨t',hv⟩:=hfs rfl
  subst hv
  obtain ⟨c1,c2,c3,c4⟩:=oe
  dsimp only at hcl hd hdt
  subst hcl hd hdt
  refine ⟨a,t',_,_,ev,I2.bk _ _ hO,he',hx pins σ H2 s2 a _ I2 ?_ h2 hE⟩
  cases q0:X.s₀.heap.get? a with
  | none=>rfl
  | some o0 =>
   obtain ⟨o1,q1⟩:=I1.base.there a o0 q0 (by rw [hex];simp)
   rw [hn] at q1;cases q1
 exact wpAny_bind (wpAny_standAt (raise_made (C:=C) (nm:=nm) (qn:=qn) (N:=N) (bs:=bs) (tl:=tl) (dy:=dy) (sn:=sn) (sub:=sub) (ab:=ab) (col:=col) (dd:=dd) (k0:=k0) (k1:=k1) (k2:=k2) (k3:=k3) (k5:=k5) (nid:="ValueError.__new__") (T.hasType FB.hasBase) (I.ok.hd hc)
  (wpAny_bind (wpAny_mono call (fun v s3 h3=>wpAny_bind (wpAny_standAt (wpAny_pure h3))) fun _ _ z=>z))))
theorem ps_xat (ha:PE X o ta) (hv:PE X value tv) (hs:swapsWith value (some (.Attribute o fld pos')) pos.line X.env=pure false:=by rfl):PS X (.Assign [.Attribute o fld pos'] value pos) (sXat X.K ta tv fld):=by
 intro pins s σ H D I h
 refine plainObj_wpAny_Assign_Attribute (thn (hv pins s σ H _ I h) fun u s1 ⟨y,H1,I1,ry,q⟩=>thn (ha pins s1 σ H1 _ I1 q) fun ov s2 ⟨x,H2,I2,rx,a,C,R,n,ex,ea,c,q2⟩=>?_) hs
 subst ex
 obtain rfl:ov=Value.ref a:=rx
 exact xset_ok I2 ea c ry fun dx s3 hdx I3=>⟨σ,_,I3,q2 dx hdx⟩
end
end L2
namespace L2
open PySem PySem.Spec PyProof.Rows
section
variable {X:Cx} {pins:List (Addr × Obj)} {σ:St} {H:Hp} {s:Shared} {h':Heap}
theorem Inv.turnedNew {t':Nat} {ch:List Addr} {p:Addr} {o:HO} (I:Inv X pins σ H s) (hf:∀ b∈ch,FpOk X pins H b) (k:∀ b u,b∉ch→s.heap.get? b=some u→h'.get? b=some u) (hp:s.heap.objs.size≤p)
  (new:ObjOk X.prog X.w (upd H p o) h' p o):Inv X pins σ (upd H p o) { s with heap:=h',toks:=t' }:=by
 have hpn:H p=none:=I.hok.fresh hp
 have nit:∀ b u,H b=some u→b∉ch:=fun b u e z=>by rw [(hf b z).1] at e;cases e
 have np:∀ b u,s.heap.get? b=some u→b≠p:=fun b u e=>Nat.ne_of_lt (Nat.lt_of_lt_of_le (Heap.lt_size e) hp)
 refine I.step (g':=s.gens) (d':=s.drawn) (ch:=ch) (fun b hb=>⟨(hf b hb).2.2.2.1,(hf b hb).2.1,(hf b hb).2.2.2.2.1,(hf b hb).2.2.2.2.2⟩) (fun b u _ _ hc e _=>k b u hc e) (fun b u _ _ hc e _=>⟨u.slots,k b u hc e⟩)
  (fun b u _ e n=>by rw [upd_ne (np b u e)];exact n) (fun b u hc e=>⟨u,k b u hc e⟩) (fun b xs e=>by rw [upd_ne (ne_of_none e hpn)];exact e) (fun b u v e=>by rw [upd_ne (ne_of_none e hpn)];exact e)
  (fun b ps e=>⟨#[],by rw [upd_ne (ne_of_none e hpn),e];simp⟩) (fun m hm=>?_) (fun b u e=>?_) I.bare
 ·obtain ⟨o,es,ep,ho,r⟩:=hm
  exact ⟨o,es,ep,k _ o (fun z=>(hf _ z).2.1 rfl) ho,r⟩
 ·by_cases z:b=p
  ·subst z
   rw [upd_same] at e
   cases e
   exact new
  ·rw [upd_ne z] at e
   refine (I.hok b u e).stay (fun c v hc q=>k c v ?_ q) (fun c q=>by rw [upd_ne (ne_of_none q hpn)];exact q) fun c xs q=>by rw [upd_ne (ne_of_none q hpn)];exact q
   rcases hc with y | y
   ·rw [y];exact nit b u e
   ·exact nit c _ y
end
def Ite (K:PySem.W.Frag) (a:Addr):It :=
 ⟨fun i H=>∃ xs x,SqL K H a xs∧xs[i]?=some x,fun i H v H'=>∃ p x,v=.ref p∧H p=none∧H'=upd H p (.tup [.int i,x])∧∀ xs,SqL K H a xs→xs[i]?=some x,fun i H=>∃ xs,SqL K H a xs∧xs.length≤i⟩
theorem turn_enum {P:Program} {w:World} {K:PySem.W.Frag} {elts:List Expr} {ctx} {tpos:Pos} (a e it:Addr) (hne:e≠it) :
  Turn P w K (.Tuple elts ctx tpos) (Ite K a) [e,it] e (fun i h=>(∃ old,IsEnum h e it ((i:Nat):Int) old)∧h.IsListIter it a i) where
 mem:=by simp
 obj:=fun i h st b hb=>by
  obtain ⟨⟨old,q⟩,o,e1,c,d⟩:=st
  rcases List.mem_cons.mp hb with z | z
  ·rw [z];exact ⟨_,q,fun v y=>by cases y⟩
  ·rw [List.mem_singleton.mp z];exact ⟨o,e1,fun v y=>by rw [d] at y;cases y⟩
 keep:=fun i h h' st k=>by
  obtain ⟨⟨old,q⟩,li⟩:=st
  exact ⟨⟨old,k e (by simp) _ q⟩,li.at fun o z=>k it (by simp) o z⟩
 item:=by
  intro X hP hw hK hc i pins s σ H E I hf st hg
  subst hP hw hK
  obtain ⟨xs,x,hq,hx⟩:=hg
  obtain ⟨its,rv,p,hz⟩:=I.list hq
  obtain ⟨u,hu,ru⟩:=rv.get hx
  obtain ⟨⟨old,he⟩,li⟩:=st
  refine wpAny_pyNext_enum_item he li p.isList (x:=u) (by simpa using hu) hne fun h1 out li1 ht hsz k1=>?_
  refine ⟨_,rfl,wpAny_letOwnedTupleGo_enum out fun h2 he2 sb=>?_⟩
  have k2:∀ b o,b∉[e,it]→s.heap.get? b=some o→h2.get? b=some o:=fun b o hb z=>by
   have hb1:b≠e:=fun y=>hb (by simp [y])
   have hb2:b≠it:=fun y=>hb (by simp [y])
   exact (sb.2 b hb1).trans (k1 b o hb1 hb2 z)
  have hpe:s.heap.objs.size≠e:=Nat.ne_of_gt (Heap.lt_size he)
  have ht2:h2.get? s.heap.objs.size=some { cls:=.type "tuple",data:=.seq #[.int ((i:Nat):Int) s.toks,u] }:=(sb.2 _ hpe).trans ht
  have hn:H s.heap.objs.size=none:=I.hok.fresh (Nat.le_refl _)
  refine ⟨.ref s.heap.objs.size,upd H s.heap.objs.size (.tup [.int ((i:Nat):Int),x]),I.turnedNew (h':=h2) (t':=s.toks+1) hf k2 (Nat.le_refl _) ?_,rfl,⟨_,x,rfl,hn,rfl,fun ys hy=>by rw [I.list_inj hy hq];exact hx⟩,⟨⟨u,?_⟩,?_⟩,fun b hb=>?_⟩
  ·exact ⟨by show 2≤sizeLine;decide,[.int ((i:Nat):Int) s.toks,u],.cons ⟨_,rfl⟩ (.cons ru .nil),⟨_,ht2,rfl,_,rfl⟩⟩
  ·have ec:(((i+1:Nat)):Int)=((i:Nat):Int)+1:=by push_cast;rfl
   rw [ec];exact he2
  ·exact li1.at fun o z=>(sb.2 it (Ne.symm hne)).trans z
  ·have b0:=(hf b hb).1
   rw [upd_ne fun z=>?_]
   ·exact b0
   ·obtain ⟨o,z1,_⟩:=id li
    rcases List.mem_cons.mp hb with y | y
    ·exact hpe (z.symm.trans y)
    ·exact absurd (Heap.lt_size z1) (by rw [←List.mem_singleton.mp y,z];exact Nat.lt_irrefl _)
 done:=by
  intro X hP hw hK hc i pins s σ H E I hf st hg
  subst hP hw hK
  obtain ⟨xs,hq,hx⟩:=hg
  obtain ⟨its,rv,p,hz⟩:=I.list hq
  obtain ⟨⟨old,he⟩,li⟩:=st
  obtain ⟨f0,f1,f2,f3,f4,f5⟩:=hf it (by simp)
  have hl:=rv.length
  exact wpAny_pyNext_enum_end (I.ok.hd hc) he li p.isList (by simp;lia) fun h' eb=>⟨rfl,I.turned (t':=s.toks) (fun b o hb e=>eb b o hb e) f0 f1 f3 f4 f5⟩
 self:=fun _ _ _ _ _ st h=>by
  obtain ⟨⟨old,he⟩,_⟩:=st
  exact wpAny_pyIter_enum he h
section
variable {X:Cx} {elts:List Expr} {ctx} {tpos:Pos}
def iEnum (K:PySem.W.Frag) (ta:TA):TI:=fun σ H R=>ta σ H fun vs H1=>∃ a xs,vs=[.ref a]∧SqL K H1 a xs∧R (Ite K a) H1
theorem pi_enum {l:Expr} {ta:TA} {p pos:Pos} (hg:Gl X "enumerate") (hm:X.mg "enumerate"=none) (ha:PA X [l] ta) (hs:starEach [l] X.env=[(false,eval l X.env)]:=by rfl):PI X (.Tuple elts ctx tpos) (.Call (.Name "enumerate" p) [l] [] pos) (iEnum X.K ta):=by
 intro pins s σ H R I h
 refine Call_ (ld_blt I hg hm boot_enumerate (PyProof.Rows.callWith_type1 (thn (ha pos pins s σ H _ I h) fun us s1 ⟨vs,H1,I1,r1,q1⟩=>?_) hs rfl))
 obtain ⟨a,xs,e,hq,q⟩:=q1
 subst e
 cases r1 with
 | cons r rr =>
  cases rr
  cases r
  obtain ⟨its,rv,pl,hz⟩:=I1.list hq
  refine call_enumerate_list pl.isList fun h1 he li hsz k1=>?_
  refine wpAny_pyIter_enum he ?_
  have n1:H1 (s1.heap.objs.size+1)=none:=I1.hok.fresh (Nat.le_succ _)
  have n0:H1 s1.heap.objs.size=none:=I1.hok.fresh (Nat.le_refl _)
  refine ⟨s1.heap.objs.size+1,[s1.heap.objs.size+1,s1.heap.objs.size],_,_,H1,rfl,I1.kept (t':=s1.toks) k1,turn_enum a _ _ (Nat.succ_ne_self _),⟨⟨_,he⟩,li⟩,fun b hb=>?_,q⟩
  rcases List.mem_cons.mp hb with z | z
  ·rw [z];exact I1.fpOk (Nat.le_succ _) n1
  ·rw [List.mem_singleton.mp z];exact I1.fpOk (Nat.le_refl _) n0
theorem for_enum {K:PySem.W.Frag} {a:Addr} {xs:List V} {g:TG} {tb:TS} {D:Ends} {σ:St} {H:Hp} (Pv:Nat→St→Hp→Prop) (h0:Pv 0 σ H) (hl:∀ i σ H,i≤xs.length→Pv i σ H→SqL K H a xs)
  (hs:∀ i x p σ H,xs[i]?=some x→Pv i σ H→H p=none→g (.ref p) σ (upd H p (.tup [.int ((i:Nat):Int),x])) fun σ2 H2=>tb { D with nx:=Pv (i+1),ct:=Pv (i+1),bk:=D.nx } σ2 H2) (hd:∀ σ H,Pv xs.length σ H→D.nx σ H) :
  ∃ W:Nat→Nat→St→Hp→Prop,(∃ m,W 0 m σ H)∧∀ i m σ H,W i m σ H →
   ((Ite K a).stop i H∧D.nx σ H)∨((Ite K a).go i H∧∃ N:St→Hp→Prop,(∀ σ' H',N σ' H'→∃ m',m'<m∧W (i+1) m' σ' H')∧∀ x H',(Ite K a).yld i H x H'→g x σ H' fun σ2 H2=>tb { D with nx:=N,ct:=N,bk:=D.nx } σ2 H2):=by
 refine ⟨fun i m σ H=>m=xs.length - i∧i≤xs.length∧Pv i σ H,⟨xs.length,by simp,Nat.zero_le _,h0⟩,?_⟩
 rintro i m σ H ⟨rfl,hi,p⟩
 have q:=hl i σ H hi p
 by_cases hlt:i<xs.length
 ·refine .inr ⟨⟨xs,xs[i],q,by simp [hlt]⟩,Pv (i+1),fun σ' H' p'=>⟨xs.length - (i+1),by lia,rfl,hlt,p'⟩,fun v H' y=>?_⟩
  obtain ⟨p2,x,e1,e2,e3,y⟩:=y
  subst e1 e3
  exact hs i x p2 σ H (y xs q) p e2
 ·have e:i=xs.length:=by lia
  subst e
  exact .inl ⟨⟨xs,q,Nat.le_refl _⟩,hd σ H p⟩
end
def upto (n:Nat):List Int:=(List.range n).map fun i:Nat=>(i:Int)
section
variable {X:Cx}
def tLRange (ta:TA):TE:=fun σ H Q=>ta σ H fun vs H1=>∃ j:Int,vs=[.int j]∧0≤j∧j≤1000∧∀ p,H1 p=none→Q (.ref p) (upd H1 p (.lst ((upto j.toNat).map V.int)))
end
section
variable {X:Cx} {a:Expr} {cs:List Expr} {ta:TE} {tc:TA} {p pos tpos:Pos} {ctx}
def rIsiT (K:PySem.W.Frag):List V→Hp→VK→Prop
 | [x,c],H,Q=>∃ t tp vs us b,TyE K H x t∧c=.ref tp∧H tp=some (.tup vs)∧vs.map clsV=us.map some∧PySem.W.kitAny K t us=some b∧Q (.bl b) H
 | _,_,_=>False
theorem vals_cls:∀ {vs:List V} {its us:List Value},Vals vs its→vs.map clsV=us.map some→its=us
 | _,_,[],.nil,_=>rfl
 | _,_,_::_,.nil,e=>by simp at e
 | _,_,[],.cons _ _,e=>by simp at e
 | x::xs,_,u::us,.cons r rr,e=>by
  simp only [List.map_cons,List.cons.injEq] at e
  obtain ⟨e1,e2⟩:=e
  rw [vals_cls rr e2]
  congr 1
  cases x with
  | ty n=>cases e1;exact r
  | ref a=>cases e1;exact r
  | _=>cases e1
theorem kit_of {pins:List (Addr × Obj)} {σ:St} {H:Hp} {s:Shared} {x:V} {v t:Value} (I:Inv X pins σ H s) (rx:RelV x v) (ty:TyE X.K H x t):(∃ φ,PySem.W.KitX X.K v t φ∧φ s.heap)∧v≠.builtin "__main__.__loader__#opaque":=by
 cases ty with
 | of ty =>
  cases ty with
  | non=>cases (show v=Value.none from rx);exact ⟨⟨_,PySem.W.kitx_none,True.intro⟩,fun z=>nomatch z⟩
  | bl y=>cases (show v=Value.bool y from rx);exact ⟨⟨_,PySem.W.kitx_bool,True.intro⟩,fun z=>nomatch z⟩
  | int i=>obtain ⟨t,q⟩:=(show ∃ t,v=Value.int i t from rx);cases q;exact ⟨⟨_,PySem.W.kitx_int,True.intro⟩,fun z=>nomatch z⟩
  | str y=>obtain ⟨t,q⟩:=(show ∃ t,v=Value.str y t from rx);cases q;exact ⟨⟨_,PySem.W.kitx_str,True.intro⟩,fun z=>nomatch z⟩
  | flt y=>obtain ⟨t,q⟩:=(show ∃ t,v=Value.float y t from rx);cases q;exact ⟨⟨_,PySem.W.kitx_float,True.intro⟩,fun z=>nomatch z⟩
  | @lst a xs ea =>
   cases (show v=Value.ref a from rx)
   obtain ⟨_,_,n,_,h1⟩:=(show ObjOk X.prog X.w H s.heap a (.lst xs) from I.hok a _ ea)
   exact ⟨⟨_,PySem.W.kitx_list,⟨_,h1,rfl⟩⟩,fun z=>nomatch z⟩
  | @frz a ob xs ea =>
   cases (show v=Value.ref a from rx)
   obtain ⟨_,_,_,n,_,h1⟩:=(show ObjOk X.prog X.w H s.heap a (.frz ob (.lst xs)) from I.hok a _ ea)
   exact ⟨⟨_,PySem.W.kitx_list,⟨_,h1,rfl⟩⟩,fun z=>nomatch z⟩
  | @tup a xs ea =>
   cases (show v=Value.ref a from rx)
   obtain ⟨_,_,_,p⟩:=(show ObjOk X.prog X.w H s.heap a (.tup xs) from I.hok a _ ea)
   obtain ⟨o,h1,h2,_⟩:=p
   exact ⟨⟨_,PySem.W.kitx_tuple,⟨o,h1,h2⟩⟩,fun z=>nomatch z⟩
  | @dK a kvs ea =>
   cases (show v=Value.ref a from rx)
   obtain ⟨_,_,vs,_,p⟩:=(show ObjOk X.prog X.w H s.heap a (.dK kvs) from I.hok a _ ea)
   obtain ⟨o,es,ep,h1,h2,_⟩:=p
   exact ⟨⟨_,PySem.W.kitx_dict,⟨o,h1,h2.1⟩⟩,fun z=>nomatch z⟩
  | @dT a kvs ea =>
   cases (show v=Value.ref a from rx)
   obtain ⟨_,_,xs,_,o,es,ep,h1,h2,_⟩:=(show ObjOk X.prog X.w H s.heap a (.dT kvs) from I.hok a _ ea)
   exact ⟨⟨_,PySem.W.kitx_dict,⟨o,h1,h2.1⟩⟩,fun z=>nomatch z⟩
  | @ins a C dx fs ea cl ha hn htk hm =>
   cases (show v=Value.ref a from rx)
   obtain ⟨mA,O,_⟩:=ins_get I.hok ea
   obtain ⟨od,J,_⟩:=O.look
   exact ⟨⟨_,PySem.W.kitx_own (cl.get _) cl.hd ha hn htk hm,J⟩,fun z=>nomatch z⟩
 | @exc a D dy n e ck =>
  cases (show v=Value.ref a from rx)
  obtain ⟨x,_,_⟩:=(show ObjOk X.prog X.w H s.heap a (.ext (excIs a (.ref D) _ _)) from I.hok a _ e)
  exact ⟨⟨_,kitx_exc ck,x⟩,fun z=>nomatch z⟩
theorem call_isiT:CallR X (.builtin "isinstance") (rIsiT X.K):=by
 intro pins s σ H xs us Q I rv h
 match xs,h with
 | [x,c],h =>
 obtain ⟨t,tp,vs,ucs,b,ty,rfl,ht,hcs,k,q⟩:=h
 obtain ⟨v1,v2,rfl,r1,r2⟩:=vals2 rv
 cases (show v2=Value.ref tp from r2)
 obtain ⟨_,its,rits,o,ho,hcl,n,hd⟩:=(show ObjOk X.prog X.w H s.heap tp (.tup vs) from I.hok tp _ ht)
 obtain ⟨c1,c2,c3,c4⟩:=o
 dsimp only at hcl hd
 subst hcl hd
 have e:=vals_cls rits hcs
 subst e
 obtain ⟨⟨φ,Z,hφ⟩,hx⟩:=kit_of I r1 ty
 exact PySem.W.kia_tup Z I.kIn hφ ho k hx fun tk=>⟨.bl b,H,I.tok tk,rfl,q⟩
theorem pe_isiT (hg:Gl X "isinstance") (hm:X.mg "isinstance"=none) (ha:PE X a ta) (hc:PA X cs tc) (h1:starEach [a,.Tuple cs ctx tpos] X.env=(false,eval a X.env)::starEach [.Tuple cs ctx tpos] X.env:=by rfl)
  (h2:starEach [.Tuple cs ctx tpos] X.env=(false,eval (.Tuple cs ctx tpos) X.env)::starEach [] X.env:=by rfl)
  (h3:(backTo pos (starEach [.Tuple cs ctx tpos] X.env)).any (·.1)=false:=by rfl):PE X (.Call (.Name "isinstance" p) [a,.Tuple cs ctx tpos] [] pos) (tCB (rIsiT X.K) (tCons ta (tCons (tTup tc) tNil))) :=
 pe_callB call_isiT hg hm PyProof.Rows.boot_isinstance (pa_cons ha (pa_cons (pe_tup hc) pa_nil h2) h1) (by decide) (by decide) h1 h3
end
section
variable {K:PySem.W.Frag}
theorem ki_ii:PySem.W.kitOne K (.type "int") (.type "int")=some true:=by kernel_rfl
theorem ki_ib:PySem.W.kitOne K (.type "int") (.type "bool")=some false:=by kernel_rfl
theorem ki_bi:PySem.W.kitOne K (.type "bool") (.type "int")=some true:=by kernel_rfl
theorem ki_bb:PySem.W.kitOne K (.type "bool") (.type "bool")=some true:=by kernel_rfl
theorem ki_ni:PySem.W.kitOne K (.type "NoneType") (.type "int")=some false:=by kernel_rfl
theorem ki_si:PySem.W.kitOne K (.type "str") (.type "int")=some false:=by kernel_rfl
theorem ki_li:PySem.W.kitOne K (.type "list") (.type "int")=some false:=by kernel_rfl
theorem ki_ll:PySem.W.kitOne K (.type "list") (.type "list")=some true:=by kernel_rfl
theorem ki_tt:PySem.W.kitOne K (.type "tuple") (.type "tuple")=some true:=by kernel_rfl
theorem ki_tl:PySem.W.kitOne K (.type "tuple") (.type "list")=some false:=by kernel_rfl
theorem ki_ti:PySem.W.kitOne K (.type "tuple") (.type "int")=some false:=by kernel_rfl
end
end L2
namespace L2
open PySem PySem.Spec PyProof.Rows
structure Has (P:Program) (w:World) (K:PySem.W.Frag) (mg:Str→Option Value) (base:Heap) (k:Nat) (f:Addr) (ps:List Str) (sp:Sp):Prop where
 ex:∃ fd,FnOk P w K mg base (CXF P w) k f fd ps sp∧Binds K fd ps []
 kp:PySem.W.keepIn K (.ref f)=true
section
variable {P:Program} {w:World} {K:PySem.W.Frag} {mg:Str→Option Value} {base:Heap} {x qual:Str} {st:Stmt} {f:Addr} {fd:FuncData} {N ps:List Str} {k:Nat} {sp:Sp}
theorem Fun.ok0 (F:Fun K x qual st f fd) (S:FnScope N ps (defScope st)) (len:∀ vs H Q E,sp vs H Q E→vs.length=ps.length)
  (hbody:∀ (cdv:Value) (A:Around) (outer:List Env) (s:Shared) (H:Hp) (vs:List V) (Q:VK) (E:XK),Room k (A.deeper (envOfC qual (defScope st) s.heap.objs.size f cdv))→sp vs H Q E →
   ∃ t,PSs (cxOf (CXF P w) P w K mg base N qual (defScope st) f cdv A outer s H E).nox (defBody st) t∧t { nx:=fun _ H'=>Q .non H',rt:=Q } (start N vs) H):FnOk P w K mg base (CXF P w) (k+1) f fd ps sp :=
 F.okX S len fun cdv A outer s H vs Q E hr hsp=>by
  obtain ⟨t,h,q⟩:=hbody cdv A outer s H vs Q E hr hsp
  exact ⟨t,h.nox,q⟩
abbrev BindsAll (x qual:Str) (st:Stmt) (ps:List Str):Prop:=∀ (kV doc pm:Value) (an:Option Addr) (cdv ct:Value) (us:List Value),us.length=ps.length→bindArgs (PySem.W.fnOf x qual (defArgs st) (defBody st) (defScope st) .none kV doc pm an cdv ct) ⟨us,[]⟩=pure (ps.zip us)
theorem has_mk0 (D:∃ fd,Fun K x qual st f fd) (S:FnScope N ps (defScope st)) (bd:BindsAll x qual st ps) (len:∀ vs H Q E,sp vs H Q E→vs.length=ps.length)
  (hbody:∀ (cdv:Value) (A:Around) (outer:List Env) (s:Shared) (H:Hp) (vs:List V) (Q:VK) (E:XK),Room k (A.deeper (envOfC qual (defScope st) s.heap.objs.size f cdv))→sp vs H Q E →
   ∃ t,PSs (cxOf (CXF P w) P w K mg base N qual (defScope st) f cdv A outer s H E).nox (defBody st) t∧t { nx:=fun _ H'=>Q .non H',rt:=Q } (start N vs) H):Has P w K mg base (k+1) f ps sp:=by
 obtain ⟨fd,F⟩:=D
 exact ⟨⟨fd,F.ok0 S len hbody,F.binds bd⟩,F.kp⟩
theorem has_mkX (D:∃ fd,Fun K x qual st f fd) (S:FnScope N ps (defScope st)) (bd:BindsAll x qual st ps) (len:∀ vs H Q E,sp vs H Q E→vs.length=ps.length)
  (hbody:∀ (cdv:Value) (A:Around) (outer:List Env) (s:Shared) (H:Hp) (vs:List V) (Q:VK) (E:XK),Room k (A.deeper (envOfC qual (defScope st) s.heap.objs.size f cdv))→sp vs H Q E →
   ∃ t,PSs (cxOf (CXF P w) P w K mg base N qual (defScope st) f cdv A outer s H E) (defBody st) t∧t { nx:=fun _ H'=>Q .non H',rt:=Q } (start N vs) H):Has P w K mg base (k+1) f ps sp:=by
 obtain ⟨fd,F⟩:=D
 exact ⟨⟨fd,F.okX S len hbody,F.binds bd⟩,F.kp⟩
theorem Has.mono {j:Nat} (G:Has P w K mg base j f ps sp) (h:j≤k):Has P w K mg base k f ps sp:=by
 obtain ⟨⟨fd,F,b⟩,kp⟩:=G
 exact ⟨⟨fd,F.mono h,b⟩,kp⟩
end
section
variable {X:Cx} {k:Nat} {f C:Addr} {ps:List Str} {sp:Sp} {E:St→XK} {EX:XK} {x:Str} {np p pos cpos:Pos} {e:Expr} {es:List Expr} {t:TA}
theorem pe_callH (G:Has X.prog X.w X.K X.mg X.base k f ps sp) (hr:Room k X.A) (hg:Gl X x) (hm:X.mg x=some (.ref f)) (hx:PassesX (CXF X.prog X.w) X E)
  (ha:PA X (e::es) t) (hdb:(x == ("__debug__":Str))=false:=by decide) (he:starEach (e::es) X.env=(false,eval e X.env)::starEach es X.env:=by rfl) (hpl:(backTo pos (starEach es X.env)).any (·.1)=false:=by rfl) :
  PE X (.Call (.Name x p) (e::es) [] pos) (tCallX sp [] E t):=by
 obtain ⟨⟨fd,F,b⟩,kp⟩:=G
 exact pe_callX F hr hg hm kp b .nil hx ha hdb he hpl
theorem ps_raiseH (hc:X.calm=true) (M:XMk X.K C f) (G:Has X.prog X.w X.K X.mg X.base k f ps sp) (hr:Room (k+1) X.A) (hg:Gl X x) (hm:X.mg x=some (.ref C)) (hx:RaisesI X (.ref C) EX) (ha:PA X (e::es) t) (hex:X.ex=[]:=by rfl)
  (hdb:(x == ("__debug__":Str))=false:=by decide) (he:starEach (e::es) X.env=(false,eval e X.env)::starEach es X.env:=by rfl) (hpl:(backTo cpos (starEach es X.env)).any (·.1)=false:=by rfl) :
  PS X (.Raise (some (.Call (.Name x np) (e::es) [] cpos)) none pos) (tRaiseI C sp EX t):=by
 obtain ⟨⟨fd,F,b⟩,kp⟩:=G
 exact ps_raiseI hc M F hr b hg hm hx ha hex hdb he hpl
theorem pe_constE {i:Int} (hg:Gl X x) (hm:∃ t,X.mg x=some (.int i t)) (hd:(x == ("__debug__":Str))=false:=by decide):PE X (.Name x pos) (tC (.int i)):=by
 obtain ⟨t,hm⟩:=hm
 exact pe_const hg hm hd
end
def spLaw (K:PySem.W.Frag):Sp:=fun vs H Q _=>∃ (a:Addr) (ns:List Int),vs=[.ref a]∧SqL K H a (ns.map V.int)∧ns.length≤63∧∀ H',Q (.bl true) H'
def spCell (K:PySem.W.Frag):Sp:=fun vs H Q _=>∃ (a:Addr) (ns:List Int) (k:Nat),vs=[.ref a,.int k]∧SqL K H a (ns.map V.int)∧ns.length≤63∧Q (.int (ns.getD k 0)) H
def Kd (H:Hp):V→Prop
 | .int _=>True
 | .bl _=>True
 | .non=>True
 | .str _=>True
 | .ref a=>∃ xs,H a=some (.lst xs)∨H a=some (.tup xs)
 | _=>False
theorem Kd.same {H H':Hp} (e:Same H H'):∀ {x:V},Kd H x→Kd H' x
 | .int _,_=>True.intro
 | .bl _,_=>True.intro
 | .non,_=>True.intro
 | .str _,_=>True.intro
 | .ref a,h=>by
  obtain ⟨xs,h⟩:=h
  exact ⟨xs,h.elim (fun q=>.inl (e _ _ q)) fun q=>.inr (e _ _ q)⟩
def isI:V→Bool
 | .int _=>true
 | _=>false
def spWhole:Sp:=fun vs H Q _=>∃ x:V,vs=[x]∧Kd H x∧Q (.bl (isI x)) H
def sgn (g:Int):V→Bool
 | .int i=>decide (0≤i) && decide (i<g)
 | _=>false
def spSign:Sp:=fun vs H Q _=>∃ (x:V) (g:Int),vs=[x,.int g]∧Kd H x∧Q (.bl (sgn g x)) H
def spInit (K:PySem.W.Frag) (C R:Addr):Sp:=fun vs H Q _=>∃ (a:Addr) (n:Bool) (y:V),vs=[.ref a,y]∧H a=some (exo a (.ref C) none n)∧∀ dx,H dx=none→Q .non (upd (upd H a (exo a (.ref C) (some dx) n)) dx (.xd [("at",y)]))
def Bad (C:Addr) (i:Nat) (H:Hp) (E:XK):Prop:=∀ H' dx,Same H H'→H' dx=some (.xd [("at",.int ((i:Nat):Int))])→E (.ref C) (some dx) H'
def badIx (g:Int) (xs:List V):Option Nat:=xs.findIdx? fun x=>!sgn g x
def spCheck (K:PySem.W.Frag) (C:Addr):Sp:=fun vs H Q E=>∃ (a:Addr) (xs:List V) (g:Int),vs=[.ref a,.int g]∧SqL K H a xs∧(∀ x∈xs,Kd H x) ∧
 match badIx g xs with
 | none=>∀ H',Same H H'→Q .non H'
 | some i=>Bad C i H E
def numF (g n:Int) (ns:List Int):Int:=ns.foldl (fun m x=>m*g+x) n
def num (g:Int) (ns:List Int):Int:=numF g 0 ns
def spNumber (K:PySem.W.Frag) (C:Addr):Sp:=fun vs H Q E=>∃ (a:Addr) (xs:List V) (g:Int),vs=[.ref a,.int g]∧2≤g∧g≤9∧SqL K H a xs∧(∀ x∈xs,Kd H x) ∧
 match badIx g xs with
 | none=>∀ ns:List Int,xs=ns.map V.int→∀ H',Same H H'→Q (.int (num g ns)) H'
 | some i=>Bad C i H E
theorem badIx_none {g:Int} {xs:List V} (h:badIx g xs=none):∃ ns:List Int,xs=ns.map V.int∧∀ n∈ns,0≤n∧n<g:=by
 unfold badIx at h
 rw [List.findIdx?_eq_none_iff] at h
 induction xs with
 | nil=>exact ⟨[],rfl,fun n z=>absurd z (by simp)⟩
 | cons x xs ih =>
  obtain ⟨ns,e,b⟩:=ih fun y hy=>h y (List.mem_cons_of_mem _ hy)
  have hx:=h x List.mem_cons_self
  cases x with
  | int i =>
   simp only [sgn,Bool.not_eq_false',Bool.and_eq_true,decide_eq_true_eq] at hx
   exact ⟨i::ns,by rw [e];rfl,fun n z=>(List.mem_cons.mp z).elim (fun q=>q▸hx) (b n)⟩
  | _=>simp [sgn] at hx
theorem badIx_ints {g:Int} {ns:List Int} (h:∀ n∈ns,0≤n∧n<g):badIx g (ns.map V.int)=none:=by
 unfold badIx
 rw [List.findIdx?_eq_none_iff]
 intro x hx
 obtain ⟨n,hn,e⟩:=List.mem_map.mp hx
 subst e
 have q:=h n hn
 simp [sgn,q.1,q.2]
theorem kd_ints {H:Hp} {ns:List Int}:∀ x∈ns.map V.int,Kd H x:=fun x hx=>by
 obtain ⟨n,_,e⟩:=List.mem_map.mp hx
 subst e
 exact True.intro
end L2
namespace L2
open PySem
theorem forget {t:TS} {D:Ends} {σ:St} {H':Hp} (Z:Hp→Prop) (hz:Z H') (h:∀ H2,Z H2→t D σ H2):t D σ H':=h H' hz
theorem ints_inj {ns ms:List Int} (h:ns.map V.int=ms.map V.int):ns=ms:=(List.map_inj_right (f:=V.int) fun _ _ e=>V.int.inj e).mp h
theorem mods_lt {g:Int} (h:2≤g) (l:List Int):∀ n∈l.map (·%g),0≤n∧n<g:=fun n hn=>by
 obtain ⟨m,_,e⟩:=List.mem_map.mp hn
 subst e
 exact ⟨Int.emod_nonneg _ (by lia),Int.emod_lt_of_pos _ (by lia)⟩
theorem same_raise {H H1:Hp} {ea dx:Addr} {o o2 o3:HO} (e:Same H H1) (hea:H1 ea=none) (hdx:upd H1 ea o dx=none):Same H (drop (upd (upd (upd H1 ea o) ea o2) dx o3) ea):=fun b u q=>by
 have q1:=e b u q
 have n1:=ne_of_none q1 hea
 have n2:=ne_of_none q1 (upd_none hdx).2
 rw [drop_ne n1,upd_ne n2,upd_ne n1,upd_ne n1]
 exact q1
theorem badIx_step {g:Int} {xs:List V} {i:Nat} {x:V} (hb:badIx g (xs.take i)=none) (hx:xs[i]?=some x) (hs:sgn g x=true):badIx g (xs.take (i+1))=none:=by
 unfold badIx at *
 rw [List.findIdx?_eq_none_iff] at hb ⊢
 intro y hy
 rw [Z22,hx] at hy
 rcases List.mem_append.mp hy with z | z
 ·exact hb y z
 ·have e:y=x:=by simpa using z
  rw [e,hs];rfl
theorem badIx_here {g:Int} {xs:List V} {i:Nat} {x:V} (hb:badIx g (xs.take i)=none) (hx:xs[i]?=some x) (hs:sgn g x=false):badIx g xs=some i:=by
 obtain ⟨hi,ex⟩:=List.getElem?_eq_some_iff.mp hx
 have e:xs=xs.take i++x::xs.drop (i+1):=by
  rw [←ex,←List.drop_eq_getElem_cons hi,List.take_append_drop]
 unfold badIx at *
 rw [e,List.findIdx?_append,hb]
 simp [List.findIdx?_cons,hs,List.length_take]
 lia
theorem getInt {ns:List Int} {i:Nat} {x:V} (h:(ns.map V.int)[i]?=some x):∃ n,ns[i]?=some n∧x=.int n:=by
 rw [Z6] at h
 obtain ⟨n,e1,e2⟩:=Option.map_eq_some_iff.mp h
 exact ⟨n,e1,e2.symm⟩
theorem num_take {g n:Int} {ns:List Int} {i:Nat} (h:ns[i]?=some n):num g (ns.take (i+1))=num g (ns.take i)*g+n:=by
 unfold num numF
 rw [Z22,h,List.foldl_append]
 rfl
def low (g:Int):List Int→Int
 | []=>0
 | x::r=>x+g*low g r
theorem low_snoc (g x:Int):∀ l:List Int,low g (l++[x])=low g l+x*g^l.length
 | []=>by simp [low]
 | y::l=>by
  rw [List.cons_append,low,low,low_snoc g x l,List.length_cons,Z7,Int.mul_add,Int.add_assoc]
  congr 2
  rw [Int.mul_comm g,Z26]
theorem num_snoc (g x:Int) (l:List Int):num g (l++[x])=num g l*g+x:=by
 unfold num numF
 rw [List.foldl_append];rfl
theorem num_rev (g:Int):∀ l:List Int,num g l.reverse=low g l
 | []=>rfl
 | x::l=>by rw [List.reverse_cons,num_snoc,num_rev g l,low,Z28,Int.add_comm]
theorem num_low (g:Int) (ns:List Int):num g ns=low g ns.reverse:=by rw [←num_rev,List.reverse_reverse]
end L2
namespace L2
open PySem PySem.Spec PyProof.Rows
mutual
inductive DatV (K:PySem.W.Frag) (H:Hp):V→PyData→Prop
 | non:DatV K H .non .none
 | bl (b:Bool):DatV K H (.bl b) (.bool b)
 | int (i:Int):DatV K H (.int i) (.int i)
 | str (x:Str):DatV K H (.str x) (.str x)
 | lst {a:Addr} {xs:List V} {ds:List PyData}:SqL K H a xs→DatAll K H xs ds→DatV K H (.ref a) (.list ds)
 | tup {a:Addr} {xs:List V} {ds:List PyData}:SqT K H a xs→DatAll K H xs ds→DatV K H (.ref a) (.tuple ds)
inductive DatAll (K:PySem.W.Frag) (H:Hp):List V→List PyData→Prop
 | nil:DatAll K H [] []
 | cons {x:V} {xs:List V} {d:PyData} {ds:List PyData}:DatV K H x d→DatAll K H xs ds→DatAll K H (x::xs) (d::ds)
end
section
variable {X:Cx} {pins:List (Addr × Obj)} {σ:St} {H:Hp} {s:Shared}
mutual
theorem DatV.reads (I:Inv X pins σ H s):∀ {x:V} {d:PyData} {u:Value},DatV X.K H x d→RelV x u→∃ as,Reads s.heap u d as
 | _,_,_,.non,r=>by cases r;exact ⟨_,.none⟩
 | _,_,_,.bl b,r=>by cases r;exact ⟨_,.bool b⟩
 | _,_,_,.int i,r=>by obtain ⟨t,e⟩:=r;subst e;exact ⟨_,.int i t⟩
 | _,_,_,.str x,r=>by obtain ⟨t,e⟩:=r;subst e;exact ⟨_,.str x t⟩
 | _,_,_,.lst hq ha,r=>by
  cases r
  obtain ⟨its,rv,⟨o,n,e,c,_,d⟩,_⟩:=I.list hq
  obtain ⟨as,q⟩:=DatAll.reads I ha rv
  exact ⟨_,.list e c d (by simpa using q)⟩
 | _,_,_,.tup hq ha,r=>by
  cases r
  obtain ⟨its,rv,⟨o,e,c,n,d⟩,_⟩:=I.tuple hq
  obtain ⟨as,q⟩:=DatAll.reads I ha rv
  exact ⟨_,.tuple e c d (by simpa using q)⟩
theorem DatAll.reads (I:Inv X pins σ H s):∀ {xs:List V} {ds:List PyData} {us:List Value},DatAll X.K H xs ds→Vals xs us→∃ as,ReadsAll s.heap us ds as
 | _,_,_,.nil,.nil=>⟨_,.nil⟩
 | _,_,_,.cons h t,.cons r rr=>by
  obtain ⟨as,q⟩:=DatV.reads I h r
  obtain ⟨bs,q2⟩:=DatAll.reads I t rr
  exact ⟨_,.cons q q2⟩
end
def rEqD (K:PySem.W.Frag):R2:=fun x y H Q=>∃ d e,DatV K H x d∧DatV K H y e∧d.canLay0=true∧e.canLay0=true∧d.depth≤60∧Q (.bl (PyData.eqv d e)) H
theorem op_eqD (hu:X.A.units+64<cLine):OpR X (compareOp .Eq) (rEqD X.K):=by
 intro pins s σ H x y v u Q I rx ry h
 obtain ⟨d,e,hd,he,c1,c2,dd,q⟩:=h
 obtain ⟨as,r1⟩:=hd.reads I rx
 obtain ⟨bs,r2⟩:=he.reads I ry
 have z:=SeqAt.rcAt_reads (A:=X.A) r1 r2 c1 c2 (by have:=Nat.min_le_left d.depth e.depth;lia)
 exact z X.prog X.w X.xe _ ⟨.bl _,H,I,rfl,q⟩
end
theorem dat_ints {K:PySem.W.Frag} {H:Hp}:∀ ns:List Int,DatAll K H (ns.map V.int) (ns.map PyData.int)
 | []=>.nil
 | n::ns=>.cons (.int n) (dat_ints ns)
theorem lay_ints:∀ ns:List Int,PyData.canLayAll0 (ns.map PyData.int)=true
 | []=>by simp only [List.map_nil,PyData.canLayAll0]
 | n::ns=>by simp only [List.map_cons,PyData.canLayAll0,PyData.canLay0,lay_ints ns,Bool.and_self]
theorem pi_or {X:Cx} {tg it:Expr} {w1 w2:TI} (h1:PI X tg it w1) (h2:PI X tg it w2):PI X tg it (fun σ H R=>w1 σ H R∨w2 σ H R):=fun pins s σ H R I h=>h.elim (fun q=>h1 pins s σ H R I q) fun q=>h2 pins s σ H R I q
theorem kiA {K:PySem.W.Frag} {t:Value} {T:String} (h:PySem.W.kitOne K t (.type T)=some true) (r:List Value):PySem.W.kitAny K t (.type T::r)=some true:=by unfold PySem.W.kitAny;rw [h]
theorem kiB {K:PySem.W.Frag} {t:Value} {T:String} {r:List Value} {b:Bool} (h:PySem.W.kitOne K t (.type T)=some false) (h2:PySem.W.kitAny K t r=some b):PySem.W.kitAny K t (.type T::r)=some b:=by unfold PySem.W.kitAny;rw [h];exact h2
section
variable {K:PySem.W.Frag}
theorem ki_nl:PySem.W.kitOne K (.type "NoneType") (.type "list")=some false:=by kernel_rfl
theorem ki_nt:PySem.W.kitOne K (.type "NoneType") (.type "tuple")=some false:=by kernel_rfl
theorem ki_sl:PySem.W.kitOne K (.type "str") (.type "list")=some false:=by kernel_rfl
theorem ki_st:PySem.W.kitOne K (.type "str") (.type "tuple")=some false:=by kernel_rfl
theorem ki_il:PySem.W.kitOne K (.type "int") (.type "list")=some false:=by kernel_rfl
theorem ki_it:PySem.W.kitOne K (.type "int") (.type "tuple")=some false:=by kernel_rfl
theorem ki_bl:PySem.W.kitOne K (.type "bool") (.type "list")=some false:=by kernel_rfl
theorem ki_bt:PySem.W.kitOne K (.type "bool") (.type "tuple")=some false:=by kernel_rfl
end
theorem ix_listK {X:Cx} {K:PySem.W.Frag} (h:X.K=K):IxR X (rIxL K):=h▸ix_list
theorem ix_tupK {X:Cx} {K:PySem.W.Frag} (h:X.K=K):IxR X (rIxT K):=h▸ix_tup
end L2
namespace L2
open PySem PySem.Spec PyProof.Rows
def IsRvt (h:Heap) (a l:Addr) (i:Int):Prop:=∃ o,h.get? a=some o∧o.cls=.type "reversed"∧o.data=.fields #[.ref l,rawInt i]
theorem IsRvt.ty {s:Shared} {a l:Addr} {i:Int} (x:IsRvt s.heap a l i):s.TypeIs (.ref a) "reversed":=let ⟨o,ho,hc,_⟩:=x;⟨o,ho,hc⟩
theorem IsRvt.at {h h':Heap} {a l:Addr} {i:Int} (x:IsRvt h a l i) (e:∀ o,h.get? a=some o→h'.get? a=some o):IsRvt h' a l i:=let ⟨o,ho,r⟩:=x;⟨o,e _ ho,r⟩
section
variable {prog:Program} {w:World} {A:Around} {E:Value→Shared→Prop} {s:Shared}
end
section
variable {X:Cx}
def tLRevT (K:PySem.W.Frag) (ta:TA):TE:=fun σ H Q=>ta σ H fun vs H1=>∃ a xs,vs=[.ref a]∧SqT K H1 a xs∧∀ p,H1 p=none→Q (.ref p) (upd H1 p (.lst xs.reverse))
end
end L2
namespace L2
open PySem PySem.Spec PyProof.Rows
structure HasN (P:Program) (w:World) (K:PySem.W.Frag) (mg:Str→Option Value) (base:Heap) (k:Nat) (f:Addr) (ps:List Str) (sp:Sp):Prop where
 ex:∃ fd,FnOk P w K mg base (CXC true P w) k f fd ps sp∧Binds K fd ps []
 kp:PySem.W.keepIn K (.ref f)=true
section
variable {P:Program} {w:World} {K:PySem.W.Frag} {mg:Str→Option Value} {base:Heap} {x qual:Str} {st:Stmt} {f:Addr} {N ps:List Str} {k:Nat} {sp:Sp}
theorem has_mkN (D:∃ fd,Fun K x qual st f fd) (S:FnScope N ps (defScope st)) (bd:BindsAll x qual st ps) (len:∀ vs H Q E,sp vs H Q E→vs.length=ps.length)
  (hbody:∀ (cdv:Value) (A:Around) (outer:List Env) (s:Shared) (H:Hp) (vs:List V) (Q:VK) (E:XK),Room k (A.deeper (envOfC qual (defScope st) s.heap.objs.size f cdv))→sp vs H Q E →
   ∃ t,PSs (cxOf (CXC true P w) P w K mg base N qual (defScope st) f cdv A outer s H E) (defBody st) t∧t { nx:=fun _ H'=>Q .non H',rt:=Q } (start N vs) H):HasN P w K mg base (k+1) f ps sp:=by
 obtain ⟨fd,F⟩:=D
 exact ⟨⟨fd,F.okX S len hbody,F.binds bd⟩,F.kp⟩
end
section
variable {X:Cx} {k:Nat} {f:Addr} {ps:List Str} {sp:Sp} {E:St→XK} {x:Str} {p pos:Pos} {e:Expr} {es:List Expr} {t:TA}
theorem pe_callN (G:HasN X.prog X.w X.K X.mg X.base k f ps sp) (hr:Room k X.A) (hg:Gl X x) (hm:X.mg x=some (.ref f)) (hx:PassesX (CXC true X.prog X.w) X E)
  (ha:PA X (e::es) t) (hdb:(x == ("__debug__":Str))=false:=by decide) (he:starEach (e::es) X.env=(false,eval e X.env)::starEach es X.env:=by rfl) (hpl:(backTo pos (starEach es X.env)).any (·.1)=false:=by rfl) :
  PE X (.Call (.Name x p) (e::es) [] pos) (tCallX sp [] E t):=by
 obtain ⟨⟨fd,F,b⟩,kp⟩:=G
 exact pe_callX F hr hg hm kp b .nil hx ha hdb he hpl
end
def Cx.trN (X:Cx) (p:List (Addr × Obj)) (W:St→XK):Cx:=X.but p fun e s'=>∃ pins σ H s,Inv (X.but p fun _ _=>False) pins σ H s∧CXC true X.prog X.w X.stack H s (W σ) e s'
section
variable {X:Cx} {p:List (Addr × Obj)}
theorem trN_K {W:St→XK}:(X.trN p W).K=X.K:=rfl
end
def exc0 (a:Addr):HO:=.ext (fun h=>∃ o vs,h.get? a=some o∧o.data=.fields vs∧vs[2]?=some .none)
section
variable {X:Cx} {pins:List (Addr × Obj)} {σ:St} {H H':Hp} {s s':Shared} {h':Heap}
end
section
variable {P:Program} {w:World} {K:PySem.W.Frag} {mg:Str→Option Value} {base:Heap} {N:List Str} {qual:Str} {scope:Scope} {f:Addr} {cd:Value} {A:Around} {outer:List Env} {s:Shared} {H:Hp} {E:XK}
end
section
variable {prog:Program} {w:World} {A:Around} {E:Value→Shared→Prop} {s:Shared} {env:Env} {nm qn:Str} {C N h:Addr} {bs tl:List Value} {dy:Bool} {sn:List Str} {sub:List Value} {ab:Bool} {col:Option Bool} {dd:Option Addr} {k0 k1 k2 k3 k5:Option Value} {nid:String}
end
def tTryR (K:PySem.W.Frag) (R:Value) (C:Addr) (W:St→XK) (E:XK) (tb:TS) (t:TA):TS:=fun D σ H=>tb D σ H∧∀ σ' cls D' H',W σ' cls D' H'→PySem.W.exmOne K cls R=some true∧∀ a,H' a=none →
 t σ' (upd H' a (exc0 a)) fun vs H1=>vs.length≤sizeLine∧H1 a=some (exc0 a)∧E (.ref C) none H1
section
variable {X:Cx} {x n:Str} {R C:Addr} {W:St→XK} {E:XK} {b:List Stmt} {tb:TS} {t:TA} {e:Expr} {es:List Expr} {nj} {np xp cpos rpos hpos npos pos:Pos}
end
end L2
namespace L2
open PySem PySem.Spec PyProof.Rows
def cxB (X:Cx) (s2:Shared) (H2:Hp) (env:Env) (fp:List Addr) (N:List Str):Cx:={ X with N:=N,s₀:=s2,H₀:=H2,env:=env,outer:=X.stack,ex:=fp,fn:=fun _=>false,pn:=[],xe:=fun _ _=>False }
theorem cxB_K {X:Cx} {s2:Shared} {H2:Hp} {env:Env} {fp:List Addr} {N:List Str}:(cxB X s2 H2 env fp N).K=X.K:=rfl
def ClOk (env:Env):List (Str × Addr)→Prop
 | []=>True
 | (y,c)::r=>env.cells.lookup y=some c∧ClOk env r
theorem ClOk.at' {env:Env}:∀ {cl:List (Str × Addr)},ClOk env cl→∀ {y:Str} {c:Addr},cl.lookup y=some c→env.cells.lookup y=some c
 | [],_,_,_,h=>by cases h
 | (z,d)::r,⟨h1,h2⟩,y,c,h=>by
  rw [List.lookup_cons] at h
  cases e:y == z with
  | true =>
   rw [e] at h
   cases h
   rw [eq_of_beq e]
   exact h1
  | false =>
   rw [e] at h
   exact h2.at' h
def FvOk (X:Cx) (scope:Scope) (cl:List (Str × Addr)):List (Nat × Str)→Prop
 | []=>True
 | (j,y)::r=>(X.N[j]?=some y∧X.env.scope.names.lookup y=some .cell∧(relabel scope X.env).names.lookup y=some .cell∧(cl.lookup y).isSome=true)∧FvOk X scope cl r
theorem FvOk.at' {X:Cx} {scope:Scope} {cl:List (Str × Addr)}:∀ {fv:List (Nat × Str)},FvOk X scope cl fv→∀ q∈fv,X.N[q.1]?=some q.2∧X.env.scope.names.lookup q.2=some .cell∧(relabel scope X.env).names.lookup q.2=some .cell∧(cl.lookup q.2).isSome=true
 | [],_,q,h=>by cases h
 | (j,y)::r,⟨h1,h2⟩,q,h=>(List.mem_cons.mp h).elim (fun e=>by rw [e];exact h1) fun z=>h2.at' q z
def fvs (σ:St) (fv:List (Nat × Str)):List (Option V):=fv.map fun q=>(σ[q.1]?).join
def PF (X:Cx) (ifs:List Expr) (t:TT):Prop:=∀ (pins:List (Addr × Obj)) (s:Shared) (σ:St) (H:Hp) (Q:Bool→Hp→Prop),Inv X pins σ H s→t σ H Q →
 wpAny (model X.prog X.w) X.A (forIn ifs true fun c r=>if r=true then do let ok ←isTrue c X.env (eval c X.env);pure (ForInStep.yield ok) else pure (ForInStep.yield r)) (TP X pins σ Q) X.xe s
def tAll:TT:=fun _ H Q=>Q true H
theorem pf_nil {X:Cx}:PF X [] tAll:=fun pins s σ H Q I h=>wpAny_pure ⟨H,I,h⟩
theorem pf_one {X:Cx} {c:Expr} {t:TT} (h:PT X c t):PF X [c] t:=fun pins s σ H Q I q=>by
 simp only [List.forIn_cons,List.forIn_nil,if_true]
 exact wpAny_bind (wpAny_bind (thn (h pins s σ H Q I q) fun b s1 z=>wpAny_pure (wpAny_pure z)))
def CompGoal (J:It) (tt:TT) (te:TE) (σf:List (Option V)) (D:Addr) (Q:VK) (H:Hp):Prop:=∃ W:Nat→Nat→List V→Hp→Prop,(∃ n,W n 0 [] (upd H D (.lst [])))∧∀ n i acc H2,W n i acc H2 →
 (J.stop i H2∧Q (.ref D) H2)∨(J.go i H2∧∃ N:List V→Hp→Prop,(∀ l H',N l H'→∃ n',n'<n∧W n' (i+1) l H')∧∀ v H3,J.yld i H2 v H3→tt (some v::σf) H3 fun b H4 =>
  if b=true then te (some v::σf) H4 fun y H5=>H5 D=some (.lst acc)∧acc.length<sizeLine∧N (acc++[y]) (upd H5 D (.lst (acc++[y]))) else N acc H4)
def tComp (wi:TI) (fv:List (Nat × Str)) (tt:TT) (te:TE):TE:=fun σ H Q=>wi σ H fun J H1=>∀ D,H1 D=none→CompGoal J tt te (fvs σ fv) D Q H1
section
variable {X:Cx} {x:Str} {px pos:Pos} {elt iter:Expr} {ifs:List Expr} {scope:Scope} {cl:List (Str × Addr)} {fv:List (Nat × Str)} {wi:TI} {tt:TT} {te:TE}
 {pins:List (Addr × Obj)} {σ:St} {H2:Hp} {s2:Shared} {fp:List Addr} {it:Addr} {tn:Nat→Heap→Prop} {J:It}
theorem blk_ok {C:Addr} {N:List Str} (I2:Inv X pins σ H2 s2) (f2:∀ b∈fp,FpOk X pins H2 b) (o2:∀ b∈fp,∃ o,s2.heap.get? b=some o∧∀ v,o.data≠.cell v) (hC:s2.heap.objs.size≤C) (hk:scope.kind=.function) (hcl:ClOk X.env cl)
  (hhas:((relabel scope X.env).names.all fun z=>!(z.2 == .cell || z.2 == .free) || (cl.lookup z.1).isSome)=true):(cxB X s2 H2 (compEnvC scope cl C X.env) fp N).Ok where
 mod:=I2.ok.mod
 kind:=hk
 glob:=I2.ok.glob
 blt:=I2.ok.blt
 above:=hC
 inj:=fun x y c h1 h2=>I2.ok.inj x y c (hcl.at' h1) (hcl.at' h2)
 has:=fun y h=>by
  have key:∀ k:NameKind,(relabel scope X.env).names.lookup y=some k→(k == .cell || k == .free)=true→∃ c,cl.lookup y=some c:=fun k hl hk=>by
   have mem:(y,k)∈(relabel scope X.env).names:=by
    generalize (relabel scope X.env).names=l at hl
    induction l with
    | nil=>cases hl
    | cons q r ih =>
     rw [List.lookup_cons] at hl
     cases e:y == q.1 with
     | true =>
      rw [e] at hl
      cases hl
      rw [eq_of_beq e]
      exact List.mem_cons_self
     | false =>
      rw [e] at hl
      exact List.mem_cons_of_mem _ (ih hl)
   have z:=List.all_eq_true.mp hhas _ mem
   simp only [hk,Bool.not_true,Bool.false_or] at z
   exact Option.isSome_iff_exists.mp z
  rcases h with h | h
  ·exact key _ h rfl
  ·exact key _ h rfl
 cab:=fun _ _ h=>nomatch h
 hd:=I2.ok.hd
 frames:=I2.ok.frames
 stk:=.inl rfl
 exf:=fun b hb=>by
  obtain ⟨o,e,_⟩:=o2 b hb
  exact ⟨Nat.ne_of_lt (Nat.lt_of_lt_of_le (Heap.lt_size e) hC),fun y c h=>(f2 b hb).2.2.2.2.1 y c (hcl.at' h)⟩
 bs:=fun b o e=>I2.bs b o e
 bsz:=Nat.le_trans I2.ok.bsz I2.sz
 noex:=fun b o e hb=>by
  obtain ⟨_,_,_,h,_⟩:=f2 b hb
  rcases h with h | h
  ·exact I2.ok.noex b o e h
  ·exact absurd (Nat.lt_of_lt_of_le (Heap.lt_size e) (Nat.le_trans I2.ok.bsz h)) (Nat.lt_irrefl _)
 exfs:=fun b hb z=>(List.mem_cons.mp (I2.stkSub b z)).elim (f2 b hb).2.1 (f2 b hb).2.2.1
 funs:=I2.stack
 frf:=I2.stkFree
theorem blk_land {env:Env} {N:List Str} {σ':St} {H':Hp} {s':Shared} {pl:List (Addr × Obj)} (I2:Inv X pins σ H2 s2) (f2:∀ b∈fp,FpOk X pins H2 b) (Ib:Inv (cxB X s2 H2 env fp N) pl σ' H' s'):Inv X pins σ H' s' :=
 I2.call' (ch:=fp) Ib.os Ib.base Ib.hok Ib.bare fun b hb=>⟨(f2 b hb).2.2.2.1,(f2 b hb).2.1,(f2 b hb).2.2.2.2.1,(f2 b hb).2.2.2.2.2⟩
theorem blk_in {D C:Addr} {h1:Heap} {t1:Nat} (I2:Inv X pins σ H2 s2) (f2:∀ b∈fp,FpOk X pins H2 b) (o2:∀ b∈fp,∃ o,s2.heap.get? b=some o∧∀ v,o.data≠.cell v) (hD:s2.heap.objs.size≤D) (hC:s2.heap.objs.size≤C) (hDC:D≠C)
  (old:∀ b o,s2.heap.get? b=some o→h1.get? b=some o) (hl:h1.PlainList D #[]) (hn:h1.Ns C (fun _=>none)) (hk:scope.kind=.function) (hcl:ClOk X.env cl)
  (hhas:((relabel scope X.env).names.all fun z=>!(z.2 == .cell || z.2 == .free) || (cl.lookup z.1).isSome)=true) (hfv:FvOk X scope cl fv) :
  Inv (cxB X s2 H2 (compEnvC scope cl C X.env) fp (x::fv.map (·.2))) [] (none::fvs σ fv) (upd H2 D (.lst [])) { s2 with heap:=h1,toks:=t1 } where
 ok:=blk_ok I2 f2 o2 hC hk hcl hhas
 os:=rfl
 bare:=I2.bare
 base:=Un.laid old hD (I2.hok.fresh hD)
 loc:=by
  refine ⟨_,hn,fun i y v h1' h2' _=>?_⟩
  cases i with
  | zero=>cases h2'
  | succ i =>
   have h1':(fv.map (·.2))[i]?=some y:=h1'
   have h2':(fvs σ fv)[i]?=some (some v):=h2'
   obtain ⟨q,hq,e1⟩:∃ q,fv[i]?=some q∧q.2=y:=by
    rw [Z6] at h1'
    exact Option.map_eq_some_iff.mp h1'
   subst e1
   obtain ⟨g1,g2,g3,g4⟩:=hfv.at' q (List.mem_of_getElem? hq)
   unfold fvs at h2'
   rw [Z6,hq] at h2'
   have e2:(σ[q.1]?).join=some v:=Option.some.inj h2'
   have e3:σ[q.1]?=some (some v):=by
    cases z:σ[q.1]? with
    | none=>rw [z] at e2;cases e2
    | some w=>rw [z] at e2;exact congrArg some e2
   obtain ⟨m,_,lk⟩:=I2.loc
   obtain ⟨u,ru,lu⟩:=lk q.1 q.2 v g1 e3 (.inr (.inl g2))
   refine ⟨u,ru,.inr ⟨.inl g3,?_⟩⟩
   obtain ⟨c,hc⟩:=Option.isSome_iff_exists.mp g4
   refine ⟨c,hc,?_⟩
   rcases lu with ⟨kk,_⟩ | ⟨_,c',e',⟨o,eo,d⟩⟩
   ·rw [show X.env.kindOf q.2=some .cell from g2] at kk;cases kk
   ·have e4:=hcl.at' hc
    rw [e'] at e4
    cases e4
    exact ⟨o,old c o eo,d⟩
 cell:=fun y c h=>by
  obtain ⟨v,o,eo,d⟩:=I2.cell y c (hcl.at' h)
  exact ⟨v,o,old c o eo,d⟩
 free:=by
  show upd H2 D _ C=none
  rw [upd_ne (Ne.symm hDC)]
  exact I2.hok.fresh hC
 freeC:=fun y c h=>by
  obtain ⟨v,o,eo,d⟩:=I2.cell y c (hcl.at' h)
  rw [upd_ne (Nat.ne_of_lt (Nat.lt_of_lt_of_le (Heap.lt_size eo) hD))]
  exact I2.freeC y c (hcl.at' h)
 pin:=fun p hp=>nomatch hp
 hok:=I2.hok.laid old hD (by
  obtain ⟨n,e⟩:=hl
  exact ⟨Nat.zero_le _,[],n,.nil,by simpa using e⟩)
 len:=by simp [fvs,cxB]
theorem blk_run {RR:Value→Addr→Result→Shared→Prop} {E:Value→Shared→Prop} {Q:VK} (hc:X.calm=true) (I2:Inv X pins σ H2 s2) (T:Turn X.prog X.w X.K (.Name x px) J fp it tn) (st2:tn 0 s2.heap) (f2:∀ b∈fp,FpOk X pins H2 b)
  (hcell:∀ y∈scope.names,y.2≠.cell) (hk:scope.kind=.function) (hx:scope.names.lookup x=some .local) (hcl:ClOk X.env cl) (hhas:((relabel scope X.env).names.all fun z=>!(z.2 == .cell || z.2 == .free) || (cl.lookup z.1).isSome)=true) (hfv:FvOk X scope cl fv) (hnd:(x::fv.map (·.2)).Nodup)
  (hf:∀ s H C fp,PF (cxB X s H (compEnvC scope cl C X.env) fp (x::fv.map (·.2))) ifs tt) (he:∀ s H C fp,PE (cxB X s H (compEnvC scope cl C X.env) fp (x::fv.map (·.2))) elt te)
  (hw:∀ D,H2 D=none→CompGoal J tt te (fvs σ fv) D Q H2)
  (hRR:∀ D C σ' H' s',s2.heap.objs.size≤C→Inv (cxB X s2 H2 (compEnvC scope cl C X.env) fp (x::fv.map (·.2))) [] σ' H' s'→Q (.ref D) H'→RR (.ref D) C (.ok .next) s') :
  wpAny (model X.prog X.w) X.A (newList []) (fun acc s3=>wpAny (model X.prog X.w) X.A (newFunctionEnv scope X.env.globals cl [] X.env.qual none .none (some X.env)) (fun cenv s4 =>
   codeAny (model X.prog X.w) X.A (.compStart (.ListComp elt [⟨.Name x px,iter,ifs,0⟩] scope pos) 0 (.ref it) acc { cenv with scope:=relabel scope X.env }) (RR acc cenv.locals) s4) E s3) E s2:=by
 refine wpAny_newObj_type (wpAny_newFunctionEnv hcell (by intro y hy;simp at hy) (fun h1 hns hsb=>?_) hk)
 dsimp only at hns hsb ⊢
 generalize hH:s2.heap.push { cls:=.type "list",dict:=none,data:=.seq ([]:List Value).toArray }=HH at hns hsb ⊢
 have eC:HH.objs.size=s2.heap.objs.size+1:=by rw [←hH,Heap.size_push]
 have hDC:s2.heap.objs.size≠HH.objs.size:=by rw [eC];exact Nat.ne_of_lt (Nat.lt_succ_self _)
 have hC:s2.heap.objs.size≤HH.objs.size:=by rw [eC];exact Nat.le_succ _
 have old:∀ b o,s2.heap.get? b=some o→h1.get? b=some o:=fun b o e=>hsb.extBut b o (by rw [eC];exact Nat.ne_of_lt (Nat.lt_succ_of_lt (Heap.lt_size e))) (Heap.get?_push_of_some _ (hH▸Heap.get?_push_of_some _ e))
 have hacc:h1.PlainList s2.heap.objs.size #[]:=⟨_,hsb.extBut _ _ hDC (Heap.get?_push_of_some _ (hH▸Heap.get?_push_size _ rfl))⟩
 have o2:=T.obj _ _ st2
 obtain ⟨W,⟨n0,w0⟩,turn⟩:=hw s2.heap.objs.size (I2.hok.fresh (Nat.le_refl _))
 generalize eD:s2.heap.objs.size=D at *
 generalize eCC:HH.objs.size=C at *
 have Ib:=blk_in (x:=x) (t1:=s2.toks+([]:List (Str × Value)).length) I2 f2 o2 (by rw [eD];exact Nat.le_refl _) (by rw [eD];exact hC) hDC old hacc hns hk hcl hhas hfv
 have st1:tn 0 h1:=T.keep _ _ _ st2 fun b _ o e=>old b o e
 have nD:∀ b∈fp,b≠D:=fun b hb=>by
  obtain ⟨o,e,_⟩:=o2 b hb
  rw [←eD]
  exact Nat.ne_of_lt (Heap.lt_size e)
 have fr1:∀ b∈fp,upd H2 D (.lst []) b=none:=fun b hb=>by rw [upd_ne (nD b hb)];exact (f2 b hb).1
 have hxl:(relabel scope X.env).names.lookup x=some .local:=lookup_relabel_local hx
 have stat:∀ {H':Hp},(∀ b∈fp,H' b=none)→∀ b∈fp,FpOk (cxB X s2 H2 (compEnvC scope cl C X.env) fp (x::fv.map (·.2))) [] H' b:=fun hn b hb=>by
  obtain ⟨o,e,_⟩:=o2 b hb
  exact ⟨hn b hb,fun z=>absurd (Heap.lt_size e) (by rw [z,eD];exact Nat.not_lt.mpr hC),fun z=>(List.mem_cons.mp (I2.stkSub b z)).elim (f2 b hb).2.1 (f2 b hb).2.2.1,.inl hb,fun y c h=>(f2 b hb).2.2.2.2.1 y c (hcl.at' h),fun q hq=>nomatch hq⟩
 have loop:codeAny (model X.prog X.w) X.A (.compLoop (.ListComp elt [⟨.Name x px,iter,ifs,0⟩] scope pos) 0 (.ref it) (.ref D) (compEnvC scope cl C X.env)) (RR (.ref D) C) { s2 with heap:=h1,toks:=s2.toks+([]:List (Str × Value)).length }:=by
  refine codeAny_compLoop_tests (fun n s'=>∃ i acc σb H',Inv (cxB X s2 H2 (compEnvC scope cl C X.env) fp (x::fv.map (·.2))) [] σb H' s'∧σb.tail=fvs σ fv∧tn i s'.heap∧(∀ b∈fp,H' b=none)∧W n i acc H') ?_ n0 ⟨0,[],_,_,Ib,rfl,st1,fr1,w0⟩
  rintro n s3 ⟨i,acc,σ3,H3,I3,t3,st3,fr3,w3⟩
  rcases turn n i acc H3 w3 with ⟨stop,qn⟩ | ⟨go,NN,hNN,step⟩
  ·refine thn (T.done (cxB X s2 H2 (compEnvC scope cl C X.env) fp (x::fv.map (·.2))) rfl rfl rfl hc i [] s3 σ3 H3 _ I3 (stat fr3) st3 stop) fun r s4 q4=>?_
   obtain ⟨hr,I4⟩:=q4
   subst hr
   exact hRR D C σ3 H3 s4 hC I4 qn
  ·refine thn (T.item (cxB X s2 H2 (compEnvC scope cl C X.env) fp (x::fv.map (·.2))) rfl rfl rfl hc i [] s3 σ3 H3 _ I3 (stat fr3) st3 go) fun r s4 q4=>?_
   obtain ⟨u,hr,h4⟩:=q4
   subst hr
   refine (show wpAny _ _ (letOwnedTupleGo (.Name x px) (.ref it) u >>= fun _=>assign (.Name x px) (compEnvC scope cl C X.env) u) _ _ _ from wpAny_bind (thn h4 fun _ s5 q5=>?_))
   obtain ⟨v,H5,I5,r5,y5,st5,fr5⟩:=q5
   have I5':=I5.pinned (stat fr5) (T.obj _ _ st5)
   have again:∀ {σ7:St} {H7:Hp} {s7:Shared},Inv (cxB X s2 H2 (compEnvC scope cl C X.env) fp (x::fv.map (·.2))) ([]++pinsAt fp s5.heap) σ7 H7 s7→tn (i+1) s7.heap∧∀ b∈fp,H7 b=none:=fun {σ7 H7 s7} I7=>by
    refine ⟨T.keep _ _ _ st5 fun b hb o e=>(I7.pin (b,o) (List.mem_append_right _ (List.mem_append_right _ (mem_pinsAt hb e)))).1,fun b hb=>?_⟩
    obtain ⟨o,e,d⟩:=T.obj _ _ st5 b hb
    exact (I7.pin (b,o) (List.mem_append_right _ (List.mem_append_right _ (mem_pinsAt hb e)))).2.1
   have sσ:σ3.set 0 (some v)=some v::fvs σ fv:=by
    cases σ3 with
    | nil =>
     have z:=I3.len
     simp [cxB] at z
    | cons a b =>
     have z:b=fvs σ fv:=t3
     rw [z];rfl
   have g:=pg_name (X:=cxB X s2 H2 (compEnvC scope cl C X.env) fp (x::fv.map (fun q:Nat × Str=>q.2))) (pos:=px) (i:=0) (x:=x) hnd rfl (.inl hxl) (.inr hxl)
   refine wpAny_noRaise (thn (g _ s5 σ3 H5 v u (fun σ' H'=>σ'=some v::fvs σ fv∧H'=H5) I5' r5 ⟨sσ,rfl⟩) fun _ s6 q6=>?_)
   obtain ⟨σ6,H6,I6,rfl,rfl⟩:=q6
   refine wpAny_noRaise (thn (hf _ _ _ _ _ s6 _ _ _ I6 (step v _ y5)) fun b s7 q7=>?_)
   obtain ⟨H7,I7,q7⟩:=q7
   cases b with
   | false =>
    rw [if_neg (by decide)] at q7 ⊢
    obtain ⟨n',hn',w7⟩:=hNN _ _ q7
    exact ⟨n',hn',i+1,acc,_,H7,I7.unpinned,rfl,(again I7).1,(again I7).2,w7⟩
   | true =>
    rw [if_pos rfl] at q7 ⊢
    refine wpAny_noRaise (thn (he _ _ _ _ _ s7 _ _ _ I7 q7) fun yv s8 q8=>?_)
    obtain ⟨y,H8,I8,r8,e8,l8,q8⟩:=q8
    obtain ⟨n',hn',w8⟩:=hNN _ _ q8
    refine wpAny_noRaise (thn (mt_append (X:=cxB X s2 H2 (compEnvC scope cl C X.env) fp (x::fv.map (·.2))) _ s8 _ H8 (.ref D) [y] (.ref D) [yv] (fun _ H'=>H'=upd H8 D (.lst (acc++[y]))) I8 rfl (.cons r8 .nil) ⟨D,acc,y,rfl,rfl,e8,l8,rfl⟩) fun _ s9 q9=>?_)
    obtain ⟨_,H9,I9,_,rfl⟩:=q9
    exact ⟨n',hn',i+1,acc++[y],_,_,I9.unpinned,rfl,(again I9).1,(again I9).2,w8⟩
 exact codeAny_compStart_list loop (T.self X.A 0 _ _ _ st1 loop)
theorem Inv.letGo {C:Addr} {H':Hp} {s':Shared} {h':Heap} (I2:Inv X pins σ H2 s2) {σ':St} (J:Inv X pins σ' H' s') (hC:s2.heap.objs.size≤C) (hn:H' C=none) (sb:Heap.SameBut C s'.heap h'):Inv X pins σ' H' { s' with heap:=h',toks:=s'.toks } :=
 J.turned (it:=C) (fun b o hb e=>(sb.2 b hb).trans e) hn (Nat.ne_of_gt (Nat.lt_of_lt_of_le I2.lt hC)) (.inr (Nat.le_trans I2.sz hC)) (fun y c e z=>by
  obtain ⟨v,o,eo,d⟩:=I2.cell y c e
  exact absurd (Nat.lt_of_lt_of_le (Heap.lt_size eo) (by rw [z];exact hC)) (Nat.lt_irrefl _)) fun p hp z=>absurd (Nat.lt_of_lt_of_le (Heap.lt_size (I2.pin p hp).1) (by rw [z];exact hC)) (Nat.lt_irrefl _)
theorem pe_comp (hc:X.calm=true) (hi:PI X (.Name x px) iter wi) (hclos:closureFor scope X.env=pure cl) (hcell:∀ y∈scope.names,y.2≠.cell) (hk:scope.kind=.function) (hnames:∀ z∈scope.names,z.2=.local→scope.names.lookup z.1=some .local)
  (hx:scope.names.lookup x=some .local) (hcl:ClOk X.env cl) (hhas:((relabel scope X.env).names.all fun z=>!(z.2 == .cell || z.2 == .free) || (cl.lookup z.1).isSome)=true) (hfv:FvOk X scope cl fv) (hnd:(x::fv.map (·.2)).Nodup)
  (hf:∀ s H C fp,PF (cxB X s H (compEnvC scope cl C X.env) fp (x::fv.map (·.2))) ifs tt) (he:∀ s H C fp,PE (cxB X s H (compEnvC scope cl C X.env) fp (x::fv.map (·.2))) elt te)
  (hs:∀ x,foldedSetIterable iter X.env x=pure x:=by intro _;rfl):PE X (.ListComp elt [⟨.Name x px,iter,ifs,0⟩] scope pos) (tComp wi fv tt te):=by
 intro pins s σ H Q I h
 rw [eval_ListComp]
 refine wpAny_comprehension_free (use:=none) rfl hs hclos hk hnames (thn (hi pins s σ H _ I h) fun v s1 h1=>thn h1 fun itv s2 h2=>?_)
 obtain ⟨it,fp,tn,J,H2,e,I2,T,st2,f2,hw⟩:=h2
 subst e
 refine blk_run (RR:=fun acc C=>compPost (model X.prog X.w) X.A X.xe none (EP X pins σ Q) acc C) hc I2 T st2 f2 hcell hk hx hcl hhas hfv hnd hf he hw fun D C σ' H' s' hC Ib q=>?_
 obtain ⟨m,hn,_⟩:=Ib.loc
 exact ⟨m,hn,fun h' sb=>⟨.ref D,H',Inv.letGo I2 (blk_land I2 f2 Ib) hC Ib.free sb,rfl,q⟩⟩
theorem ps_comp {y:Str} {iy:Nat} {py spos:Pos} (hc:X.calm=true) (hN:X.N.Nodup) (hy:X.N[iy]?=some y) (hyl:Loc X.env.scope y) (hi:PI X (.Name x px) iter wi) (hsw:swapsWith (.ListComp elt [⟨.Name x px,iter,ifs,0⟩] scope pos) (some (.Name y py)) spos.line X.env=pure true)
  (hclos:closureFor scope X.env=pure cl) (hcell:∀ y∈scope.names,y.2≠.cell) (hk:scope.kind=.function) (hnames:∀ z∈scope.names,z.2=.local→scope.names.lookup z.1=some .local)
  (hx:scope.names.lookup x=some .local) (hcl:ClOk X.env cl) (hhas:((relabel scope X.env).names.all fun z=>!(z.2 == .cell || z.2 == .free) || (cl.lookup z.1).isSome)=true) (hfv:FvOk X scope cl fv) (hnd:(x::fv.map (·.2)).Nodup)
  (hf:∀ s H C fp,PF (cxB X s H (compEnvC scope cl C X.env) fp (x::fv.map (·.2))) ifs tt) (he:∀ s H C fp,PE (cxB X s H (compEnvC scope cl C X.env) fp (x::fv.map (·.2))) elt te)
  (hyf:X.fn y=true∨X.env.scope.names.lookup y=some .local:=by first | exact .inl rfl | exact .inr rfl) (hs:∀ x,foldedSetIterable iter X.env x=pure x:=by intro _;rfl) :
  PS X (.Assign [.Name y py] (.ListComp elt [⟨.Name x px,iter,ifs,0⟩] scope pos) spos) (tAsg (tComp wi fv tt te) (gName iy)):=by
 intro pins s σ H D h' h
 have I:=h'
 rw [exec_Assign_Name_used _ _ _ _ hsw]
 refine wpAny_bind (wpAny_standAt (wpAny_bind ?_))
 show wpAny _ X.A (do let _ ←comprehension (.ListComp elt [⟨.Name x px,iter,ifs,0⟩] scope pos) scope X.env _ (newList []) false (eval iter X.env) (some (assign (.Name y py) X.env))) _ _ s
 refine wpAny_bind (wpAny_mono (wpAny_comprehension_free (use:=some (assign (.Name y py) X.env)) (Q:=fun _ s'=>SP X pins D .next s') rfl hs hclos hk hnames (thn (hi pins s σ H _ I h) fun v s1 h1=>thn h1 fun itv s2 h2=>?_)) (fun _ s' hq=>wpAny_pure (wpAny_pure hq)) fun _ _ e=>e)
 obtain ⟨it,fp,tn,J,H2,e,I2,T,st2,f2,hw⟩:=h2
 subst e
 refine blk_run (Q:=fun v H1=>gName iy v σ H1 D.nx) (RR:=fun acc C=>compPost (model X.prog X.w) X.A X.xe (some (assign (.Name y py) X.env)) (fun _ s'=>SP X pins D .next s') acc C) hc I2 T st2 f2 hcell hk hx hcl hhas hfv hnd hf he hw fun D' C σ' H' s' hC Ib q=>?_
 obtain ⟨m,hn,_⟩:=Ib.loc
 show wpAny _ X.A (assign (.Name y py) X.env (.ref D')) _ _ _
 refine wpAny_assign_Name (store_ok2 (blk_land I2 f2 Ib) hN hy hyl (v:=.ref D') rfl (fun s3 I3 hsb=>?_) hyf)
 obtain ⟨a,sb3,ha⟩:=hsb
 have nC:C≠a:=fun z=>by
  rcases ha with e | e
  ·exact absurd (Nat.lt_of_lt_of_le I2.lt hC) (by rw [z,e];exact Nat.lt_irrefl _)
  ·obtain ⟨v,o,eo,d⟩:=I2.cell y a e
   exact absurd (Nat.lt_of_lt_of_le (Heap.lt_size eo) (by rw [←z];exact hC)) (Nat.lt_irrefl _)
 exact ⟨m,hn.sameBut sb3 nC,fun h'' sb=>⟨_,H',Inv.letGo I2 I3 hC Ib.free sb,q⟩⟩
end
theorem comp_range {lo:Int} {n:Nat} {tt:TT} {te:TE} {σf:List (Option V)} {D:Addr} {Q:VK} {H:Hp} (Pv:Nat→List V→Hp→Prop) (h0:Pv 0 [] (upd H D (.lst [])))
  (hs:∀ i acc H2,i<n→Pv i acc H2→tt (some (.int (lo+i))::σf) H2 fun b H4=>if b=true then te (some (.int (lo+i))::σf) H4 fun y H5=>H5 D=some (.lst acc)∧acc.length<sizeLine∧Pv (i+1) (acc++[y]) (upd H5 D (.lst (acc++[y]))) else Pv (i+1) acc H4)
  (hd:∀ acc H2,Pv n acc H2→Q (.ref D) H2):CompGoal (Itr lo n) tt te σf D Q H:=by
 refine ⟨fun k i acc H=>k=n - i∧i≤n∧Pv i acc H,⟨n,by simp,Nat.zero_le _,h0⟩,?_⟩
 rintro k i acc H2 ⟨rfl,hi,p⟩
 by_cases hlt:i<n
 ·refine .inr ⟨hlt,Pv (i+1),fun l H' p'=>⟨n - (i+1),by lia,rfl,hlt,p'⟩,fun x H' y=>?_⟩
  obtain ⟨e,y⟩:=y
  subst e y
  exact hs i acc _ hlt p
 ·have e:i=n:=by lia
  subst e
  exact .inl ⟨Nat.le_refl _,hd acc H2 p⟩
theorem comp_list {K:PySem.W.Frag} {a:Addr} {xs:List V} {tt:TT} {te:TE} {σf:List (Option V)} {D:Addr} {Q:VK} {H:Hp} (Pv:Nat→List V→Hp→Prop) (h0:Pv 0 [] (upd H D (.lst []))) (hl:∀ i acc H,i≤xs.length→Pv i acc H→SqL K H a xs)
  (hs:∀ i x acc H2,xs[i]?=some x→Pv i acc H2→tt (some x::σf) H2 fun b H4=>if b=true then te (some x::σf) H4 fun y H5=>H5 D=some (.lst acc)∧acc.length<sizeLine∧Pv (i+1) (acc++[y]) (upd H5 D (.lst (acc++[y]))) else Pv (i+1) acc H4)
  (hd:∀ acc H2,Pv xs.length acc H2→Q (.ref D) H2):CompGoal (Itl K a) tt te σf D Q H:=by
 refine ⟨fun k i acc H=>k=xs.length - i∧i≤xs.length∧Pv i acc H,⟨xs.length,by simp,Nat.zero_le _,h0⟩,?_⟩
 rintro k i acc H2 ⟨rfl,hi,p⟩
 have q:=hl i acc H2 hi p
 by_cases hlt:i<xs.length
 ·refine .inr ⟨⟨xs,xs[i],q,by simp [hlt]⟩,Pv (i+1),fun l H' p'=>⟨xs.length - (i+1),by lia,rfl,hlt,p'⟩,fun x H' y=>?_⟩
  obtain ⟨e,y⟩:=y
  subst e
  exact hs i x acc _ (y xs q) p
 ·have e:i=xs.length:=by lia
  subst e
  exact .inl ⟨⟨xs,q,Nat.le_refl _⟩,hd acc H2 p⟩
end L2
namespace L2
open PySem PySem.Spec PyProof.Rows
section
variable {X:Cx}
theorem preSum_list:∀ (ns:List Int) (k:Nat),k≤ns.length→preSum (fun i=>ns.getD i 0) k=(ns.take k).sum
 | ns,0,_=>by simp [preSum]
 | ns,k+1,h=>by
  have e:ns.take (k+1)=ns.take k++[ns[k]]:=by rw [Z22,List.getElem?_eq_getElem (by lia)];rfl
  rw [preSum,preSum_list ns k (by lia),e,List.sum_append,Z0,List.getElem?_eq_getElem (by lia)]
  simp
theorem call_sum_of (hc:X.calm=true):CallR X (.builtin "sum") (fun xs H Q=>∃ (p:Addr) (ns:List Int),xs=[.ref p]∧SqL X.K H p (ns.map V.int)∧Q (.int ns.sum) H):=by
 intro pins s σ H xs us Q I r h
 obtain ⟨p,ns,rfl,hq,q⟩:=h
 obtain ⟨u,rfl,rx⟩:=vals1 r
 cases rx
 obtain ⟨its,rits,pl,hz⟩:=I.list hq
 have hlen:=rits.length
 rw [Z1] at hlen
 have alt:p<s.heap.objs.size:=by obtain ⟨o,e,_⟩:=pl.isList;exact Heap.lt_size e
 refine call_sum_walkG (wpAny_pyIter_list pl.isList ?_)
 have up:∀ b o,s.heap.get? b=some o→(s.heap.push { cls:=.type "list_iterator",data:=.fields #[.ref p,.int 0 0] }).get? b=some o:=fun b o e=>Heap.get?_push_of_some _ e
 refine ⟨s.heap.objs.size,[s.heap.objs.size,p],[s.heap.objs.size],its.toArray.size,_,_,fun i=>ns.getD i 0,rfl,Walks.list (A:=X.A.in1) (I.ok.hd hc) _ p (Nat.ne_of_lt alt) its.toArray,⟨⟨_,Heap.get?_push_size _ rfl,rfl,rfl⟩,pl.isList.at fun o e=>up p o e⟩,fun b hb=>?_,fun i v hv=>?_,fun h' tk t' kk=>?_⟩
 ·show b<(s.heap.push _).objs.size
  rw [Heap.size_push]
  rcases List.mem_cons.mp hb with z | z
  ·rw [z];exact Nat.lt_succ_self _
  ·rw [List.mem_singleton.mp z];exact Nat.lt_succ_of_lt alt
 ·have hv':its[i]?=some v:=by simpa using hv
  have hi:=(List.getElem?_eq_some_iff.mp hv').1
  obtain ⟨u2,hu2,ru2⟩:=rits.get (x:=.int (ns.getD i 0)) (i:=i) (by rw [Z6,List.getElem?_eq_getElem (by lia),Z0,List.getElem?_eq_getElem (by lia)];rfl)
  rw [hv'] at hu2
  cases hu2
  exact ru2
 ·refine ⟨.int ns.sum,H,I.kept (t':=tk) fun b o e=>kk b o (fun z=>?_) (up b o e),⟨t',?_⟩,q⟩
  ·rw [List.mem_singleton.mp z] at e
   exact absurd (Heap.lt_size e) (Nat.lt_irrefl _)
  ·rw [preSum_list ns _ (by simp [←hlen]),List.size_toArray,←hlen,List.take_length]
theorem call_max_of (hc:X.calm=true):CallR X (.builtin "max") (fun xs H Q=>∃ (p:Addr) (ns:List Int),xs=[.ref p]∧SqL X.K H p (ns.map V.int)∧0<ns.length∧∀ m:Int,m∈ns→(∀ n∈ns,n≤m)→Q (.int m) H):=by
 intro pins s σ H xs us Q I r h
 obtain ⟨p,ns,rfl,hq,hpos,q⟩:=h
 obtain ⟨u,rfl,rx⟩:=vals1 r
 cases rx
 obtain ⟨its,rits,pl,hz⟩:=I.list hq
 have hlen:=rits.length
 rw [Z1] at hlen
 have alt:p<s.heap.objs.size:=by obtain ⟨o,e,_⟩:=pl.isList;exact Heap.lt_size e
 have up:∀ b o,s.heap.get? b=some o→(s.heap.push { cls:=.type "list_iterator",data:=.fields #[.ref p,.int 0 0] }).get? b=some o:=fun b o e=>Heap.get?_push_of_some _ e
 have hval:∀ (i:Nat) (v:Value),its.toArray[i]?=some v→i<ns.length∧∃ t,v=.int (ns.getD i 0) t:=fun i v hv=>by
  have hv':its[i]?=some v:=by simpa using hv
  have hi:=(List.getElem?_eq_some_iff.mp hv').1
  obtain ⟨u2,hu2,ru2⟩:=rits.get (x:=.int (ns.getD i 0)) (i:=i) (by rw [Z6,List.getElem?_eq_getElem (by lia),Z0,List.getElem?_eq_getElem (by lia)];rfl)
  rw [hv'] at hu2
  cases hu2
  exact ⟨by lia,ru2⟩
 refine call_max_walk (wpAny_pyIter_list pl.isList ?_)
 refine ⟨s.heap.objs.size,[s.heap.objs.size,p],[s.heap.objs.size],its.toArray.size,_,_,_,rfl,Walks.list (A:=X.A.in1) (I.ok.hd hc) _ p (Nat.ne_of_lt alt) its.toArray,⟨⟨_,Heap.get?_push_size _ rfl,rfl,rfl⟩,pl.isList.at fun o e=>up p o e⟩,fun b hb=>?_,by rw [Z17];lia,CmpOf.ints_gt (fun i=>ns.getD i 0) (fun i v hv=>(hval i v hv).2),fun v h' tk hv kk=>?_⟩
 ·show b<(s.heap.push _).objs.size
  rw [Heap.size_push]
  rcases List.mem_cons.mp hb with z | z
  ·rw [z];exact Nat.lt_succ_self _
  ·rw [List.mem_singleton.mp z];exact Nat.lt_succ_of_lt alt
 ·obtain ⟨hb,t,rfl⟩:=hval _ v hv
  refine ⟨.int _,H,I.kept (t':=tk) fun b o e=>kk b o (fun z=>?_) (up b o e),⟨t,rfl⟩,q _ ?_ ?_⟩
  ·rw [List.mem_singleton.mp z] at e
   exact absurd (Heap.lt_size e) (Nat.lt_irrefl _)
  ·rw [Z0,List.getElem?_eq_getElem hb]
   exact List.getElem_mem hb
  ·intro n hn
   obtain ⟨j,hj,e⟩:=List.getElem_of_mem hn
   have z:=(argBest_gt (fun i=>ns.getD i 0) (its.toArray.size - 1)).2 j (by rw [Z17];lia)
   have e2:ns.getD j 0=n:=by rw [Z0,List.getElem?_eq_getElem hj];exact e
   rw [e2] at z
   exact z
theorem call_min_of (hc:X.calm=true):CallR X (.builtin "min") (fun xs H Q=>∃ (p:Addr) (ns:List Int),xs=[.ref p]∧SqL X.K H p (ns.map V.int)∧0<ns.length∧∀ m:Int,m∈ns→(∀ n∈ns,m≤n)→Q (.int m) H):=by
 intro pins s σ H xs us Q I r h
 obtain ⟨p,ns,rfl,hq,hpos,q⟩:=h
 obtain ⟨u,rfl,rx⟩:=vals1 r
 cases rx
 obtain ⟨its,rits,pl,hz⟩:=I.list hq
 have hlen:=rits.length
 rw [Z1] at hlen
 have alt:p<s.heap.objs.size:=by obtain ⟨o,e,_⟩:=pl.isList;exact Heap.lt_size e
 have up:∀ b o,s.heap.get? b=some o→(s.heap.push { cls:=.type "list_iterator",data:=.fields #[.ref p,.int 0 0] }).get? b=some o:=fun b o e=>Heap.get?_push_of_some _ e
 have hval:∀ (i:Nat) (v:Value),its.toArray[i]?=some v→i<ns.length∧∃ t,v=.int (ns.getD i 0) t:=fun i v hv=>by
  have hv':its[i]?=some v:=by simpa using hv
  have hi:=(List.getElem?_eq_some_iff.mp hv').1
  obtain ⟨u2,hu2,ru2⟩:=rits.get (x:=.int (ns.getD i 0)) (i:=i) (by rw [Z6,List.getElem?_eq_getElem (by lia),Z0,List.getElem?_eq_getElem (by lia)];rfl)
  rw [hv'] at hu2
  cases hu2
  exact ⟨by lia,ru2⟩
 refine call_min_walk (wpAny_pyIter_list pl.isList ?_)
 refine ⟨s.heap.objs.size,[s.heap.objs.size,p],[s.heap.objs.size],its.toArray.size,_,_,_,rfl,Walks.list (A:=X.A.in1) (I.ok.hd hc) _ p (Nat.ne_of_lt alt) its.toArray,⟨⟨_,Heap.get?_push_size _ rfl,rfl,rfl⟩,pl.isList.at fun o e=>up p o e⟩,fun b hb=>?_,by rw [Z17];lia,CmpOf.ints_lt (fun i=>ns.getD i 0) (fun i v hv=>(hval i v hv).2),fun v h' tk hv kk=>?_⟩
 ·show b<(s.heap.push _).objs.size
  rw [Heap.size_push]
  rcases List.mem_cons.mp hb with z | z
  ·rw [z];exact Nat.lt_succ_self _
  ·rw [List.mem_singleton.mp z];exact Nat.lt_succ_of_lt alt
 ·obtain ⟨hb,t,rfl⟩:=hval _ v hv
  refine ⟨.int _,H,I.kept (t':=tk) fun b o e=>kk b o (fun z=>?_) (up b o e),⟨t,rfl⟩,q _ ?_ ?_⟩
  ·rw [List.mem_singleton.mp z] at e
   exact absurd (Heap.lt_size e) (Nat.lt_irrefl _)
  ·rw [Z0,List.getElem?_eq_getElem hb]
   exact List.getElem_mem hb
  ·intro n hn
   obtain ⟨j,hj,e⟩:=List.getElem_of_mem hn
   have z:=(argBest_lt (fun i=>ns.getD i 0) (its.toArray.size - 1)).2 j (by rw [Z17];lia)
   have e2:ns.getD j 0=n:=by rw [Z0,List.getElem?_eq_getElem hj];exact e
   rw [e2] at z
   exact z
end
end L2
namespace L2
open PySem PySem.Spec PyProof.Rows
def Itrs (lo c:Int) (n:Nat):It:=⟨fun i _=>i<n,fun i H x H'=>H'=H∧x=.int (lo+i*c),fun i _=>n≤i⟩
def rsz (a b c:Int):Nat:=if a<b then ((b - a - 1) / c+1).toNat else 0
theorem rsz_is {a b c:Int} (hc:0<c):Builtin.Range.rangeSize a b c=((rsz a b c:Nat):Int):=by
 unfold Builtin.Range.rangeSize rsz
 rw [if_pos hc]
 split
 ·have:=Int.ediv_nonneg (show 0≤b - a - 1 by lia) (Int.le_of_lt hc)
  lia
 ·rfl
theorem turn_rangeS {P:Program} {w:World} {K:PySem.W.Frag} {tg:Expr} (it:Addr) (lo c:Int) (n:Nat):Turn P w K tg (Itrs lo c n) [it] it (fun i h=>IsRangeIter h it (lo+(i:Nat)*c) ((n:Int) - (i:Nat)) c) where
 mem:=List.mem_singleton.mpr rfl
 obj:=fun i h st b hb=>by
  cases List.mem_singleton.mp hb
  refine ⟨_,st,fun v z=>?_⟩
  have y:Data.fields _=Data.cell v:=z
  cases y
 keep:=fun i h h' st k=>k it (List.mem_singleton.mpr rfl) _ st
 item:=by
  intro X hP hw hK hc i pins s σ H E I hf st hg
  subst hP hw hK
  obtain ⟨f0,f1,f2,f3,f4,f5⟩:=hf it (List.mem_singleton.mpr rfl)
  have V:=Walks.range (prog:=X.prog) (w:=X.w) (I.ok.hd hc) it lo c n
  refine V.item i s _ _ hg st fun v h' tk hv st' kk=>?_
  obtain ⟨t,rfl⟩:=hv
  have J:Inv X pins σ H { s with heap:=h',toks:=tk }:=I.turned (fun b o hb e=>kk b o (fun z=>hb (List.mem_singleton.mp z)) e) f0 f1 f3 f4 f5
  exact ⟨_,rfl,go_of (s:={ s with heap:=h',toks:=tk }) (n:="range_iterator") st' rfl rfl (by decide) ⟨.int (lo+i*c),H,J,⟨t,rfl⟩,⟨rfl,rfl⟩,st',fun b hb=>(hf b hb).1⟩⟩
 done:=by
  intro X hP hw hK hc i pins s σ H E I hf st hg
  subst hP hw hK
  obtain ⟨f0,f1,f2,f3,f4,f5⟩:=hf it (List.mem_singleton.mpr rfl)
  exact wpAny_pyNext_range_end (I.ok.hd hc) st (by have z:n≤i:=hg;lia) fun h' eb=>⟨rfl,I.turned (t':=s.toks) (fun b o hb e=>eb b o hb e) f0 f1 f3 f4 f5⟩
 self:=fun _ _ _ _ _ st h=>wpAny_pyIter_rangeiter st h
def iRng3 (ta:TA):TI:=fun σ H R=>ta σ H fun vs H1=>∃ a b c:Int,vs=[.int a,.int b,.int c]∧(0≤a∧a<2^29∧0≤b∧b<2^29∧0<c∧c<2^29)∧R (Itrs a c (rsz a b c)) H1
theorem small_step {a b c:Int} (h:0≤a∧a<2^29∧0≤b∧b<2^29∧0<c∧c<2^29):Builtin.Range.small a b c=true:=by
 obtain ⟨a0,a1,b0,b1,c0,c1⟩:=h
 unfold Builtin.Range.small
 rw [rsz_is c0]
 have hr:((rsz a b c:Nat):Int)≤2^29:=by
  unfold rsz
  split
  ·have h1:=Int.ediv_le_self c (show 0≤b - a - 1 by lia)
   have h2:=Int.ediv_nonneg (show 0≤b - a - 1 by lia) (Int.le_of_lt c0)
   lia
  ·lia
 simp only [Builtin.Range.rangeFitsLong,Bool.and_eq_true,Bool.or_eq_true,decide_eq_true_eq,beq_iff_eq]
 rw [if_pos c0]
 simp only [Bool.and_eq_true,decide_eq_true_eq]
 lia
section
variable {X:Cx} {tg:Expr}
theorem pi_range3 {a b c:Expr} {ta:TA} {p pos:Pos} (hg:Gl X "range") (hm:X.mg "range"=none) (ha:PA X [a,b,c] ta) (hs:starEach [a,b,c] X.env=[(false,eval a X.env),(false,eval b X.env),(false,eval c X.env)]:=by rfl) (hs2:starEach [b,c] X.env=[(false,eval b X.env),(false,eval c X.env)]:=by rfl) :
  PI X tg (.Call (.Name "range" p) [a,b,c] [] pos) (iRng3 ta):=by
 intro pins s σ H R I h
 refine Call_ (ld_blt I hg hm boot_range (PyProof.Rows.callWith_type1 (thn (ha pos pins s σ H _ I h) fun us s1 ⟨vs,H1,I1,r1,q1⟩=>?_) (by rw [hs,hs2]) (by rw [hs2];rfl)))
 obtain ⟨x,y,z,e,hb,q⟩:=q1
 subst e
 obtain ⟨u1,u2,u3,rfl,⟨t1,rfl⟩,⟨t2,rfl⟩,⟨t3,rfl⟩⟩:∃ u1 u2 u3,us=[u1,u2,u3]∧RelV (.int x) u1∧RelV (.int y) u2∧RelV (.int z) u3:=by
  cases r1 with
  | cons r rr =>
   cases rr with
   | cons r' rr =>
    cases rr with
    | cons r'' rr =>
     cases rr
     exact ⟨_,_,_,rfl,r,r',r''⟩
 refine call_range_3 (by lia) ?_ (Or.inl (PyProof.noPylong_small (by lia)))
 refine wpAny_pyIter_range (IsRange.new ..) (small_step hb) ?_
 have J:Inv X pins σ H1 { s1 with heap:=s1.heap.push { cls:=.type "range",data:=.fields #[.int x t1,.int y t2,.int z t3] },toks:=s1.toks }:=I1.kept fun b o e=>Heap.get?_push_of_some _ e
 generalize hG:s1.heap.push { cls:=.type "range",data:=.fields #[.int x t1,.int y t2,.int z t3] }=G at J ⊢
 refine ⟨G.objs.size,[G.objs.size],_,_,H1,rfl,J.kept (t':=s1.toks) fun b o e=>Heap.get?_push_of_some _ e,turn_rangeS _ x z (rsz x y z),?_,fun b hb=>?_,q⟩
 ·have e1:x+((0:Nat):Int)*z=x:=by simp
  have e2:(((rsz x y z):Nat):Int) - ((0:Nat):Int)=Builtin.Range.rangeSize x y z:=by rw [rsz_is hb.2.2.2.2.1];simp
  show IsRangeIter _ _ (x+((0:Nat):Int)*z) ((((rsz x y z):Nat):Int) - ((0:Nat):Int)) z
  rw [e1,e2]
  exact Heap.get?_push_size _ rfl
 ·cases List.mem_singleton.mp hb
  exact J.fpOk (Nat.le_refl _) (J.hok.fresh (Nat.le_refl _))
end
theorem comp_rangeS {lo c:Int} {n:Nat} {tt:TT} {te:TE} {σf:List (Option V)} {D:Addr} {Q:VK} {H:Hp} (Pv:Nat→List V→Hp→Prop) (h0:Pv 0 [] (upd H D (.lst [])))
  (hs:∀ i acc H2,i<n→Pv i acc H2→tt (some (.int (lo+i*c))::σf) H2 fun b H4=>if b=true then te (some (.int (lo+i*c))::σf) H4 fun y H5=>H5 D=some (.lst acc)∧acc.length<sizeLine∧Pv (i+1) (acc++[y]) (upd H5 D (.lst (acc++[y]))) else Pv (i+1) acc H4)
  (hd:∀ acc H2,Pv n acc H2→Q (.ref D) H2):CompGoal (Itrs lo c n) tt te σf D Q H:=by
 refine ⟨fun k i acc H=>k=n - i∧i≤n∧Pv i acc H,⟨n,by simp,Nat.zero_le _,h0⟩,?_⟩
 rintro k i acc H2 ⟨rfl,hi,p⟩
 by_cases z:i<n
 ·refine .inr ⟨z,Pv (i+1),fun l H' p'=>⟨n - (i+1),by lia,rfl,z,p'⟩,fun x H' y=>?_⟩
  obtain ⟨e1,e2⟩:=y
  subst e1 e2
  exact hs i acc _ z p
 ·obtain rfl:i=n:=by lia
  exact .inl ⟨Nat.le_refl _,hd acc H2 p⟩
end L2
namespace L2
open PySem PySem.Spec PyProof.Rows
section
variable {X:Cx} {pos:Pos}
end
structure FunD (K:PySem.W.Frag) (x qual:Str) (st:Stmt) (f:Addr) (fd:FuncData) (dT:Addr) (its:List Value):Prop where
 ex:∃ (oc:Value) (od:Option Addr) (kV doc pm:Value) (an:Option Addr) (cdv ct:Value) (osl:Array (Option Value)),
  fd=PySem.W.fnOf x qual (defArgs st) (defBody st) (defScope st) (.ref dT) kV doc pm an cdv ct∧K.lookup f=some ⟨oc,od,.func fd,osl⟩∧PySem.W.codeIn K cdv qual=true
 df:∃ (oc:Value) (od:Option Addr) (n:Nat) (osl:Array (Option Value)),K.lookup dT=some ⟨oc,od,.seq its.toArray n,osl⟩
 kp:PySem.W.keepIn K (.ref f)=true
structure HasD (P:Program) (w:World) (K:PySem.W.Frag) (mg:Str→Option Value) (base:Heap) (k:Nat) (f:Addr) (ps:List Str) (sp:Sp) (dvs:List V):Prop where
 ex:∃ fd,FnOk P w K mg base (CXF P w) k f fd ps sp∧Binds K fd ps []∧∃ ds,Vals dvs ds∧Binds K fd ps ds
 kp:PySem.W.keepIn K (.ref f)=true
section
variable {P:Program} {w:World} {K:PySem.W.Frag} {mg:Str→Option Value} {base:Heap} {x qual:Str} {st:Stmt} {f:Addr} {fd:FuncData} {N ps:List Str} {k:Nat} {sp:Sp} {dvs:List V}
theorem HasD.all (G:HasD P w K mg base k f ps sp dvs):Has P w K mg base k f ps sp:=by
 obtain ⟨⟨fd,F,b,_⟩,kp⟩:=G
 exact ⟨⟨fd,F,b⟩,kp⟩
abbrev BindsD (x qual:Str) (st:Stmt) (ps:List Str) (dT:Addr) (its ds:List Value) (n:Nat):Prop:=∀ (kV doc pm:Value) (an:Option Addr) (cdv ct:Value) (us:List Value),us.length=n →
 ∃ c:Option (Array Value)→Sem (List (Str × Value)),bindArgs (PySem.W.fnOf x qual (defArgs st) (defBody st) (defScope st) (.ref dT) kV doc pm an cdv ct) ⟨us,[]⟩=seqItems? (.ref dT) >>= c∧c (some its.toArray)=pure (ps.zip (us++ds))
theorem FunD.binds {dT:Addr} {its ds:List Value} {n:Nat} (F:FunD K x qual st f fd dT its) (h:BindsD x qual st ps dT its ds n) (hn:n+ds.length=ps.length):Binds K fd ps ds:=by
 obtain ⟨⟨oc,od,kV,doc,pm,an,cdv,ct,osl,rfl,lk,hcd⟩,⟨oc2,od2,n2,osl2,l2⟩,_⟩:=F
 intro s us X hl
 obtain ⟨c,h1,h2⟩:=h kV doc pm an cdv ct us (by rw [Z4] at hl;lia)
 exact BindsTo.of_defaults (T:=dT) rfl (X _ _ l2) rfl h1 h2
end
section
variable {X:Cx} {k:Nat} {f:Addr} {ps:List Str} {sp:Sp} {dvs:List V} {E:St→XK} {x:Str} {p pos:Pos} {e:Expr} {es:List Expr} {t:TA}
end
end L2
namespace L2
open PySem PySem.Spec PyProof.Rows
section
variable {prog:Program} {w:World} {A:Around} {E:Value→Shared→Prop} {s:Shared}
theorem nextOf_tup_item {it t:Addr} {i:Nat} {items} {x:Value} {Q:Value→Shared→Prop} (hit:s.heap.IsTupleIter it t i) (ht:s.heap.IsTuple t items) (hx:items[i]?=some x)
  (hQ:∀ h',h'.IsTupleIter it t (i+1)→Heap.SameBut it s.heap h'→Q x { s with heap:=h' }):wpAny (model prog w) A (Builtin.SmallTypes.nextOf (.ref it)) Q E s:=by
 obtain ⟨o,ho,hc,hd⟩:=id hit
 obtain ⟨ol,hol,_,nl,hdl⟩:=ht
 unfold Builtin.SmallTypes.nextOf
 refine wpAny_bind (wpAny_callSpecial?_slot (name:=Str.ofString "__next__") hit.typeIs F.slot_tuple_iterator_next (wpAny_call_entry F.slot_tuple_iterator_next hit.typeIs F.entry_tuple_iterator_next ?_ (F.args_tuple_iterator_next_1 _)))
 (show wpAny _ _ (field (.ref it) 0 >>= _) _ _ s);refine wpAny_bind (wpAny_field ho hd (x:=.ref t) rfl ?_)
 (show wpAny _ _ (if (Value.ref t == Value.none)=true then _ else _) _ _ s);rw [if_neg (show ¬ ((Value.ref t == Value.none)=true) from Bool.false_ne_true)]
 (show wpAny _ _ (field (.ref it) 1 >>= _) _ _ s);refine wpAny_bind (wpAny_field ho hd (x:=.int i 0) rfl ?_)
 (show wpAny _ _ (seqItems? (.ref t) >>= _) _ _ s);refine wpAny_bind (wpAny_seqItems hol hdl ?_)
 simp only [Int.toNat_natCast,hx]
 refine wpAny_bind (wpAny_setField ho hd (by simp) (wpAny_pure ⟨x,rfl,wpAny_pure (hQ _ ⟨_,Heap.get?_update_self _ ho (Obj.isFreed_of_fields (Obj.data_mapFields hd _)),(Obj.cls_mapFields ..).trans hc,by rw [Obj.data_mapFields hd];simp [rawInt]⟩ (Heap.SameBut.update ..))⟩))
theorem nextOf_tup_end {it t:Addr} {i:Nat} {items} {Q:Value→Shared→Prop} (hh:A.handled=none) (hit:s.heap.IsTupleIter it t i) (ht:s.heap.IsTuple t items) (hx:items[i]?=none)
  (hE:∀ h' e,Heap.ExtBut it s.heap h'→(∃ o,h'.get? e=some o∧o.cls=.type "StopIteration")→E (.ref e) { s with heap:=h' }):wpAny (model prog w) A (Builtin.SmallTypes.nextOf (.ref it)) Q E s:=by
 obtain ⟨o,ho,hc,hd⟩:=id hit
 obtain ⟨ol,hol,_,nl,hdl⟩:=ht
 unfold Builtin.SmallTypes.nextOf
 refine wpAny_bind (wpAny_callSpecial?_slot (name:=Str.ofString "__next__") hit.typeIs F.slot_tuple_iterator_next (wpAny_call_entry F.slot_tuple_iterator_next hit.typeIs F.entry_tuple_iterator_next ?_ (F.args_tuple_iterator_next_1 _)))
 (show wpAny _ _ (field (.ref it) 0 >>= _) _ _ s);refine wpAny_bind (wpAny_field ho hd (x:=.ref t) rfl ?_)
 (show wpAny _ _ (if (Value.ref t == Value.none)=true then _ else _) _ _ s);rw [if_neg (show ¬ ((Value.ref t == Value.none)=true) from Bool.false_ne_true)]
 (show wpAny _ _ (field (.ref it) 1 >>= _) _ _ s);refine wpAny_bind (wpAny_field ho hd (x:=.int i 0) rfl ?_)
 (show wpAny _ _ (seqItems? (.ref t) >>= _) _ _ s);refine wpAny_bind (wpAny_seqItems hol hdl ?_)
 simp only [Int.toNat_natCast,hx]
 refine wpAny_bind (wpAny_rule (wpAny_bind (wpAny_setField ho hd (by simp) ?_)));show wpAny _ _ (newExc (.type "StopIteration") [] >>= _) _ _ _
 refine wpAny_bind ?_
 simp only [newExc,newTuple]
 refine wpAny_bind (wpAny_newObj_type ?_ (by size_fits));refine wpAny_bind (m:=firstArgMember _ _) (wpAny_of_eq (a:=Value.none) (by first | rfl | (simp only [firstArgMember];rfl)) ?_);refine wpAny_newObj_type ?_ (by size_fits)
 simp only [raiseNew]
 refine wpAny_bind (wpAny_handled ?_);(first | rw [show A.in1.handled=none from hh] | rw [hh]);refine wpAny_bind (wpAny_pure (wpAny_throw ?_))
 exact (hE _ _ (((Heap.SameBut.update ..).extBut.push _).push _) ⟨_,Heap.get?_push_size _ rfl,rfl⟩)
theorem draws_tup (hh:A.handled=none) (it t:Addr) (hne:t≠it) (items:Array Value):Draws prog w A it [it,t] items.size (fun i v=>items[i]?=some v) (fun i h=>h.IsTupleIter it t i∧h.IsTuple t items) where
 live:=fun _ _ ⟨⟨o,ho,_⟩,_⟩=>⟨o,ho⟩
 frame:=fun _ _ _ ⟨st,o,ho,r⟩ hk=>⟨st.at fun o e=>hk it (by simp) o e,o,hk t (by simp) o ho,r⟩
 item:=fun i s Q E hi st hQ=>nextOf_tup_item st.1 st.2 (x:=items[i]) (by simp [hi]) fun h' hit' hs'=>hQ _ h' s.toks (by simp [hi]) ⟨hit',st.2.extBut hs'.extBut hne⟩ hs'
 done:=fun s Q E st hE=>nextOf_tup_end hh st.1 st.2 (by simp) hE
open AutoSeq1 (wpAny_loadPart') in
theorem meets_enumT (l:Addr) (items:Array Value) (n:Nat) (dct:Option Addr) (sl:Array (Option Value)) :
  Meets (Builtin.«enumerate.__new__» ⟨[.type "enumerate",.ref l],[]⟩) (fun _ R s=>s.heap.get? l=some { cls:=.type "tuple",dict:=dct,data:=.seq items n,slots:=sl } ∧
   R (.ok (.ret (.ref (s.heap.push { cls:=.type "tuple_iterator",data:=.fields #[.ref l,.int 0 0] }).objs.size)))
    { s with heap:=(s.heap.push { cls:=.type "tuple_iterator",data:=.fields #[.ref l,.int 0 0] }).push { cls:=.type "enumerate",data:=.fields #[.none,.bool false,.ref s.heap.objs.size,rawInt 0,.none,.none] } }) :=
 .of_wp fun prog w A R s h=>by
  obtain ⟨hp,g,d,tk,os⟩:=s;obtain ⟨hl,h⟩:=h
  have hsub:=sub_enumerate
  have hL:Heap.IsTuple (Shared.heap ⟨hp,g,d,tk,os⟩) l items:=⟨_,hl,rfl,n,rfl⟩
  wp_walk using wpAny_loadPart' hl
  refine wpAny_stack_any fun st=>wpAny_pure ?_
  split
  ·rename_i c _ _ _ _ _
   cases (c == Value.type "enumerate") <;> (wp_walk using wpAny_loadPart' hl,wpAny_pyIter_tuple hL) <;> exact ⟨_,rfl,h⟩
  ·(wp_walk using wpAny_loadPart' hl,wpAny_pyIter_tuple hL);exact ⟨_,rfl,h⟩
theorem call_enumT {l:Addr} {items:Array Value} {Q:Value→Shared→Prop} (hL:s.heap.IsTuple l items)
  (h:∀ h',IsEnum h' (s.heap.objs.size+1) s.heap.objs.size 0 .none→h'.IsTupleIter s.heap.objs.size l 0→h'.objs.size=s.heap.objs.size+2→(∀ b o,s.heap.get? b=some o→h'.get? b=some o)→Q (.ref (s.heap.objs.size+1)) { s with heap:=h' }) :
  wpAny (model prog w) A (call (.type "enumerate") [.ref l]) Q E s:=by
 obtain ⟨⟨c,dct,dt,sl⟩,hl,hc,n,hd⟩:=hL
 replace hc:c=.type "tuple":=hc
 replace hd:dt=.seq items n:=hd
 subst hc hd
 refine callType_new F.called_enumerate (by decide) (F.typeCall_enumerate_1 _) (F.newCall_enumerate_1 _) (fun obj=>F.args_object_init_2 obj _) F.entry_enumerate_new (meets_enumT l items n dct sl) ⟨hl,?_⟩
 have hz:(s.heap.push { cls:=.type "tuple_iterator",data:=.fields #[.ref l,.int 0 0] }).objs.size=s.heap.objs.size+1:=Heap.size_push ..
 show _∧_
 rw [hz]
 have he:IsEnum ((s.heap.push { cls:=.type "tuple_iterator",data:=.fields #[.ref l,.int 0 0] }).push { cls:=.type "enumerate",data:=.fields #[.none,.bool false,.ref s.heap.objs.size,rawInt 0,.none,.none] }) (s.heap.objs.size+1) s.heap.objs.size 0 .none:=by
  have:=Heap.get?_push_size (s.heap.push { cls:=.type "tuple_iterator",data:=.fields #[.ref l,.int 0 0] }) (o:={ cls:=.type "enumerate",data:=.fields #[.none,.bool false,.ref s.heap.objs.size,rawInt 0,.none,.none] }) rfl
  rw [hz] at this;exact this
 exact ⟨⟨_,he,rfl⟩,h _ he ⟨_,Heap.get?_push_of_some _ (Heap.get?_push_size _ rfl),rfl,rfl⟩ (by rw [Heap.size_push,hz]) fun b o x=>Heap.get?_push_of_some _ (Heap.get?_push_of_some _ x)⟩
theorem pyNext_enumT_end {e it t:Addr} {i:Nat} {items:Array Value} {old:Value} {Q:Option Value→Shared→Prop} (hh:A.handled=none) (he:IsEnum s.heap e it i old) (hit:s.heap.IsTupleIter it t i) (ht:s.heap.IsTuple t items) (hx:items[i]?=none)
  (hQ:∀ h',Heap.ExtBut it s.heap h'→Q none { s with heap:=h' }):wpAny (model prog w) A (pyNext (.ref e)) Q E s:=by
 have hT:s.TypeIs (.ref e) "enumerate":=⟨_,he,rfl⟩
 unfold pyNext
 refine wpAny_bind (wpAny_attempt (wpAny_callSpecial?_slot (name:=Str.ofString "__next__") hT F.slot_enumerate_next (wpAny_call_entry F.slot_enumerate_next hT F.entry_enumerate_next ?_ (F.args_enumerate_next_1 _))))
 (show wpAny _ _ (field (.ref e) 2 >>= _) _ _ _);refine wpAny_bind (wpAny_field he rfl (x:=.ref it) rfl ?_)
 refine wpAny_bind (nextOf_tup_end hh hit ht hx fun h' x he' hx'=>?_)
 obtain ⟨o,ho,hc⟩:=hx'
 exact wpAny_bind (wpAny_isInstance (T:="StopIteration") (b:=true) ⟨o,ho,hc⟩ isSubtype_stop (wpAny_pure (hQ _ he')))
end
def IteT (K:PySem.W.Frag) (a:Addr):It :=
 ⟨fun i H=>∃ xs x,SqT K H a xs∧xs[i]?=some x,fun i H v H'=>∃ p x,v=.ref p∧H p=none∧H'=upd H p (.tup [.int i,x])∧∀ xs,SqT K H a xs→xs[i]?=some x,fun i H=>∃ xs,SqT K H a xs∧xs.length≤i⟩
theorem turn_enumT {P:Program} {w:World} {K:PySem.W.Frag} {elts:List Expr} {ctx} {tpos:Pos} (a e it:Addr) (hne:e≠it) (hna:a≠it) (hea:e≠a) :
  Turn P w K (.Tuple elts ctx tpos) (IteT K a) [e,it] e (fun i h=>(∃ old,IsEnum h e it ((i:Nat):Int) old)∧h.IsTupleIter it a i) where
 mem:=by simp
 obj:=fun i h st b hb=>by
  obtain ⟨⟨old,q⟩,o,e1,c,d⟩:=st
  rcases List.mem_cons.mp hb with z | z
  ·rw [z];exact ⟨_,q,fun v y=>by cases y⟩
  ·rw [List.mem_singleton.mp z];exact ⟨o,e1,fun v y=>by rw [d] at y;cases y⟩
 keep:=fun i h h' st k=>by
  obtain ⟨⟨old,q⟩,li⟩:=st
  exact ⟨⟨old,k e (by simp) _ q⟩,li.at fun o z=>k it (by simp) o z⟩
 item:=by
  intro X hP hw hK hc i pins s σ H E I hf st hg
  subst hP hw hK
  obtain ⟨xs,x,hq,hx⟩:=hg
  obtain ⟨its,rv,p,hz⟩:=I.tuple hq
  obtain ⟨u,hu,ru⟩:=rv.get hx
  obtain ⟨⟨old,he⟩,li⟩:=st
  have hil:i<its.toArray.size:=by
   have:=(List.getElem?_eq_some_iff.mp hu).1
   simpa using this
  refine wpAny_pyNext_enum_itemD (draws_tup (A:=X.A.in1) (show X.A.in1.handled=none from I.ok.hd hc) it a hna its.toArray) he ⟨li,show s.heap.IsTuple a its.toArray from p⟩ hil hne (by simp [hne,hea]) fun y h1 tk hy out li1 ht hsz k1=>?_
  have ey:y=u:=by
   have e1:its.toArray[i]?=some u:=by simpa using hu
   rw [e1] at hy
   exact (Option.some.inj hy).symm
  subst ey
  refine ⟨_,rfl,wpAny_letOwnedTupleGo_enum out fun h2 he2 sb=>?_⟩
  have k2:∀ b o,b∉[e,it]→s.heap.get? b=some o→h2.get? b=some o:=fun b o hb z=>(sb.2 b fun y=>hb (by simp [y])).trans (k1 b o (fun y=>hb (by simp [y])) (fun y=>hb (by simp [y])) z)
  have hpe:s.heap.objs.size≠e:=Nat.ne_of_gt (Heap.lt_size he)
  have ht2:h2.get? s.heap.objs.size=some { cls:=.type "tuple",data:=.seq #[.int ((i:Nat):Int) tk,y] }:=(sb.2 _ hpe).trans ht
  have hn:H s.heap.objs.size=none:=I.hok.fresh (Nat.le_refl _)
  refine ⟨.ref s.heap.objs.size,upd H s.heap.objs.size (.tup [.int ((i:Nat):Int),x]),I.turnedNew (h':=h2) (t':=tk+1) hf k2 (Nat.le_refl _) ⟨by show 2≤sizeLine;decide,[.int ((i:Nat):Int) tk,y],.cons ⟨_,rfl⟩ (.cons ru .nil),⟨_,ht2,rfl,_,rfl⟩⟩,rfl,⟨_,x,rfl,hn,rfl,fun ys hy=>by rw [I.tuple_inj hy hq];exact hx⟩,⟨⟨y,?_⟩,?_⟩,fun b hb=>?_⟩
  ·have ec:(((i+1:Nat)):Int)=((i:Nat):Int)+1:=by push_cast;rfl
   rw [ec];exact he2
  ·exact li1.1.at fun o z=>(sb.2 it (Ne.symm hne)).trans z
  ·have b0:=(hf b hb).1
   rw [upd_ne fun z=>?_]
   ·exact b0
   ·obtain ⟨o,z1,_⟩:=id li
    rcases List.mem_cons.mp hb with y | y
    ·exact hpe (z.symm.trans y)
    ·exact absurd (Heap.lt_size z1) (by rw [←List.mem_singleton.mp y,z];exact Nat.lt_irrefl _)
 done:=by
  intro X hP hw hK hc i pins s σ H E I hf st hg
  subst hP hw hK
  obtain ⟨xs,hq,hx⟩:=hg
  obtain ⟨its,rv,p,hz⟩:=I.tuple hq
  obtain ⟨⟨old,he⟩,li⟩:=st
  obtain ⟨f0,f1,f2,f3,f4,f5⟩:=hf it (by simp)
  have hl:=rv.length
  exact pyNext_enumT_end (I.ok.hd hc) he li p (by simp;lia) fun h' eb=>⟨rfl,I.turned (t':=s.toks) (fun b o hb e=>eb b o hb e) f0 f1 f3 f4 f5⟩
 self:=fun _ _ _ _ _ st h=>by
  obtain ⟨⟨old,he⟩,_⟩:=st
  exact wpAny_pyIter_enum he h
section
variable {X:Cx} {elts:List Expr} {ctx} {tpos:Pos}
def iEnumT (K:PySem.W.Frag) (ta:TA):TI:=fun σ H R=>ta σ H fun vs H1=>∃ a xs,vs=[.ref a]∧SqT K H1 a xs∧R (IteT K a) H1
theorem pi_enumT {l:Expr} {ta:TA} {p pos:Pos} (hg:Gl X "enumerate") (hm:X.mg "enumerate"=none) (ha:PA X [l] ta) (hs:starEach [l] X.env=[(false,eval l X.env)]:=by rfl):PI X (.Tuple elts ctx tpos) (.Call (.Name "enumerate" p) [l] [] pos) (iEnumT X.K ta):=by
 intro pins s σ H R I h
 refine Call_ (ld_blt I hg hm boot_enumerate (PyProof.Rows.callWith_type1 (thn (ha pos pins s σ H _ I h) fun us s1 ⟨vs,H1,I1,r1,q1⟩=>?_) hs rfl))
 obtain ⟨a,xs,e,hq,q⟩:=q1
 subst e
 cases r1 with
 | cons r rr =>
  cases rr
  cases r
  obtain ⟨its,rv,pl,hz⟩:=I1.tuple hq
  have hal:a<s1.heap.objs.size:=by obtain ⟨o,ho,_⟩:=id pl;exact Heap.lt_size ho
  refine call_enumT pl fun h1 he li hsz k1=>?_
  refine wpAny_pyIter_enum he ?_
  have n1:H1 (s1.heap.objs.size+1)=none:=I1.hok.fresh (Nat.le_succ _)
  have n0:H1 s1.heap.objs.size=none:=I1.hok.fresh (Nat.le_refl _)
  refine ⟨s1.heap.objs.size+1,[s1.heap.objs.size+1,s1.heap.objs.size],_,_,H1,rfl,I1.kept (t':=s1.toks) k1,turn_enumT a _ _ (Nat.succ_ne_self _) (Nat.ne_of_lt hal) (Nat.ne_of_gt (Nat.lt_succ_of_lt hal)),⟨⟨_,he⟩,li⟩,fun b hb=>?_,q⟩
  rcases List.mem_cons.mp hb with z | z
  ·rw [z];exact I1.fpOk (Nat.le_succ _) n1
  ·rw [List.mem_singleton.mp z];exact I1.fpOk (Nat.le_refl _) n0
theorem for_enumT {K:PySem.W.Frag} {a:Addr} {xs:List V} {g:TG} {tb:TS} {D:Ends} {σ:St} {H:Hp} (Pv:Nat→St→Hp→Prop) (h0:Pv 0 σ H) (hl:∀ i σ H,i≤xs.length→Pv i σ H→SqT K H a xs)
  (hs:∀ i x p σ H,xs[i]?=some x→Pv i σ H→H p=none→g (.ref p) σ (upd H p (.tup [.int ((i:Nat):Int),x])) fun σ2 H2=>tb { D with nx:=Pv (i+1),ct:=Pv (i+1),bk:=D.nx } σ2 H2) (hd:∀ σ H,Pv xs.length σ H→D.nx σ H) :
  ∃ W:Nat→Nat→St→Hp→Prop,(∃ m,W 0 m σ H)∧∀ i m σ H,W i m σ H →
   ((IteT K a).stop i H∧D.nx σ H)∨((IteT K a).go i H∧∃ N:St→Hp→Prop,(∀ σ' H',N σ' H'→∃ m',m'<m∧W (i+1) m' σ' H')∧∀ x H',(IteT K a).yld i H x H'→g x σ H' fun σ2 H2=>tb { D with nx:=N,ct:=N,bk:=D.nx } σ2 H2):=by
 refine ⟨fun i m σ H=>m=xs.length - i∧i≤xs.length∧Pv i σ H,⟨xs.length,by simp,Nat.zero_le _,h0⟩,?_⟩
 rintro i m σ H ⟨rfl,hi,p⟩
 have q:=hl i σ H hi p
 by_cases hlt:i<xs.length
 ·refine .inr ⟨⟨xs,xs[i],q,by simp [hlt]⟩,Pv (i+1),fun σ' H' p'=>⟨xs.length - (i+1),by lia,rfl,hlt,p'⟩,fun v H' y=>?_⟩
  obtain ⟨p2,x,e1,e2,e3,y⟩:=y
  subst e1 e3
  exact hs i x p2 σ H (y xs q) p e2
 ·have e:i=xs.length:=by lia
  subst e
  exact .inl ⟨⟨xs,q,Nat.le_refl _⟩,hd σ H p⟩
end
section
variable {X:Cx}
end
end L2
namespace RW
def dr (g n:Int):Nat→Int
 | 0=>n
 | i+1=>dr g n i / g
def lows (g n:Int):Nat→List Int
 | 0=>[]
 | i+1=>lows g n i++[dr g n i%g]
theorem lows_length (g n:Int):∀ i,(lows g n i).length=i
 | 0=>rfl
 | i+1=>by rw [lows,Z4,lows_length g n i];rfl
theorem pow_pos {g:Int} (hg:2≤g):∀ m:Nat,0<g^m
 | 0=>by rw [Z13];decide
 | m+1=>by rw [Z7];exact Int.mul_pos (pow_pos hg m) (by lia)
theorem dr_eq {g:Int} (hg:2≤g) (n:Int):∀ i:Nat,dr g n i=n / g^i
 | 0=>by rw [dr,Z13,Int.ediv_one]
 | i+1=>by rw [dr,dr_eq hg n i,Z7,Int.ediv_ediv_of_nonneg (Int.le_of_lt (pow_pos hg i))]
theorem dr_zero {g n:Int} (hg:2≤g) (hn:0≤n) {m:Nat} (h:n<g^m):dr g n m=0:=by
 rw [dr_eq hg];exact Int.ediv_eq_zero_of_lt hn h
theorem dr_pos {g n:Int} (hg:2≤g) {m:Nat} (h:g^m≤n):0<dr g n m:=by
 rw [dr_eq hg]
 have h1:1*g^m≤n:=by rw [Z23];exact h
 have h2:=(Int.le_ediv_iff_mul_le (pow_pos hg m)).mpr h1
 lia
end RW
namespace L2
open PySem
theorem pow_mono {g:Int} (hg:2≤g) {m n:Nat} (h:m≤n):g^m≤g^n:=by
 obtain ⟨k,rfl⟩:=Nat.exists_eq_add_of_le h
 rw [Int.pow_add]
 have h1:=RW.pow_pos hg m
 have h2:=RW.pow_pos hg k
 have h3:=Int.mul_le_mul_of_nonneg_left (show 1≤g^k by lia) (Int.le_of_lt h1)
 lia
theorem pow_lt {g:Int} (hg:2≤g) {m n:Nat} (h:m<n):g^m<g^n:=by
 have h1:=pow_mono hg (show m+1≤n from h)
 rw [Z7] at h1
 have h2:=RW.pow_pos hg m
 have h3:=Int.mul_le_mul_of_nonneg_left hg (Int.le_of_lt h2)
 lia
theorem pow_inj {g:Int} (hg:2≤g) {m n:Nat} (h:g^m=g^n):m=n:=by
 rcases Nat.lt_trichotomy m n with z | z | z
 ·have:=pow_lt hg z;lia
 ·exact z
 ·have:=pow_lt hg z;lia
theorem num_bound {g:Int} (hg:2≤g):∀ {rs:List Int},(∀ n∈rs,0≤n∧n<g)→0≤low g rs∧low g rs<g^rs.length
 | [],_=>⟨Int.le_refl _,by show (0:Int)<g^0;rw [Z13];decide⟩
 | x::r,h=>by
  obtain ⟨h1,h2⟩:=num_bound hg (rs:=r) fun n hn=>h n (List.mem_cons_of_mem _ hn)
  obtain ⟨h3,h4⟩:=h x List.mem_cons_self
  have h5:=Int.mul_nonneg (show 0≤g by lia) h1
  have h6:=Int.mul_le_mul_of_nonneg_left (show low g r+1≤g^r.length by lia) (show 0≤g by lia)
  rw [Int.mul_add,Int.mul_one] at h6
  refine ⟨by show 0≤x+g*low g r;lia,?_⟩
  show x+g*low g r<g^(r.length+1)
  rw [Z7,Int.mul_comm (g^r.length)]
  lia
theorem num_lt {g:Int} (hg:2≤g) {ns:List Int} (h:∀ n∈ns,0≤n∧n<g):0≤num g ns∧num g ns<g^ns.length:=by
 rw [num_low,←List.length_reverse]
 exact num_bound hg fun n hn=>h n (List.mem_reverse.mp hn)
theorem cat_new {H:Hp} {l b:Addr} {xs zs:List V} {Q:VK} (h1:H l=some (.lst xs)) (h2:H b=some (.lst zs)) (hz:xs.length+zs.length≤1000) (q:∀ p H',Same H H'→H p=none→H' p=some (.lst (xs++zs))→Q (.ref p) H'):rCat (.ref l) (.ref b) H Q :=
 ⟨l,b,xs,zs,rfl,rfl,h1,h2,small hz,fun p hp=>q p _ (Same.new hp _) hp upd_same⟩
theorem sl_new {K:PySem.W.Frag} {H:Hp} {a:Addr} {xs:List V} {lo hi:Option Int} {Q:VK} (h:SqL K H a xs) (q:∀ p H',Same H H'→H p=none→H' p=some (.lst (cutV xs lo hi))→Q (.ref p) H'):rSlL K (.ref a) lo hi H Q :=
 ⟨a,xs,rfl,h,fun p hp=>q p _ (Same.new hp _) hp upd_same⟩
theorem rep_new {H:Hp} {l:Addr} {x:V} {k:Int} {Q:VK} (h:H l=some (.lst [x])) (k0:0≤k) (k1:k≤1000) (q:∀ p H',Same H H'→H p=none→H' p=some (.lst (List.replicate k.toNat x))→Q (.ref p) H'):rRep (.ref l) (.int k) H Q :=
 ⟨l,k,[x],rfl,rfl,h,by lia,by lia,by rw [Z15,Nat.one_mul];exact small (by lia),fun p hp=>q p _ (Same.new hp _) hp (by rw [upd_same,flat_rep])⟩
theorem cutV_to {xs:List V} {k:Nat}:cutV xs none (some ((k:Nat):Int))=xs.take k:=by
 have e:HT.sIx xs.length xs.length (some ((k:Nat):Int))=min k xs.length:=by
  show (if ((k:Nat):Int)<0 then (((k:Nat):Int)+(xs.length:Int)).toNat else min ((k:Nat):Int).toNat xs.length)=_
  rw [if_neg (by lia),Z5]
 unfold cutV
 rw [e]
 show (xs.drop 0).take (min k xs.length - 0)=_
 rw [List.drop_zero,Nat.sub_zero]
 by_cases z:k≤xs.length
 ·rw [Nat.min_eq_left z]
 ·rw [Nat.min_eq_right (by lia),Z14,List.take_of_length_le (by lia)]
theorem Bad.same {C:Addr} {i:Nat} {H H1:Hp} {E:XK} (e:Same H H1) (h:Bad C i H E):Bad C i H1 E:=fun H' dx e1 hd=>h H' dx (e.trans e1) hd
theorem getAt {ns:List Int} {k:Nat} (h:k<ns.length):atI (ns.map V.int) ((k:Nat):Int)=some (.int (ns.getD k 0)):=by
 refine atI_nat ?_
 rw [Z6,List.getElem?_eq_getElem h,Z0,List.getElem?_eq_getElem h]
 rfl
def RuleV (H:Hp) (r:Addr) (g lo:Int) (tab:List Int):Prop:=∃ tb,H r=some (.tup [.int g,.int lo,.ref tb])∧H tb=some (.tup (tab.map V.int))
theorem RuleV.same {H H':Hp} {r:Addr} {g lo:Int} {tab:List Int} (e:Same H H') (h:RuleV H r g lo tab):RuleV H' r g lo tab:=by
 obtain ⟨tb,h1,h2⟩:=h
 exact ⟨tb,e _ _ h1,e _ _ h2⟩
def spPlacesFor:Sp:=fun vs H Q _=>∃ g n:Int,vs=[.int g,.int n]∧2≤g∧g≤9∧(∀ m:Nat,n=g^m→Q (.int ((m:Nat):Int)) H)∧((∀ m:Nat,n≠g^m)→Q (.int 0) H)
def spPlaces:Sp:=fun vs H Q _=>∃ (r:Addr) (g lo:Int) (tab:List Int) (m:Nat),vs=[.ref r]∧2≤g∧g≤9∧RuleV H r g lo tab∧(tab.length:Int)=g^m∧Q (.int ((m:Nat):Int)) H
def badLen (g:Int) (m:Nat) (xs:List V):Option Nat:=match badIx g (xs.take m) with
 | some i=>some i
 | none=>if xs.length=m then none else some (min xs.length m)
def spCheckLen (K:PySem.W.Frag) (C:Addr):Sp:=fun vs H Q E=>∃ (a:Addr) (xs:List V) (g:Int) (m:Nat),vs=[.ref a,.int g,.int ((m:Nat):Int)]∧SqL K H a xs∧(∀ x∈xs,Kd H x) ∧
 match badLen g m xs with
 | none=>∀ H',Same H H'→Q .non H'
 | some i=>Bad C i H E
def spNext (K:PySem.W.Frag) (C:Addr):Sp:=fun vs H Q E=>∃ (r a:Addr) (g lo:Int) (tab:List Int) (m:Nat) (xs:List V),vs=[.ref r,.ref a]∧2≤g∧g≤9∧RuleV H r g lo tab∧(tab.length:Int)=g^m∧SqL K H a xs∧(∀ x∈xs,Kd H x) ∧
 match badLen g m xs with
 | none=>∀ ns:List Int,xs=ns.map V.int→∀ H',Same H H'→Q (.int (tab.getD (num g ns).toNat 0)) H'
 | some i=>Bad C i H E
theorem badLen_none {g:Int} {m:Nat} {xs:List V} (h:badLen g m xs=none):xs.length=m∧badIx g xs=none:=by
 unfold badLen at h
 cases e:badIx g (xs.take m) with
 | some i=>rw [e] at h;cases h
 | none =>
  rw [e] at h
  by_cases z:xs.length=m
  ·refine ⟨z,?_⟩
   rw [←z,Z14] at e
   exact e
  ·rw [if_neg z] at h;cases h
theorem badLen_ints {g:Int} {ns:List Int} (h:∀ n∈ns,0≤n∧n<g):badLen g ns.length (ns.map V.int)=none:=by
 unfold badLen
 have e:(ns.map V.int).take ns.length=ns.map V.int:=List.take_of_length_le (by rw [Z1];exact Nat.le_refl _)
 rw [e,badIx_ints h,Z1]
 exact if_pos rfl
def goodHead (x y:V):Bool:=(match x with
 | .int g=>decide (2≤g) && decide (g≤9)
 | _=>false) && isI y
theorem goodHead_inv {x y:V} (h:goodHead x y=true):∃ g lo:Int,x=.int g∧y=.int lo∧2≤g∧g≤9:=by
 unfold goodHead at h
 cases x with
 | int g =>
  cases y with
  | int lo =>
   simp only [isI,Bool.and_true,Bool.and_eq_true,decide_eq_true_eq] at h
   exact ⟨g,lo,rfl,rfl,h.1,h.2⟩
  | _=>simp [isI] at h
 | _=>simp at h
theorem goodHead_ints {g lo:Int} (g2:2≤g) (g9:g≤9):goodHead (.int g) (.int lo)=true:=by
 show ((decide (2≤g) && decide (g≤9)) && true)=true
 rw [decide_eq_true g2,decide_eq_true g9];rfl
def spHead (C:Addr):Sp:=fun vs H Q E=>∃ x y:V,vs=[x,y]∧Kd H x∧Kd H y∧(goodHead x y=true→Q .non H)∧(goodHead x y=false→E (.ref C) none H)
def SeqV (H:Hp) (a:Addr) (xs:List V):Prop:=H a=some (.lst xs)∨H a=some (.tup xs)
theorem SeqV.same {H H':Hp} {a:Addr} {xs:List V} (e:Same H H') (h:SeqV H a xs):SeqV H' a xs:=h.elim (fun q=>.inl (e _ _ q)) fun q=>.inr (e _ _ q)
theorem SeqV.inj {H:Hp} {a:Addr} {xs ys:List V} (h:SeqV H a xs) (h':SeqV H a ys):xs=ys:=by
 rcases h with h | h
 ·rcases h' with h' | h'
  ·rw [h] at h';cases h';rfl
  ·rw [h] at h';cases h'
 ·rcases h' with h' | h'
  ·rw [h] at h';cases h'
  ·rw [h] at h';cases h';rfl
theorem SeqV.sq {K:PySem.W.Frag} {H:Hp} {a:Addr} {xs:List V} (h:SeqV H a xs):SqL K H a xs∨SqT K H a xs:=h.elim (fun q=>.inl (SqL.of q)) fun q=>.inr (SqT.of q)
def TabKd (H:Hp):V→Prop
 | .ref a=>∃ xs,SeqV H a xs∧∀ x∈xs,Kd H x
 | .non=>True
 | .str _=>True
 | .int _=>True
 | .bl _=>True
 | _=>False
theorem TabKd.same {H H':Hp} (e:Same H H'):∀ {z:V},TabKd H z→TabKd H' z
 | .ref a,h=>by
  obtain ⟨xs,h1,h2⟩:=h
  exact ⟨xs,h1.same e,fun x hx=>(h2 x hx).same e⟩
 | .non,_=>True.intro
 | .str _,_=>True.intro
 | .int _,_=>True.intro
 | .bl _,_=>True.intro
def TabOk (g:Int) (xs:List V):Prop:=xs.length≤256∧(∃ m:Nat,1≤m∧(xs.length:Int)=g^m)∧badIx g xs=none
def tabGood (H:Hp) (g:Int) (z:V):Prop:=∃ a xs,z=.ref a∧SeqV H a xs∧TabOk g xs
def spTable (C:Addr):Sp:=fun vs H Q E=>∃ (g:Int) (z:V),vs=[.int g,z]∧2≤g∧g≤9∧TabKd H z∧(tabGood H g z→∀ H',Same H H'→Q .non H')∧(¬ tabGood H g z→∀ H',Same H H'→E (.ref C) none H')
def ruleGood (H:Hp) (x y z:V):Prop:=goodHead x y=true∧∃ g,x=.int g∧tabGood H g z
def spRule (C:Addr):Sp:=fun vs H Q E=>∃ x y z:V,vs=[x,y,z]∧Kd H x∧Kd H y∧TabKd H z ∧
 (∀ (g lo:Int) (tab:List Int) (a:Addr),x=.int g→y=.int lo→z=.ref a→SeqV H a (tab.map V.int)→2≤g→g≤9→TabOk g (tab.map V.int)→(∀ n∈tab,0≤n∧n<g)→∀ r H',Same H H'→RuleV H' r g lo tab→Q (.ref r) H') ∧
 (¬ ruleGood H x y z→∀ H',Same H H'→E (.ref C) none H')
theorem ixN_nat {n i:Nat} (h:i<n):ixN n ((i:Nat):Int)=some i:=by
 unfold ixN
 rw [if_pos (by lia),if_pos (by lia),Z5]
theorem small5 {n:Nat} (h:n≤100000):n≤sizeLine:=by rw [sizeLine_eq];lia
theorem rep_new5 {H:Hp} {l:Addr} {xs:List V} {k:Int} {Q:VK} (h:H l=some (.lst xs)) (k0:0≤k) (k1:k≤100000) (hz:xs.length*k.toNat≤100000) (q:∀ p H',Same H H'→H p=none→H' p=some (.lst (List.replicate k.toNat xs).flatten)→Q (.ref p) H'):rRep (.ref l) (.int k) H Q :=
 ⟨l,k,xs,rfl,rfl,h,by lia,by lia,small5 hz,fun p hp=>q p _ (Same.new hp _) hp upd_same⟩
theorem RuleV.dat {K:PySem.W.Frag} {H:Hp} {r:Addr} {g lo:Int} {tab:List Int} (h:RuleV H r g lo tab):DatV K H (.ref r) (.tuple [.int g,.int lo,.tuple (tab.map PyData.int)]):=by
 obtain ⟨tb,h1,h2⟩:=h
 exact .tup (SqT.of h1) (.cons (.int g) (.cons (.int lo) (.cons (.tup (SqT.of h2) (dat_ints tab)) .nil)))
theorem ints_depth:∀ ns:List Int,PyData.depthAll (ns.map PyData.int)=0
 | []=>by simp only [List.map_nil,PyData.depthAll]
 | n::ns=>by simp only [List.map_cons,PyData.depthAll,PyData.depth,ints_depth ns,Nat.max_self]
def NewL (H H':Hp) (r:Addr) (ns:List Int):Prop:=Same H H'∧H r=none∧H' r=some (.lst (ns.map V.int))
def spWord (NS:Addr):Sp:=fun vs H Q E=>∃ n g m:Int,vs=[.int n,.int g,.int m]∧2≤g∧g≤9∧0≤m∧m≤300 ∧
 ((n<0∨g^m.toNat≤n)→∀ H',Same H H'→E (.ref NS) none H')∧(0≤n→n<g^m.toNat→∀ r H',NewL H H' r (RW.lows g n m.toNat).reverse→Q (.ref r) H')
def spTLen:Sp:=fun vs H Q _=>∃ g m:Int,vs=[.int g,.int m]∧2≤g∧g≤9∧1≤m∧(g^m.toNat≤256→Q (.int (g^m.toNat)) H)∧(256<g^m.toNat→∀ r:Int,256<r→Q (.int r) H)
structure NumOk (g m n:Int):Prop where
 g2:2≤g
 g9:g≤9
 m1:1≤m
 sz:g^m.toNat≤256
 n0:0≤n
 nz:n<g^(g^m.toNat).toNat
def spPower:Sp:=fun vs H Q _=>∃ g m:Int,vs=[.int g,.int m]∧2≤g∧g≤9∧0≤m∧m≤256∧Q (.int (g^m.toNat)) H
theorem dr_cons (g n:Int):∀ i:Nat,RW.dr g n (i+1)=RW.dr g (n / g) i
 | 0=>rfl
 | i+1=>by rw [RW.dr,dr_cons g n i];rfl
theorem lows_cons (g n:Int):∀ i:Nat,RW.lows g n (i+1)=n%g::RW.lows g (n / g) i
 | 0=>rfl
 | i+1=>by
  rw [RW.lows,lows_cons g n i,dr_cons]
  rfl
theorem lows_low {g:Int} (hg:2≤g):∀ {l:List Int},(∀ n∈l,0≤n∧n<g)→RW.lows g (low g l) l.length=l
 | [],_=>rfl
 | x::r,h=>by
  obtain ⟨h0,h1⟩:=h x List.mem_cons_self
  rw [List.length_cons,lows_cons,low,Int.add_mul_emod_self_left,Int.emod_eq_of_lt h0 h1,Int.add_mul_ediv_left _ _ (show g≠0 by lia),Int.ediv_eq_zero_of_lt h0 h1,Z8,lows_low hg fun n hn=>h n (List.mem_cons_of_mem _ hn)]
theorem lows_lt {g:Int} (hg:2≤g) (n:Int):∀ i:Nat,∀ x∈RW.lows g n i,0≤x∧x<g
 | 0,x,h=>absurd h (by simp [RW.lows])
 | i+1,x,h=>by
  rw [RW.lows] at h
  rcases List.mem_append.mp h with z | z
  ·exact lows_lt hg n i x z
  ·rw [List.mem_singleton.mp z]
   exact ⟨Int.emod_nonneg _ (by lia),Int.emod_lt_of_pos _ (by lia)⟩
theorem low_lows_dr (g n:Int):∀ i:Nat,low g (RW.lows g n i)+g^i*RW.dr g n i=n
 | 0=>by rw [RW.lows,low,RW.dr,Z13];lia
 | i+1=>by
  have h:=low_lows_dr g n i
  have e:=Int.emod_add_mul_ediv (RW.dr g n i) g
  rw [RW.lows,low_snoc,RW.lows_length,RW.dr,Z7,Z26,Int.mul_comm (RW.dr g n i%g),Int.add_assoc,←Int.mul_add,e]
  exact h
theorem low_lows {g n:Int} (hg:2≤g) (hn:0≤n) {i:Nat} (h:n<g^i):low g (RW.lows g n i)=n:=by
 have e:=low_lows_dr g n i
 rw [RW.dr_zero hg hn h,Z10,Z20] at e
 exact e
end L2
namespace L2
open PySem
theorem Same.into {H H1:Hp} {p:Addr} {o:HO} (e:Same H H1) (hp:H p=none):Same H (upd H1 p o):=fun b u q=>by rw [upd_ne (ne_of_none q hp)];exact e b u q
theorem numF_eq (g:Int):∀ (n:Int) (l:List Int),numF g n l=n*g^l.length+num g l
 | n,[]=>by
  show n=n*g^0+0
  rw [Z13];lia
 | n,x::r=>by
  show numF g (n*g+x) r=n*g^(r.length+1)+numF g (0*g+x) r
  rw [numF_eq g (n*g+x) r,numF_eq g (0*g+x) r,Z21,Z8,Int.add_mul,Z7,Z26,Int.mul_comm g,Int.add_assoc]
theorem num_append (g:Int) (a b:List Int):num g (a++b)=num g a*g^b.length+num g b:=by
 show (a++b).foldl (fun m x=>m*g+x) 0=_
 rw [List.foldl_append]
 exact numF_eq g (numF g 0 a) b
theorem win_len {ns:List Int} {k m:Nat} (h:k+m≤ns.length):((ns.drop k).take m).length=m:=by
 rw [Z16,Z25];lia
theorem num_win {g:Int} (hg:2≤g) {ns:List Int} (hb:∀ n∈ns,0≤n∧n<g) {k m:Nat} (h:k+m≤ns.length):num g (ns.take (k+m))%g^m=num g ((ns.drop k).take m):=by
 have b:=num_lt hg (ns:=(ns.drop k).take m) fun n hn=>hb n (List.mem_of_mem_drop (List.mem_of_mem_take hn))
 rw [win_len h] at b
 rw [List.take_add,num_append,win_len h,Int.add_comm,Z28,Int.add_mul_emod_self_left,Int.emod_eq_of_lt b.1 b.2]
theorem mod_step (N g s G:Int):((N%G)*g+s)%G=(N*g+s)%G:=by
 rw [Int.add_emod,Int.mul_emod,Int.emod_emod,←Int.mul_emod,←Int.add_emod]
theorem getD_lt {g:Int} (hg:2≤g) {tab:List Int} (hb:∀ n∈tab,0≤n∧n<g) (k:Nat):0≤tab.getD k 0∧tab.getD k 0<g:=by
 rw [Z0]
 cases e:tab[k]? with
 | none=>exact ⟨Int.le_refl _,by show (0:Int)<g;lia⟩
 | some v=>exact hb v (List.mem_of_getElem? e)
def winS (g:Int) (tab:List Int) (m:Nat) (ns:List Int) (k:Nat):Int:=tab.getD (num g ((ns.drop k).take m)).toNat 0
def ledL (g:Int) (tab:List Int) (m:Nat) (ns:List Int):List Int:=(List.range (ns.length+1 - m)).map (winS g tab m ns)
theorem ledL_len (g:Int) (tab:List Int) (m:Nat) (ns:List Int):(ledL g tab m ns).length=ns.length+1 - m:=by
 unfold ledL;rw [Z1,Z2]
theorem ledL_lt {g:Int} (hg:2≤g) {tab:List Int} (hb:∀ n∈tab,0≤n∧n<g) (m:Nat) (ns:List Int):∀ n∈ledL g tab m ns,0≤n∧n<g:=fun n hn=>by
 unfold ledL at hn
 obtain ⟨k,_,rfl⟩:=List.mem_map.mp hn
 exact getD_lt hg hb _
theorem range_succ_map {α:Type} (f:Nat→α) (i:Nat):(List.range (i+1)).map f=(List.range i).map f++[f i]:=by
 rw [List.range_succ,Z3];rfl
theorem win_in {g:Int} (hg:2≤g) {ns tab:List Int} (hb:∀ n∈ns,0≤n∧n<g) {m:Nat} (hl:(tab.length:Int)=g^m) {k:Nat} (h:k+m≤ns.length):0≤num g ((ns.drop k).take m)∧(num g ((ns.drop k).take m)).toNat<tab.length:=by
 have b:=num_lt hg (ns:=(ns.drop k).take m) fun n hn=>hb n (List.mem_of_mem_drop (List.mem_of_mem_take hn))
 rw [win_len h] at b
 exact ⟨b.1,by lia⟩
theorem getAtZ {ns:List Int} {z:Int} (h0:0≤z) (h:z.toNat<ns.length):atI (ns.map V.int) z=some (.int (ns.getD z.toNat 0)):=by
 have e:=getAt (ns:=ns) h
 rw [show ((z.toNat:Nat):Int)=z by lia] at e
 exact e
def spLead (K:PySem.W.Frag):Sp:=fun vs H Q _=>∃ (r a:Addr) (g lo:Int) (tab:List Int) (m:Nat) (ns:List Int),vs=[.ref r,.ref a]∧2≤g∧g≤9∧RuleV H r g lo tab∧(tab.length:Int)=g^m∧1≤m∧SqL K H a (ns.map V.int)∧(∀ n∈ns,0≤n∧n<g)∧ns.length≤900 ∧
 ∀ p H',NewL H H' p (ledL g tab m ns)→Q (.ref p) H'
def ringAt (ring:List Int) (z:Int):Int:=ring.getD (z%(ring.length:Int)).toNat 0
def ringW (ring:List Int) (m:Nat) (z:Int):List Int:=(List.range m).map fun j:Nat=>ringAt ring (z+(j:Int))
def ringL (g lo:Int) (tab:List Int) (m:Nat) (ring:List Int):List Int:=(List.range ring.length).map fun i:Nat=>tab.getD (num g (ringW ring m ((i:Int)+lo))).toNat 0
theorem ringL_len (g lo:Int) (tab:List Int) (m:Nat) (ring:List Int):(ringL g lo tab m ring).length=ring.length:=by
 unfold ringL;rw [Z1,Z2]
theorem ringL_lt {g:Int} (hg:2≤g) (lo:Int) {tab:List Int} (hb:∀ n∈tab,0≤n∧n<g) (m:Nat) (ring:List Int):∀ n∈ringL g lo tab m ring,0≤n∧n<g:=fun n hn=>by
 unfold ringL at hn
 obtain ⟨k,_,rfl⟩:=List.mem_map.mp hn
 exact getD_lt hg hb _
theorem ringW_lt {g:Int} (hg:2≤g) {ring:List Int} (hb:∀ n∈ring,0≤n∧n<g) (m:Nat) (z:Int):∀ n∈ringW ring m z,0≤n∧n<g:=fun n hn=>by
 unfold ringW at hn
 obtain ⟨k,_,rfl⟩:=List.mem_map.mp hn
 exact getD_lt hg hb _
theorem ringW_len (ring:List Int) (m:Nat) (z:Int):(ringW ring m z).length=m:=by
 unfold ringW;rw [Z1,Z2]
theorem ringAt_mod (ring:List Int) (z y:Int):ringAt ring (z%(ring.length:Int)+y)=ringAt ring (z+y):=by
 unfold ringAt
 rw [Int.emod_add_emod]
def ringE (lo:Int) (m:Nat) (ring:List Int):List Int:=(List.range (ring.length+m - 1)).map fun k:Nat=>ringAt ring (lo%(ring.length:Int)+(k:Int))
theorem ringE_lt {g:Int} (hg:2≤g) {ring:List Int} (hb:∀ n∈ring,0≤n∧n<g) (lo:Int) (m:Nat):∀ n∈ringE lo m ring,0≤n∧n<g:=fun n hn=>by
 unfold ringE at hn
 obtain ⟨k,_,rfl⟩:=List.mem_map.mp hn
 exact getD_lt hg hb _
theorem range_drop_take (n k m:Nat) (h:k+m≤n):((List.range n).drop k).take m=(List.range m).map (k+·):=by
 apply List.ext_getElem?
 intro i
 rw [List.getElem?_take,Z6]
 by_cases hi:i<m
 ·rw [if_pos hi,List.getElem?_drop,List.getElem?_range (by lia),List.getElem?_range hi];rfl
 ·rw [if_neg hi,List.getElem?_eq_none (by rw [Z2];lia)];rfl
theorem ringE_win (lo:Int) {m:Nat} (ring:List Int) {i:Nat} (h:i<ring.length) (hm:1≤m):((ringE lo m ring).drop i).take m=ringW ring m ((i:Int)+lo):=by
 unfold ringE ringW
 rw [←List.map_drop,←List.map_take,range_drop_take _ _ _ (by lia),List.map_map]
 refine List.map_congr_left fun j _=>?_
 show ringAt ring (lo%(ring.length:Int)+((i+j:Nat):Int))=_
 rw [ringAt_mod]
 congr 1
 lia
theorem led_ringE (g lo:Int) (tab:List Int) {m:Nat} (ring:List Int) (hm:1≤m):ledL g tab m (ringE lo m ring)=ringL g lo tab m ring:=by
 unfold ledL ringL
 have e:(ringE lo m ring).length+1 - m=ring.length:=by
  unfold ringE;rw [Z1,Z2];lia
 rw [e]
 refine List.map_congr_left fun i hi=>?_
 have:=List.mem_range.mp hi
 unfold winS
 rw [ringE_win lo ring this hm]
def spLeadRing (K:PySem.W.Frag):Sp:=fun vs H Q _=>∃ (r a:Addr) (g lo:Int) (tab:List Int) (m:Nat) (ns:List Int),vs=[.ref r,.ref a]∧2≤g∧g≤9∧RuleV H r g lo tab∧(tab.length:Int)=g^m∧1≤m∧m≤8∧SqL K H a (ns.map V.int)∧(∀ n∈ns,0≤n∧n<g)∧1≤ns.length∧ns.length≤800 ∧
 ∀ p H',NewL H H' p (ringL g lo tab m ns)→Q (.ref p) H'
end L2
namespace L2
open PySem
def wordL (g n:Int) (m:Nat):List Int:=(RW.lows g n m).reverse
theorem wordL_len (g n:Int) (m:Nat):(wordL g n m).length=m:=by unfold wordL;rw [List.length_reverse,RW.lows_length]
theorem wordL_lt {g:Int} (hg:2≤g) (n:Int) (m:Nat):∀ x∈wordL g n m,0≤x∧x<g:=fun x hx=>lows_lt hg n m x (List.mem_reverse.mp hx)
theorem num_wordL {g n:Int} (hg:2≤g) (h0:0≤n) {m:Nat} (h:n<g^m):num g (wordL g n m)=n:=by
 unfold wordL
 rw [num_rev,low_lows hg h0 h]
theorem wordL_num {g:Int} (hg:2≤g) {ws:List Int} (hb:∀ x∈ws,0≤x∧x<g):wordL g (num g ws) ws.length=ws:=by
 unfold wordL
 have e:=lows_low hg (l:=ws.reverse) fun n hn=>hb n (List.mem_reverse.mp hn)
 rw [List.length_reverse] at e
 rw [num_low,e,List.reverse_reverse]
theorem getD_map_range {f:Nat→Int} {n k:Nat} (h:k<n):((List.range n).map f).getD k 0=f k:=by
 rw [Z0,Z6,List.getElem?_range h];rfl
theorem list_eq_getD {a b:List Int} (hl:a.length=b.length) (h:∀ k,k<a.length→a.getD k 0=b.getD k 0):a=b:=by
 apply List.ext_getElem hl
 intro i h1 h2
 have:=h i h1
 rw [Z0,Z0,List.getElem?_eq_getElem h1,List.getElem?_eq_getElem h2] at this
 exact this
theorem mod_nat {z:Int} {n:Nat} (h:1≤n):(z%(n:Int)).toNat<n∧(((z%(n:Int)).toNat:Nat):Int)=z%(n:Int):=by
 have h1:=Int.emod_nonneg z (show (n:Int)≠0 by lia)
 have h2:=Int.emod_lt_of_pos z (show 0<(n:Int) by lia)
 exact ⟨by lia,by lia⟩
theorem ringAt_congr {ring:List Int} {y z:Int} (h:y%(ring.length:Int)=z%(ring.length:Int)):ringAt ring y=ringAt ring z:=by unfold ringAt;rw [h]
theorem ringAt_map {f:Nat→Int} {n:Nat} (h:1≤n) (z:Int):ringAt ((List.range n).map f) z=f (z%(n:Int)).toNat:=by
 unfold ringAt
 rw [Z1,Z2,getD_map_range (mod_nat h).1]
theorem ringW_congr {ring:List Int} {m:Nat} {y z:Int} (h:y%(ring.length:Int)=z%(ring.length:Int)):ringW ring m y=ringW ring m z:=by
 unfold ringW
 refine List.map_congr_left fun j _=>ringAt_congr ?_
 rw [Int.add_emod,h,←Int.add_emod]
theorem ringAt_ringL {g lo:Int} {tab:List Int} {m:Nat} {ring:List Int} (h:1≤ring.length) (z:Int):ringAt (ringL g lo tab m ring) z=tab.getD (num g (ringW ring m (z+lo))).toNat 0:=by
 unfold ringL
 rw [ringAt_map h,(mod_nat h).2]
 congr 3
 apply ringW_congr
 rw [Int.add_emod,Int.emod_emod,←Int.add_emod]
def cntB (g:Int) (tab:List Int) (w:Int):Bool:=(List.range tab.length).any fun k:Nat=>!decide (tab.getD k 0=tab.getD ((k:Int) - (k:Int) / w%g*w).toNat 0)
def countL (g lo:Int) (tab:List Int) (m:Nat):List Int:=((List.range m).filter fun j=>cntB g tab (g^(m - 1 - j))).map fun j:Nat=>lo+(j:Int)
def spCounts:Sp:=fun vs H Q _=>∃ (r:Addr) (g lo:Int) (tab:List Int) (w:Int),vs=[.ref r,.int w]∧2≤g∧g≤9∧RuleV H r g lo tab∧0<w∧w≤1000∧tab.length≤256∧∀ H',Same H H'→Q (.bl (cntB g tab w)) H'
def spCounting:Sp:=fun vs H Q _=>∃ (r:Addr) (g lo:Int) (tab:List Int) (m:Nat),vs=[.ref r]∧2≤g∧g≤9∧RuleV H r g lo tab∧(tab.length:Int)=g^m∧1≤m∧m≤8∧g^m≤256∧∀ p H',NewL H H' p (countL g lo tab m)→Q (.ref p) H'
theorem cnt_ix {k w g:Int} (hk:0≤k) (hw:0<w) (hg:2≤g):0≤k - k / w%g*w∧k - k / w%g*w≤k:=by
 have h1:=Int.emod_nonneg (k / w) (show g≠0 by lia)
 have h2:=Int.ediv_nonneg hk (Int.le_of_lt hw)
 have h3:k / w%g≤k / w:=by
  by_cases z:k / w<g
  ·rw [Int.emod_eq_of_lt h2 z];lia
  ·have:=Int.emod_lt_of_pos (k / w) (show 0<g by lia)
   lia
 have h4:=Int.mul_le_mul_of_nonneg_right h3 (Int.le_of_lt hw)
 have h5:=Int.mul_nonneg h1 (Int.le_of_lt hw)
 have h6:=Int.ediv_mul_le k (show w≠0 by lia)
 exact ⟨by lia,by lia⟩
end L2
namespace L2
theorem num_one (g x:Int):num g [x]=x:=by show 0*g+x=x;rw [Z21,Z8]
theorem num_split (g:Int) (a:List Int) (x:Int) (b:List Int):num g (a++x::b)=(num g a*g+x)*g^b.length+num g b:=by
 rw [show a++x::b=(a++[x])++b by rw [List.append_assoc];rfl,num_append,num_snoc]
theorem num_place {g:Int} (hg:2≤g) {a b:List Int} {x:Int} (hb:∀ n∈b,0≤n∧n<g) (hx:0≤x∧x<g):num g (a++x::b) / g^b.length%g=x:=by
 have b1:=num_lt hg hb
 have gp:=RW.pow_pos hg b.length
 rw [num_split,Int.add_comm,Z28,Int.add_mul_ediv_left _ _ (by lia),Int.ediv_eq_zero_of_lt b1.1 b1.2,Z8,Int.add_comm,Z28,Int.add_mul_emod_self_left,Int.emod_eq_of_lt hx.1 hx.2]
theorem split_at {w:List Int} {j:Nat} (h:j<w.length):w=w.take j++w.getD j 0::w.drop (j+1):=by
 rw [Z0,List.getElem?_eq_getElem h]
 show w=w.take j++w[j]::w.drop (j+1)
 rw [←List.drop_eq_getElem_cons h,List.take_append_drop]
theorem set_split {w:List Int} {j:Nat} (h:j<w.length) (v:Int):w.set j v=w.take j++v::w.drop (j+1):=List.set_eq_take_append_cons_drop▸if_pos h
theorem num_place_at {g:Int} (hg:2≤g) {w:List Int} (hb:∀ n∈w,0≤n∧n<g) {j:Nat} (h:j<w.length):num g w / g^(w.length - 1 - j)%g=w.getD j 0:=by
 have hl:(w.drop (j+1)).length=w.length - 1 - j:=by rw [Z25];lia
 have e:=num_place hg (a:=w.take j) (b:=w.drop (j+1)) (x:=w.getD j 0) (fun n hn=>hb n (List.mem_of_mem_drop hn)) (getD_lt hg hb j)
 rw [←split_at h,hl] at e
 exact e
theorem num_set0 {g:Int} (hg:2≤g) {w:List Int} (hb:∀ n∈w,0≤n∧n<g) {j:Nat} (h:j<w.length):num g w - num g w / g^(w.length - 1 - j)%g*g^(w.length - 1 - j)=num g (w.set j 0):=by
 rw [num_place_at hg hb h,set_split h]
 have hl:(w.drop (j+1)).length=w.length - 1 - j:=by rw [Z25];lia
 have e:=num_split g (w.take j) (w.getD j 0) (w.drop (j+1))
 rw [←split_at h] at e
 rw [e,num_split,hl,Int.add_mul,Z20]
 lia
theorem cntB_false {g:Int} {tab:List Int} {w:Int} (h:cntB g tab w=false) {k:Nat} (hk:k<tab.length):tab.getD k 0=tab.getD ((k:Int) - (k:Int) / w%g*w).toNat 0:=by
 unfold cntB at h
 rw [List.any_eq_false] at h
 have:=h k (List.mem_range.mpr hk)
 simpa using this
theorem place_free {g:Int} (hg:2≤g) {tab:List Int} {m:Nat} (hl:(tab.length:Int)=g^m) {w:List Int} (hb:∀ n∈w,0≤n∧n<g) (hw:w.length=m) {j:Nat} (hj:j<m) (hc:cntB g tab (g^(m - 1 - j))=false):tab.getD (num g w).toNat 0=tab.getD (num g (w.set j 0)).toNat 0:=by
 have b:=num_lt hg hb
 rw [hw] at b
 have e:=cntB_false hc (k:=(num g w).toNat) (by lia)
 have n0:=num_set0 hg hb (j:=j) (by lia)
 rw [hw] at n0
 rw [show (((num g w).toNat:Nat):Int)=num g w by lia,n0] at e
 exact e
def zk (keep:Nat→Bool) (w:List Int) (k:Nat):List Int:=(List.range w.length).map fun j=>if j<k∧keep j=false then 0 else w.getD j 0
theorem zk_len (keep:Nat→Bool) (w:List Int) (k:Nat):(zk keep w k).length=w.length:=by unfold zk;rw [Z1,Z2]
theorem zk_get (keep:Nat→Bool) (w:List Int) (k:Nat) {j:Nat} (h:j<w.length):(zk keep w k).getD j 0=if j<k∧keep j=false then 0 else w.getD j 0:=by unfold zk;exact getD_map_range h
theorem zk_zero (keep:Nat→Bool) (w:List Int):zk keep w 0=w:=by
 refine list_eq_getD (zk_len keep w 0) fun j hj=>?_
 rw [zk_len] at hj
 rw [zk_get keep w 0 hj,if_neg (by lia)]
theorem zk_lt {g:Int} (hg:2≤g) {keep:Nat→Bool} {w:List Int} (hb:∀ n∈w,0≤n∧n<g) (k:Nat):∀ n∈zk keep w k,0≤n∧n<g:=fun n hn=>by
 unfold zk at hn
 obtain ⟨j,_,e⟩:=List.mem_map.mp hn
 subst e
 split
 ·exact ⟨Int.le_refl _,by lia⟩
 ·exact getD_lt hg hb _
theorem set_getD {w:List Int} {i j:Nat} {v:Int} (h:i<w.length):(w.set i v).getD j 0=if i=j then v else w.getD j 0:=by
 rw [Z0,List.getElem?_set]
 by_cases e:i=j
 ·rw [if_pos e,if_pos e]
  subst e
  rw [if_pos h];rfl
 ·rw [if_neg e,if_neg e,Z0]
theorem zk_succ (keep:Nat→Bool) (w:List Int) {k:Nat} (hk:k<w.length):zk keep w (k+1)=if keep k=false then (zk keep w k).set k 0 else zk keep w k:=by
 by_cases e:keep k=false
 ·rw [if_pos e]
  refine list_eq_getD (by rw [Z11,zk_len,zk_len]) fun j hj=>?_
  rw [zk_len] at hj
  rw [zk_get keep w _ hj,set_getD (by rw [zk_len];exact hk),zk_get keep w _ hj]
  by_cases z:k=j
  ·subst z;rw [if_pos ⟨by lia,e⟩,if_pos rfl]
  ·rw [if_neg z]
   by_cases y:j<k∧keep j=false
   ·rw [if_pos y,if_pos ⟨by lia,y.2⟩]
   ·rw [if_neg y,if_neg (fun x=>y ⟨by lia,x.2⟩)]
 ·rw [if_neg e]
  refine list_eq_getD (by rw [zk_len,zk_len]) fun j hj=>?_
  rw [zk_len] at hj
  rw [zk_get keep w _ hj,zk_get keep w _ hj]
  by_cases y:j<k∧keep j=false
  ·rw [if_pos y,if_pos ⟨by lia,y.2⟩]
  ·rw [if_neg y,if_neg (fun x=>y ⟨Nat.lt_of_le_of_ne (by lia) (fun z=>e (z▸x.2)),x.2⟩)]
theorem zk_same {g:Int} (hg:2≤g) {tab:List Int} {m:Nat} (hl:(tab.length:Int)=g^m) {keep:Nat→Bool} (hc:∀ j,j<m→keep j=false→cntB g tab (g^(m - 1 - j))=false) {w:List Int} (hb:∀ n∈w,0≤n∧n<g) (hw:w.length=m):∀ k,k≤m→tab.getD (num g (zk keep w k)).toNat 0=tab.getD (num g w).toNat 0
 | 0,_=>by rw [zk_zero]
 | k+1,h=>by
  rw [zk_succ keep w (by lia)]
  by_cases e:keep k=false
  ·rw [if_pos e,←place_free hg hl (zk_lt hg hb k) (by rw [zk_len,hw]) (by lia) (hc k (by lia) e)]
   exact zk_same hg hl hc hb hw k (by lia)
  ·rw [if_neg e]
   exact zk_same hg hl hc hb hw k (by lia)
theorem told_alike {g:Int} (hg:2≤g) {tab:List Int} {m:Nat} (hl:(tab.length:Int)=g^m) {v w:List Int} (hv:∀ n∈v,0≤n∧n<g) (hw:∀ n∈w,0≤n∧n<g) (lv:v.length=m) (lw:w.length=m)
  (h:∀ j,j<m→cntB g tab (g^(m - 1 - j))=true→v.getD j 0=w.getD j 0):tab.getD (num g v).toNat 0=tab.getD (num g w).toNat 0:=by
 have key:∀ j,j<m→(fun j=>cntB g tab (g^(m - 1 - j))) j=false→cntB g tab (g^(m - 1 - j))=false:=fun j _ e=>e
 rw [←zk_same hg hl key hv lv m (Nat.le_refl _),←zk_same hg hl key hw lw m (Nat.le_refl _)]
 congr 3
 refine list_eq_getD (by rw [zk_len,zk_len,lv,lw]) fun j hj=>?_
 rw [zk_len,lv] at hj
 rw [zk_get _ _ _ (by lia),zk_get _ _ _ (by lia)]
 by_cases e:j<m∧cntB g tab (g^(m - 1 - j))=false
 ·rw [if_pos e,if_pos e]
 ·rw [if_neg e,if_neg e]
  refine h j hj ?_
  cases z:cntB g tab (g^(m - 1 - j)) with
  | true=>rfl
  | false=>exact absurd ⟨hj,z⟩ e
def sn (v:List Int) (z:Int):Int:=if z<0∨(v.length:Int)≤z then 0 else v.getD z.toNat 0
theorem sn_lt {g:Int} (hg:2≤g) {v:List Int} (hb:∀ n∈v,0≤n∧n<g) (z:Int):0≤sn v z∧sn v z<g:=by
 unfold sn
 split
 ·exact ⟨Int.le_refl _,by lia⟩
 ·exact getD_lt hg hb _
theorem sn_nat {v:List Int} {j:Nat} (h:j<v.length):sn v ((j:Nat):Int)=v.getD j 0:=by
 unfold sn
 rw [if_neg (by lia),Z5]
def bwW (v:List Int) (d:Int) (m:Nat):List Int:=(List.range m).map fun j:Nat=>sn v (d+(j:Int))
theorem bwW_len (v:List Int) (d:Int) (m:Nat):(bwW v d m).length=m:=by unfold bwW;rw [Z1,Z2]
theorem bwW_lt {g:Int} (hg:2≤g) {v:List Int} (hb:∀ n∈v,0≤n∧n<g) (d:Int) (m:Nat):∀ n∈bwW v d m,0≤n∧n<g:=fun n hn=>by
 unfold bwW at hn
 obtain ⟨j,_,e⟩:=List.mem_map.mp hn
 subst e
 exact sn_lt hg hb _
theorem bwW_get (v:List Int) (d:Int) {m j:Nat} (h:j<m):(bwW v d m).getD j 0=sn v (d+(j:Int)):=by unfold bwW;exact getD_map_range h
theorem bwW_self (v:List Int):bwW v 0 v.length=v:=by
 refine list_eq_getD (bwW_len _ _ _) fun j hj=>?_
 rw [bwW_len] at hj
 rw [bwW_get v 0 hj,Z8,sn_nat hj]
def bwT (g lo:Int) (tab:List Int) (m:Nat) (low:Int) (M:Nat):List Int:=(List.range (g^M).toNat).map fun n:Nat=>tab.getD (num g (bwW (wordL g (n:Int) M) (lo - low) m)).toNat 0
theorem bwT_len {g:Int} (hg:2≤g) (lo:Int) (tab:List Int) (m:Nat) (low:Int) (M:Nat):((bwT g lo tab m low M).length:Int)=g^M:=by
 unfold bwT
 rw [Z1,Z2,Int.toNat_of_nonneg (Int.le_of_lt (RW.pow_pos hg M))]
theorem bwT_lt {g:Int} (hg:2≤g) (lo:Int) {tab:List Int} (hb:∀ n∈tab,0≤n∧n<g) (m:Nat) (low:Int) (M:Nat):∀ n∈bwT g lo tab m low M,0≤n∧n<g:=fun n hn=>by
 unfold bwT at hn
 obtain ⟨j,_,e⟩:=List.mem_map.mp hn
 subst e
 exact getD_lt hg hb _
theorem bwT_word {g:Int} (hg:2≤g) (lo:Int) (tab:List Int) (m:Nat) (low:Int) {v:List Int} (hb:∀ n∈v,0≤n∧n<g):(bwT g lo tab m low v.length).getD (num g v).toNat 0=tab.getD (num g (bwW v (lo - low) m)).toNat 0:=by
 have b:=num_lt hg hb
 unfold bwT
 rw [getD_map_range (by lia),show (((num g v).toNat:Nat):Int)=num g v by lia,wordL_num hg hb]
theorem of_word {g:Int} (hg:2≤g) {m k:Nat} (h:(k:Int)<g^m):∃ w:List Int,w.length=m∧(∀ n∈w,0≤n∧n<g)∧num g w=(k:Int):=⟨wordL g (k:Int) m,wordL_len _ _ _,wordL_lt hg _ _,num_wordL hg (by lia) h⟩
theorem tab_eq {g:Int} (hg:2≤g) {a b:List Int} {m:Nat} (la:(a.length:Int)=g^m) (lb:(b.length:Int)=g^m) (h:∀ w:List Int,w.length=m→(∀ n∈w,0≤n∧n<g)→a.getD (num g w).toNat 0=b.getD (num g w).toNat 0):a=b:=by
 refine list_eq_getD (by lia) fun k hk=>?_
 obtain ⟨w,h1,h2,h3⟩:=of_word hg (m:=m) (k:=k) (by lia)
 have:=h w h1 h2
 rw [h3,Z5] at this
 exact this
theorem bwT_self {g:Int} (hg:2≤g) (lo:Int) {tab:List Int} {m:Nat} (hl:(tab.length:Int)=g^m):bwT g lo tab m lo m=tab:=by
 refine tab_eq hg (bwT_len hg _ _ _ _ _) hl fun w hw hb=>?_
 subst hw
 rw [bwT_word hg lo tab _ lo hb,Int.sub_self,bwW_self]
theorem countL_mem {g lo:Int} {tab:List Int} {m:Nat} {z:Int}:z∈countL g lo tab m↔∃ j:Nat,j<m∧cntB g tab (g^(m - 1 - j))=true∧z=lo+(j:Int):=by
 unfold countL
 constructor
 ·intro h
  obtain ⟨j,hj,e⟩:=List.mem_map.mp h
  obtain ⟨h1,h2⟩:=List.mem_filter.mp hj
  exact ⟨j,List.mem_range.mp h1,h2,e.symm⟩
 ·rintro ⟨j,hj,hc,rfl⟩
  exact List.mem_map.mpr ⟨j,List.mem_filter.mpr ⟨List.mem_range.mpr hj,hc⟩,rfl⟩
theorem cntB_true {g:Int} {tab:List Int} {w:Int}:cntB g tab w=true↔∃ k:Nat,k<tab.length∧tab.getD k 0≠tab.getD ((k:Int) - (k:Int) / w%g*w).toNat 0:=by
 unfold cntB
 rw [List.any_eq_true]
 constructor
 ·rintro ⟨k,hk,h⟩
  exact ⟨k,List.mem_range.mp hk,by simpa using h⟩
 ·rintro ⟨k,hk,h⟩
  exact ⟨k,List.mem_range.mpr hk,by simpa using h⟩
theorem counts_iff {g:Int} (hg:2≤g) {tab:List Int} {m:Nat} (hl:(tab.length:Int)=g^m) {j:Nat} (hj:j<m):cntB g tab (g^(m - 1 - j))=true↔∃ w:List Int,w.length=m∧(∀ n∈w,0≤n∧n<g)∧tab.getD (num g w).toNat 0≠tab.getD (num g (w.set j 0)).toNat 0:=by
 rw [cntB_true]
 constructor
 ·rintro ⟨k,hk,h⟩
  obtain ⟨w,h1,h2,h3⟩:=of_word hg (m:=m) (k:=k) (by lia)
  refine ⟨w,h1,h2,?_⟩
  have n0:=num_set0 hg h2 (j:=j) (by lia)
  rw [h1,h3] at n0
  rw [←n0,h3,Z5]
  exact h
 ·rintro ⟨w,h1,h2,h⟩
  have b:=num_lt hg h2
  rw [h1] at b
  refine ⟨(num g w).toNat,by lia,?_⟩
  have n0:=num_set0 hg h2 (j:=j) (by lia)
  rw [h1] at n0
  rw [show (((num g w).toNat:Nat):Int)=num g w by lia,n0]
  exact h
structure NarW (g lo:Int) (tab:List Int) (m:Nat) (low:Int) (M:Nat):Prop where
 one:1≤M
 all:∀ j,j<m→cntB g tab (g^(m - 1 - j))=true→low≤lo+(j:Int)∧lo+(j:Int)<low+(M:Int)
 ends:((∀ j,j<m→cntB g tab (g^(m - 1 - j))=false)∧low=0∧M=1)∨∃ j0 j1:Nat,j0≤j1∧j1<m∧low=lo+(j0:Int)∧M=j1 - j0+1∧cntB g tab (g^(m - 1 - j0))=true∧cntB g tab (g^(m - 1 - j1))=true
theorem filter_sorted (p:Nat→Bool) (n:Nat):((List.range n).filter p).Pairwise (·<·):=List.Pairwise.filter p List.pairwise_lt_range
theorem head_least:∀ {l:List Nat},l.Pairwise (·<·)→∀ x∈l,l.getD 0 0≤x
 | [],_,x,h=>absurd h (by simp)
 | a::r,hp,x,h=>by
  rcases List.mem_cons.mp h with z | z
  ·rw [z];exact Nat.le_refl _
  ·exact Nat.le_of_lt ((List.pairwise_cons.mp hp).1 x z)
theorem last_most:∀ {l:List Nat},l.Pairwise (·<·)→∀ x∈l,x≤l.getD (l.length - 1) 0
 | [],_,x,h=>absurd h (by simp)
 | [a],_,x,h=>by rw [List.mem_singleton.mp h];exact Nat.le_refl _
 | a::b::r,hp,x,h=>by
  have ih:=last_most (l:=b::r) (List.pairwise_cons.mp hp).2
  have e:(a::b::r).getD ((a::b::r).length - 1) 0=(b::r).getD ((b::r).length - 1) 0:=rfl
  rw [e]
  rcases List.mem_cons.mp h with z | z
  ·rw [z]
   exact Nat.le_trans (Nat.le_of_lt ((List.pairwise_cons.mp hp).1 b List.mem_cons_self)) (ih b List.mem_cons_self)
  ·exact ih x z
theorem getD_mem:∀ {l:List Nat} {k:Nat},k<l.length→l.getD k 0∈l:=fun {l k} h=>by
 rw [Z0,List.getElem?_eq_getElem h];exact List.getElem_mem h
theorem getD_map_ne {f:Nat→Int} {l:List Nat} {k:Nat} (h:k<l.length):(l.map f).getD k 0=f (l.getD k 0):=by
 rw [Z0,Z6,List.getElem?_eq_getElem h,Z0,List.getElem?_eq_getElem h];rfl
theorem narW_nil {g lo:Int} {tab:List Int} {m:Nat} (h:countL g lo tab m=[]):NarW g lo tab m 0 1:=by
 have f:∀ j,j<m→cntB g tab (g^(m - 1 - j))=false:=fun j hj=>by
  cases z:cntB g tab (g^(m - 1 - j)) with
  | false=>rfl
  | true=>exact absurd (countL_mem.mpr ⟨j,hj,z,rfl⟩) (by rw [h];simp)
 exact ⟨Nat.le_refl _,fun j hj hc=>absurd hc (by rw [f j hj];decide),.inl ⟨f,rfl,rfl⟩⟩
theorem narW_some {g lo:Int} {tab:List Int} {m:Nat} (h:countL g lo tab m≠[]):∃ M:Nat,(M:Int)=(countL g lo tab m).getD ((countL g lo tab m).length - 1) 0 - (countL g lo tab m).getD 0 0+1∧M≤m∧NarW g lo tab m ((countL g lo tab m).getD 0 0) M:=by
 unfold countL at h ⊢
 generalize hl:((List.range m).filter fun j=>cntB g tab (g^(m - 1 - j)))=l at h ⊢
 have hne:0<l.length:=by
  cases l with
  | nil=>exact absurd rfl h
  | cons a r=>simp
 have hm:∀ j,j∈l↔j<m∧cntB g tab (g^(m - 1 - j))=true:=fun j=>by
  rw [←hl,List.mem_filter,List.mem_range]
 have hp:l.Pairwise (·<·):=by rw [←hl];exact filter_sorted _ _
 rw [Z1,getD_map_ne (show l.length - 1<l.length by lia),getD_map_ne hne]
 have m0:=(hm _).mp (getD_mem hne)
 have m1:=(hm _).mp (getD_mem (show l.length - 1<l.length by lia))
 have le:=last_most hp _ (getD_mem hne)
 refine ⟨l.getD (l.length - 1) 0 - l.getD 0 0+1,by lia,by lia,⟨by lia,fun j hj hc=>?_,.inr ⟨l.getD 0 0,l.getD (l.length - 1) 0,le,m1.1,rfl,rfl,m0.2,m1.2⟩⟩⟩
 have a1:=head_least hp j ((hm j).mpr ⟨hj,hc⟩)
 have a2:=last_most hp j ((hm j).mpr ⟨hj,hc⟩)
 lia
theorem NarW.uniq {g lo:Int} {tab:List Int} {m:Nat} {low low':Int} {M M':Nat} (h:NarW g lo tab m low M) (h':NarW g lo tab m low' M'):low=low'∧M=M':=by
 rcases h.ends with ⟨f,e1,e2⟩ | ⟨j0,j1,le,lt,e1,e2,c0,c1⟩
 ·rcases h'.ends with ⟨f',e1',e2'⟩ | ⟨j0',j1',le',lt',e1',e2',c0',c1'⟩
  ·exact ⟨by lia,by lia⟩
  ·rw [f j1' lt'] at c1';cases c1'
 ·rcases h'.ends with ⟨f',e1',e2'⟩ | ⟨j0',j1',le',lt',e1',e2',c0',c1'⟩
  ·rw [f' j1 lt] at c1;cases c1
  ·have a:=h.all j0' (by lia) c0'
   have b:=h.all j1' lt' c1'
   have c:=h'.all j0 (by lia) c0
   have d:=h'.all j1 lt c1
   exact ⟨by lia,by lia⟩
theorem told_none {g:Int} (hg:2≤g) {tab:List Int} {m:Nat} (hl:(tab.length:Int)=g^m) (f:∀ j,j<m→cntB g tab (g^(m - 1 - j))=false) {w:List Int} (hb:∀ n∈w,0≤n∧n<g) (hw:w.length=m):tab.getD (num g w).toNat 0=tab.getD 0 0:=by
 obtain ⟨z,h1,h2,h3⟩:=of_word hg (m:=m) (k:=0) (RW.pow_pos hg m)
 have e:=told_alike hg hl hb h2 hw h1 fun j hj hc=>absurd hc (by rw [f j hj];decide)
 rw [h3] at e
 exact e
theorem bwT_none {g:Int} (hg:2≤g) {lo low:Int} {tab:List Int} {m M:Nat} (hl:(tab.length:Int)=g^m) (f:∀ j,j<m→cntB g tab (g^(m - 1 - j))=false):bwT g lo tab m low M=List.replicate (g^M).toNat (tab.getD 0 0):=by
 unfold bwT
 rw [List.eq_replicate_iff]
 refine ⟨by rw [Z1,Z2],fun b hb=>?_⟩
 obtain ⟨n,_,e⟩:=List.mem_map.mp hb
 rw [←e,told_none hg hl f (bwW_lt hg (wordL_lt hg _ _) _ _) (bwW_len _ _ _)]
end L2
namespace L2
def sumN (n:Nat) (f:Nat→Int):Int:=((List.range n).map f).sum
theorem sumN_zero (f:Nat→Int):sumN 0 f=0:=rfl
theorem sumN_succ (n:Nat) (f:Nat→Int):sumN (n+1) f=sumN n f+f n:=by
 unfold sumN
 rw [List.range_succ,Z3,List.sum_append]
 show _+([f n]:List Int).sum=_
 rw [List.sum_cons,List.sum_nil,Z20]
theorem sumN_congr {n:Nat} {f g:Nat→Int} (h:∀ k,k<n→f k=g k):sumN n f=sumN n g:=by
 unfold sumN
 rw [List.map_congr_left fun k hk=>h k (List.mem_range.mp hk)]
theorem sumN_add (n:Nat) (f g:Nat→Int):sumN n (fun k=>f k+g k)=sumN n f+sumN n g:=by
 induction n with
 | zero=>rfl
 | succ n ih=>rw [sumN_succ,sumN_succ,sumN_succ,ih];lia
theorem sumN_mul (n:Nat) (f:Nat→Int) (c:Int):sumN n (fun k=>f k*c)=sumN n f*c:=by
 induction n with
 | zero=>rw [sumN_zero,sumN_zero,Z21]
 | succ n ih=>rw [sumN_succ,sumN_succ,ih,Int.add_mul]
theorem sumN_const (n:Nat) (c:Int):sumN n (fun _=>c)=(n:Int)*c:=by
 induction n with
 | zero=>rw [sumN_zero];simp
 | succ n ih=>rw [sumN_succ,ih,Int.natCast_add,Int.add_mul];simp
theorem sumN_swap (a b:Nat) (f:Nat→Nat→Int):sumN a (fun i=>sumN b (fun j=>f i j))=sumN b (fun j=>sumN a (fun i=>f i j)):=by
 induction a with
 | zero =>
  rw [sumN_zero]
  have:sumN b (fun _=>(0:Int))=0:=by rw [sumN_const,Z10]
  exact this.symm
 | succ a ih =>
  rw [sumN_succ,ih,←sumN_add]
  exact sumN_congr fun j _=>(sumN_succ a _).symm
theorem sumN_split (a b:Nat) (f:Nat→Int):sumN (a+b) f=sumN a f+sumN b (fun k=>f (a+k)):=by
 induction b with
 | zero=>rw [sumN_zero,Z20];rfl
 | succ b ih=>rw [←Nat.add_assoc,sumN_succ,sumN_succ,ih,Int.add_assoc]
def ind (p:Bool) (x:Int):Int:=if p then x else 0
def cnt (G:Nat) (tab:List Int):List Int→Nat→Int
 | [],_=>1
 | s::r,h=>sumN G fun j=>ind (decide (tab.getD (h*G+j) 0=s)) (cnt G tab r ((h*G+j)%(tab.length / G)))
def tot (G:Nat) (tab:List Int) (r:List Int):Int:=sumN (tab.length / G) (cnt G tab r)
theorem heads_is {g:Int} (hg:2≤g) {tab:List Int} {m:Nat} (hl:(tab.length:Int)=g^m) (hm:1≤m):((tab.length / g.toNat:Nat):Int)=g^(m - 1)∧tab.length=tab.length / g.toNat*g.toNat:=by
 obtain ⟨k,rfl⟩:∃ k,m=k+1:=⟨m - 1,by lia⟩
 have e:tab.length=(g^k).toNat*g.toNat:=by
  have p:=RW.pow_pos hg k
  rw [Z7] at hl
  apply Int.ofNat.inj
  show (tab.length:Int)=(((g^k).toNat*g.toNat:Nat):Int)
  rw [hl,Z12,Int.toNat_of_nonneg (Int.le_of_lt p),Int.toNat_of_nonneg (by lia)]
 have q:tab.length / g.toNat=(g^k).toNat:=by rw [e];exact Nat.mul_div_cancel _ (by lia)
 rw [q,Nat.add_sub_cancel]
 exact ⟨Int.toNat_of_nonneg (Int.le_of_lt (RW.pow_pos hg k)),e⟩
end L2
namespace L2
open PySem
structure RuleOk (H:Hp) (r:Addr) (g lo:Int) (tab:List Int) (m:Nat):Prop where
 v:RuleV H r g lo tab
 g2:2≤g
 g9:g≤9
 m1:1≤m
 m8:m≤8
 len:(tab.length:Int)=g^m
 sz:g^m≤256
 tb:∀ n∈tab,0≤n∧n<g
theorem RuleOk.same {H H':Hp} {r:Addr} {g lo:Int} {tab:List Int} {m:Nat} (e:Same H H') (h:RuleOk H r g lo tab m):RuleOk H' r g lo tab m:=⟨h.v.same e,h.g2,h.g9,h.m1,h.m8,h.len,h.sz,h.tb⟩
def spHeads:Sp:=fun vs H Q _=>∃ (r:Addr) (g lo:Int) (tab:List Int) (m:Nat),vs=[.ref r]∧RuleOk H r g lo tab m∧Q (.int ((tab.length / g.toNat:Nat):Int)) H
end L2
namespace L2
open PySem
theorem passFN {P:Program} {w:World} {X:Cx}:PassesX (CXC true P w) X (fun _=>E0):=fun _ _ _ _ _ _ _ ⟨_,_,_,_,_,_,_,_,h⟩=>h.elim
theorem rule_call {C:Addr} {H:Hp} {g lo:Int} {tab:List Int} {m:Nat} {a:Addr} {Q:VK} {E:XK} (g2:2≤g) (g9:g≤9) (m1:1≤m) (len:(tab.length:Int)=g^m) (sz:g^m≤256) (tb:∀ n∈tab,0≤n∧n<g) (hs:SeqV H a (tab.map V.int))
  (q:∀ r' H',Same H H'→RuleV H' r' g lo tab→Q (.ref r') H'):spRule C [.int g,.int lo,.ref a] H Q E:=by
 have tok:TabOk g (tab.map V.int):=⟨by rw [Z1];lia,⟨m,m1,by rw [Z1];exact len⟩,badIx_ints tb⟩
 refine ⟨_,_,_,rfl,True.intro,True.intro,⟨_,hs,kd_ints⟩,fun g' lo' tab' a' e1 e2 e3 hs' _ _ _ _ r' H' e' hR'=>?_,fun nok=>absurd ⟨goodHead_ints g2 g9,g,rfl,a,_,rfl,hs,tok⟩ nok⟩
 cases e1;cases e2;cases e3
 have:=ints_inj (hs.inj hs')
 subst this
 exact q r' H' e' hR'
end L2
namespace L2
open PySem
def spSignOr (K:PySem.W.Frag):Sp:=fun vs H Q _=>∃ (a:Addr) (v:List Int) (z:Int),vs=[.ref a,.int z]∧SqL K H a (v.map V.int)∧Q (.int (sn v z)) H
theorem pow_le_eight {g:Int} (hg:2≤g) {M:Nat} (h:g^M≤256):M≤8:=by
 apply Nat.le_of_not_lt
 intro z
 have h1:=pow_mono hg (show 9≤M by lia)
 have h2:(512:Int)≤g^9:=by
  have h2:2*2≤g*g:=Int.mul_le_mul hg hg (by decide) (by lia)
  have h4:4*4≤(g*g)*(g*g):=Int.mul_le_mul (by lia) (by lia) (by decide) (by lia)
  have h8:16*16≤((g*g)*(g*g))*((g*g)*(g*g)):=Int.mul_le_mul (by lia) (by lia) (by decide) (by lia)
  have h9:256*2≤(((g*g)*(g*g))*((g*g)*(g*g)))*g:=Int.mul_le_mul (by lia) hg (by decide) (by lia)
  have e:g^9=(((g*g)*(g*g))*((g*g)*(g*g)))*g:=by simp only [Int.pow_succ,Int.pow_zero,Int.one_mul,Int.mul_assoc]
  rw [e]
  lia
 lia
theorem RuleOk.bw {H H':Hp} {r r':Addr} {g lo:Int} {tab:List Int} {m:Nat} (h:RuleOk H r g lo tab m) {low:Int} {M:Nat} (hM:1≤M) (hz:g^M≤256) (hv:RuleV H' r' g low (bwT g lo tab m low M)):RuleOk H' r' g low (bwT g lo tab m low M) M :=
 ⟨hv,h.g2,h.g9,hM,pow_le_eight h.g2 hz,bwT_len h.g2 _ _ _ _ _,hz,bwT_lt h.g2 _ h.tb _ _ _⟩
def spByWin:Sp:=fun vs H Q _=>∃ (r:Addr) (g lo:Int) (tab:List Int) (m:Nat) (low:Int) (M:Nat),vs=[.ref r,.int low,.int ((M:Nat):Int)]∧RuleOk H r g lo tab m∧1≤M∧g^M≤256∧∀ r' H',Same H H'→RuleOk H' r' g low (bwT g lo tab m low M) M→Q (.ref r') H'
def spNarrow:Sp:=fun vs H Q _=>∃ (r:Addr) (g lo:Int) (tab:List Int) (m:Nat),vs=[.ref r]∧RuleOk H r g lo tab m∧∀ (low:Int) (M:Nat),NarW g lo tab m low M→∀ r' H',Same H H'→RuleOk H' r' g low (bwT g lo tab m low M) M→Q (.ref r') H'
def outW (g lo:Int) (tab:List Int) (m:Nat) (low high:Int):Prop:=high<low∨∃ z∈countL g lo tab m,z<low∨high<z
def spWidened (CW CT:Addr):Sp:=fun vs H Q E=>∃ (r:Addr) (g lo:Int) (tab:List Int) (m:Nat) (low high:Int),vs=[.ref r,.int low,.int high]∧RuleOk H r g lo tab m ∧
 (outW g lo tab m low high→∀ H',Same H H'→E (.ref CW) none H')∧(¬ outW g lo tab m low high→256<g^(high - low+1).toNat→∀ H',Same H H'→E (.ref CT) none H') ∧
 (¬ outW g lo tab m low high→g^(high - low+1).toNat≤256→∀ r' H',Same H H'→RuleOk H' r' g low (bwT g lo tab m low (high - low+1).toNat) (high - low+1).toNat→Q (.ref r') H')
theorem NarW.small {g lo:Int} {tab:List Int} {m:Nat} {low:Int} {M:Nat} (h:NarW g lo tab m low M) (hm:1≤m):M≤m:=by
 rcases h.ends with ⟨_,_,e⟩ | ⟨j0,j1,le,lt,_,e,_,_⟩
 ·lia
 ·lia
theorem atI_lastI {ns:List Int} (h:0<ns.length):atI (ns.map V.int) (-1)=some (.int (ns.getD (ns.length - 1) 0)):=by
 have e:=getAt (ns:=ns) (k:=ns.length - 1) (by lia)
 have z:ixN (ns.map V.int).length (-1)=some (ns.length - 1):=by
  unfold ixN
  rw [Z1]
  rw [if_neg (by decide),if_pos (by lia)]
  congr 1
  lia
 have y:ixN (ns.map V.int).length (((ns.length - 1:Nat)):Int)=some (ns.length - 1):=by
  rw [Z1]
  exact ixN_nat (by lia)
 unfold atI at e ⊢
 rw [z]
 rw [y] at e
 exact e
theorem filter_nil {g lo:Int} {tab:List Int} {m:Nat}:((List.range m).filter fun j=>cntB g tab (g^(m - 1 - j)))=[]↔countL g lo tab m=[]:=by
 unfold countL
 rw [List.map_eq_nil_iff]
end L2
namespace L2
open PySem PySem.Spec PyProof.Rows
section
variable {X:Cx} {es:List Expr} {t:TA}
theorem pa_consC {i:Int} {j} {pos:Pos} (hr:PA X es t):PA X (.Constant (.int i) j pos::es) (tCons (tC (.int i)) t):=pa_cons pe_int hr (by rfl)
end
@[irreducible] def PSI (X:Cx) (st:Stmt) (t:TS):Prop:=PS X st t
@[irreducible] def PSsI (X:Cx) (ss:List Stmt) (t:TS):Prop:=PSs X ss t
section
variable {X:Cx} {st:Stmt} {rest ss:List Stmt} {t u:TS}
theorem PSI.of (h:PS X st t):PSI X st t:=by unfold PSI;exact h
theorem PSI.out (h:PSI X st t):PS X st t:=by unfold PSI at h;exact h
theorem PSsI.of (h:PSs X ss t):PSsI X ss t:=by unfold PSsI;exact h
theorem PSsI.out (h:PSsI X ss t):PSs X ss t:=by unfold PSsI at h;exact h
theorem psi_cons (h1:PSI X st t) (h2:PSsI X rest u):PSsI X (st::rest) (tSeq t u):=.of (pss_cons h1.out h2.out)
theorem psi_one (h1:PSI X st t):PSsI X [st] t:=.of (pss_one h1.out)
end
end L2
namespace L2
open PySem PySem.Spec PyProof.Rows
@[irreducible] def PEI (X:Cx) (e:Expr) (te:TE):Prop:=PE X e te
@[irreducible] def PAI (X:Cx) (es:List Expr) (t:TA):Prop:=PA X es t
section
variable {X:Cx} {e a b:Expr} {es:List Expr} {te ta tb:TE} {t:TA} {pos:Pos}
theorem PEI.of (h:PE X e te):PEI X e te:=by unfold PEI;exact h
theorem PEI.out (h:PEI X e te):PE X e te:=by unfold PEI at h;exact h
theorem PAI.of (h:PA X es t):PAI X es t:=by unfold PAI;exact h
theorem PAI.out (h:PAI X es t):PA X es t:=by unfold PAI at h;exact h
theorem pai_nil:PAI X [] tNil:=.of pa_nil
theorem pai_consC {i:Int} {j} {p:Pos} (hr:PAI X es t):PAI X (.Constant (.int i) j p::es) (tCons (tC (.int i)) t):=.of (pa_consC hr.out)
theorem pei_lst (h:PAI X es t):PEI X (.List es pos) (tLst t):=.of (pe_lst h.out)
theorem pei_ix {r:R2} (hr:IxR X r) (ha:PEI X a ta) (hb:PEI X b tb) (hs:PlainIx b):PEI X (.Subscript a b pos) (tOp r ta tb):=.of (pe_ix hr ha.out hb.out hs)
theorem psi_set {i:Nat} {x:Str} {pos':Pos} (hN:X.N.Nodup) (hi:X.N[i]?=some x) (hx:Loc X.env.scope x) (he:PEI X e te) (hs:swapsWith e (some (.Name x pos')) pos.line X.env=pure false) (hf:X.fn x=true∨X.env.scope.names.lookup x=some .local) :
  PSI X (.Assign [.Name x pos'] e pos) (tAsg te (gName i)):=.of (ps_set hN hi hx he.out hs hf)
theorem psi_if {c:Expr} {a b:List Stmt} {tc:TT} {t u:TS} (hc:PT X c tc) (ha:PSsI X a t) (hb:PSsI X b u):PSI X (.If c a b pos) (tIfS tc t u):=.of (ps_if hc ha.out hb.out)
theorem psi_nil:PSsI X [] tNext:=.of pss_nil
end
end L2
namespace L2
open PySem
def rowW (x:Int→Int) (lo:Int) (m:Nat):List Int:=(List.range m).map fun j:Nat=>x (lo+(j:Int))
theorem rowW_len (x:Int→Int) (lo:Int) (m:Nat):(rowW x lo m).length=m:=by unfold rowW;rw [Z1,Z2]
theorem rowW_get (x:Int→Int) (lo:Int) {m j:Nat} (h:j<m):(rowW x lo m).getD j 0=x (lo+(j:Int)):=by unfold rowW;exact getD_map_range h
def Row (g:Int) (x:Int→Int):Prop:=∀ z,0≤x z∧x z<g
theorem rowW_lt {g:Int} {x:Int→Int} (hx:Row g x) (lo:Int) (m:Nat):∀ n∈rowW x lo m,0≤n∧n<g:=fun n hn=>by
 unfold rowW at hn
 obtain ⟨j,_,rfl⟩:=List.mem_map.mp hn
 exact hx _
def fnR (g lo:Int) (tab:List Int) (m:Nat) (x:Int→Int):Int:=tab.getD (num g (rowW x lo m)).toNat 0
def rowOf (w:List Int) (lo:Int):Int→Int:=fun z=>sn w (z - lo)
theorem rowOf_row {g:Int} (hg:2≤g) {w:List Int} (hb:∀ n∈w,0≤n∧n<g) (lo:Int):Row g (rowOf w lo):=fun z=>sn_lt hg hb _
theorem rowW_of (w:List Int) (low lo:Int) (m:Nat):rowW (rowOf w low) lo m=bwW w (lo - low) m:=by
 unfold rowW bwW rowOf
 exact List.map_congr_left fun j _=>by rw [show lo+(j:Int) - low=lo - low+(j:Int) by lia]
theorem rowW_ofSelf (w:List Int) (lo:Int):rowW (rowOf w lo) lo w.length=w:=by rw [rowW_of,Int.sub_self,bwW_self]
theorem fnR_bwT {g:Int} (hg:2≤g) {lo low:Int} {tab:List Int} {m M:Nat} (hl:(tab.length:Int)=g^m) (hc:∀ j,j<m→cntB g tab (g^(m - 1 - j))=true→low≤lo+(j:Int)∧lo+(j:Int)<low+(M:Int)) {x:Int→Int} (hx:Row g x):fnR g low (bwT g lo tab m low M) M x=fnR g lo tab m x:=by
 unfold fnR
 have z:=bwT_word hg lo tab m low (v:=rowW x low M) (rowW_lt hx low M)
 rw [rowW_len] at z
 rw [z]
 refine told_alike hg hl (bwW_lt hg (rowW_lt hx low M) _ _) (rowW_lt hx lo m) (bwW_len ..) (rowW_len ..) fun j hj hcj=>?_
 obtain ⟨a,b⟩:=hc j hj hcj
 rw [bwW_get _ _ hj,rowW_get _ _ hj,show lo - low+(j:Int)=(((lo+(j:Int) - low).toNat:Nat):Int) by lia,sn_nat (by rw [rowW_len];lia),rowW_get _ _ (by lia)]
 congr 1
 lia
def dep (g:Int) (f:(Int→Int)→Int) (z:Int):Prop:=∃ x,Row g x∧f x≠f fun y=>if y=z then 0 else x y
theorem row0 {g:Int} (hg:2≤g) {x:Int→Int} (hx:Row g x) (z:Int):Row g fun y=>if y=z then 0 else x y:=fun y=>by
 show 0≤(if y=z then 0 else x y)∧(if y=z then 0 else x y)<g
 split
 ·lia
 ·exact hx y
theorem rowW_set (x:Int→Int) (lo:Int) {m j:Nat} (hj:j<m):rowW (fun y=>if y=lo+(j:Int) then 0 else x y) lo m=(rowW x lo m).set j 0:=by
 refine list_eq_getD (by rw [Z11,rowW_len,rowW_len]) fun k hk=>?_
 rw [rowW_len] at hk
 rw [rowW_get _ _ hk,set_getD (by rw [rowW_len];exact hj),rowW_get _ _ hk]
 by_cases e:j=k
 ·subst e;rw [if_pos rfl,if_pos rfl]
 ·rw [if_neg e,if_neg (by lia)]
theorem cnt_dep {g:Int} (hg:2≤g) {lo:Int} {tab:List Int} {m:Nat} (hl:(tab.length:Int)=g^m) {j:Nat} (hj:j<m):cntB g tab (g^(m - 1 - j))=true↔dep g (fnR g lo tab m) (lo+(j:Int)):=by
 rw [counts_iff hg hl hj]
 constructor
 ·rintro ⟨w,wl,wb,ne⟩
  subst wl
  refine ⟨rowOf w lo,rowOf_row hg wb lo,?_⟩
  unfold fnR
  rw [rowW_set _ _ hj,rowW_ofSelf]
  exact ne
 ·rintro ⟨x,hx,ne⟩
  unfold fnR at ne
  rw [rowW_set _ _ hj] at ne
  exact ⟨_,rowW_len ..,rowW_lt hx lo m,ne⟩
theorem dep_in {g:Int} {lo:Int} {tab:List Int} {m:Nat} {z:Int} (h:dep g (fnR g lo tab m) z):∃ j:Nat,j<m∧z=lo+(j:Int):=by
 obtain ⟨x,hx,ne⟩:=h
 by_cases e:lo≤z∧z<lo+(m:Int)
 ·exact ⟨(z - lo).toNat,by lia,by lia⟩
 ·exfalso
  apply ne
  unfold fnR
  congr 3
  unfold rowW
  refine List.map_congr_left fun j hj=>?_
  have:=List.mem_range.mp hj
  show x (lo+(j:Int))=if lo+(j:Int)=z then 0 else x (lo+(j:Int))
  rw [if_neg (by lia)]
structure NarF (g:Int) (f:(Int→Int)→Int) (low:Int) (M:Nat):Prop where
 one:1≤M
 all:∀ z,dep g f z→low≤z∧z<low+(M:Int)
 ends:((∀ z,¬ dep g f z)∧low=0∧M=1)∨(dep g f low∧dep g f (low+(M:Int) - 1))
theorem NarW.toF {g:Int} (hg:2≤g) {lo:Int} {tab:List Int} {m:Nat} (hl:(tab.length:Int)=g^m) {low:Int} {M:Nat} (h:NarW g lo tab m low M):NarF g (fnR g lo tab m) low M:=by
 refine ⟨h.one,fun z hz=>?_,?_⟩
 ·obtain ⟨j,hj,rfl⟩:=dep_in hz
  exact h.all j hj ((cnt_dep hg hl hj).mpr hz)
 ·rcases h.ends with ⟨f,a,b⟩ | ⟨j0,j1,le,lt,a,b,c0,c1⟩
  ·refine .inl ⟨fun z hz=>?_,a,b⟩
   obtain ⟨j,hj,rfl⟩:=dep_in hz
   rw [←cnt_dep hg hl hj,f j hj] at hz
   cases hz
  ·have d0:=(cnt_dep (lo:=lo) hg hl (show j0<m by lia)).mp c0
   have d1:=(cnt_dep (lo:=lo) hg hl lt).mp c1
   refine .inr ⟨a▸d0,?_⟩
   rw [show low+(M:Int) - 1=lo+(j1:Int) by lia]
   exact d1
theorem NarF.uniq {g:Int} {f:(Int→Int)→Int} {low low':Int} {M M':Nat} (h:NarF g f low M) (h':NarF g f low' M'):low=low'∧M=M':=by
 have o:=h.one
 have o':=h'.one
 rcases h.ends with ⟨n,a,b⟩ | ⟨d0,d1⟩
 ·rcases h'.ends with ⟨_,a',b'⟩ | ⟨d0',_⟩
  ·lia
  ·exact absurd d0' (n _)
 ·rcases h'.ends with ⟨n',_,_⟩ | ⟨d0',d1'⟩
  ·exact absurd d0 (n' _)
  ·have:=h.all _ d0'
   have:=h.all _ d1'
   have:=h'.all _ d0
   have:=h'.all _ d1
   lia
theorem dep_congr {g:Int} (hg:2≤g) {f f':(Int→Int)→Int} (h:∀ x,Row g x→f x=f' x) {z:Int} (d:dep g f z):dep g f' z:=by
 obtain ⟨x,hx,ne⟩:=d
 refine ⟨x,hx,?_⟩
 rw [←h x hx,←h _ (row0 hg hx z)]
 exact ne
theorem NarF.congr {g:Int} (hg:2≤g) {f f':(Int→Int)→Int} (h:∀ x,Row g x→f x=f' x) {low:Int} {M:Nat} (n:NarF g f low M):NarF g f' low M:=by
 have h2:∀ x,Row g x→f' x=f x:=fun x hx=>(h x hx).symm
 refine ⟨n.one,fun z d=>n.all z (dep_congr hg h2 d),?_⟩
 rcases n.ends with ⟨a,b,c⟩ | ⟨a,b⟩
 ·exact .inl ⟨fun z d=>a z (dep_congr hg h2 d),b,c⟩
 ·exact .inr ⟨dep_congr hg h a,dep_congr hg h b⟩
def AlikeR (g lo:Int) (tab:List Int) (m:Nat) (lo':Int) (tab':List Int) (m':Nat):Prop:=∀ x,Row g x→fnR g lo tab m x=fnR g lo' tab' m' x
theorem fn_tab {g:Int} (hg:2≤g) {lo:Int} {a b:List Int} {m:Nat} (la:(a.length:Int)=g^m) (lb:(b.length:Int)=g^m) (h:∀ x,Row g x→fnR g lo a m x=fnR g lo b m x):a=b:=by
 refine tab_eq hg la lb fun w wl wb=>?_
 subst wl
 have z:=h (rowOf w lo) (rowOf_row hg wb lo)
 unfold fnR at z
 rw [rowW_ofSelf] at z
 exact z
theorem alike_narrow {g:Int} (hg:2≤g) {lo lo':Int} {tab tab':List Int} {m m':Nat} (hl:(tab.length:Int)=g^m) (hl':(tab'.length:Int)=g^m') {low low':Int} {M M':Nat} (n:NarW g lo tab m low M) (n':NarW g lo' tab' m' low' M') :
  AlikeR g lo tab m lo' tab' m'↔low=low'∧bwT g lo tab m low M=bwT g lo' tab' m' low' M':=by
 constructor
 ·intro h
  obtain ⟨e1,e2⟩:=((n.toF hg hl).congr hg h).uniq (n'.toF hg hl')
  subst e1 e2
  refine ⟨rfl,fn_tab hg (lo:=low) (bwT_len hg ..) (bwT_len hg ..) fun x hx=>?_⟩
  rw [fnR_bwT hg hl n.all hx,fnR_bwT hg hl' n'.all hx]
  exact h x hx
 ·rintro ⟨rfl,e⟩ x hx
  have hM:M=M':=by
   have a:=bwT_len hg lo tab m low M
   have b:=bwT_len hg lo' tab' m' low M'
   rw [e,b] at a
   exact pow_inj hg a.symm
  subst hM
  rw [←fnR_bwT hg hl n.all hx,←fnR_bwT hg hl' n'.all hx,e]
theorem AlikeR.symm {g lo:Int} {tab:List Int} {m:Nat} {lo':Int} {tab':List Int} {m':Nat} (h:AlikeR g lo tab m lo' tab' m'):AlikeR g lo' tab' m' lo tab m:=fun x hx=>(h x hx).symm
theorem hide {t u:TS} {D:Ends} {σ:St} {H:Hp} (h:∀ N:St→Hp→Prop,(∀ σ' H',u D σ' H'→N σ' H')→t { D with nx:=N } σ H):tSeq t u D σ H:=h (u D) fun _ _ z=>z
end L2
namespace L2
open PySem
def AscT (x:Str):Prop:=x.cps.all (·<128)=true
end L2
namespace L2
open PySem PySem.Spec PyProof.Rows
section
variable {X:Cx}
end
end L2
namespace L2
open PySem PySem.Spec PyProof.Rows
section
variable {X:Cx}
end
end L2
namespace L2
open PySem PySem.Spec PyProof.Rows
section
variable {X:Cx}
end
end L2
namespace L2
open PySem PySem.Spec PyProof.Rows
section
variable {X:Cx}
end
end L2
namespace L2
open PySem PySem.Spec PyProof.Rows
section
variable {X:Cx} {x:Str} {pos:Pos}
end
end L2
namespace L2
open PySem PySem.Spec PyProof.Rows
end L2
namespace L2
open PySem PySem.Spec PyProof.Rows
section
variable {K:PySem.W.Frag}
end
end L2
namespace L2
open PySem PySem.Spec PyProof.Rows
end L2
namespace L2
open PySem PySem.Spec PyProof.Rows
section
variable {X:Cx} {es es2:List Expr} {t t2:TA} {p:Pos}
end
end L2
namespace L2
open PySem PySem.Spec PyProof.Rows
section
variable {X:Cx}
end
end L2
namespace L2
open PySem PySem.Spec PyProof.Rows
def TxOk (x:Str):Prop:=AscT x∧x.cps.size≤600
def TxV (H:Hp):V→Prop
 | .str x=>TxOk x
 | .int _=>True
 | .bl _=>True
 | .non=>True
 | .ref a=>∃ xs,H a=some (.lst xs)∨H a=some (.tup xs)
 | _=>False
theorem TxV.same {H H':Hp} (e:Same H H'):∀ {v:V},TxV H v→TxV H' v
 | .str _,h=>h
 | .int _,_=>True.intro
 | .bl _,_=>True.intro
 | .non,_=>True.intro
 | .ref a,h=>by
  obtain ⟨xs,h⟩:=h
  exact ⟨xs,h.elim (fun q=>.inl (e _ _ q)) fun q=>.inr (e _ _ q)⟩
def wdOf (x:Str):List Int:=x.cps.toList.map fun c:Nat=>(c:Int) - 48
def figs (hi:Nat) (x:Str):Bool:=x.cps.toList.all fun c:Nat=>decide (48≤c) && decide (c≤hi)
def numT (n:Int):Str:=Str.ofString (toString n)
def partsOf (x:Str):List Str:=Txt.split x (Str.ofString ":")
def figPart (x:Str):Str:=if Txt.startswith x (Str.ofString "-")=true then Txt.slice x (some 1) none else x
structure NumX (x:Str) (n:Int):Prop where
 n0:(figPart x).cps.size≠0
 fg:figs 57 (figPart x)=true
 le:(figPart x).cps.size≤60
 eq:numT n=x
structure RuleX (x:Str) (g lo:Int) (tab:List Int):Prop where
 pt:∃ a b c,partsOf x=[a,b,c]∧a.cps.size=1∧figs 57 a=true∧wdOf a=[g]∧NumX b lo∧c.cps.size≠0∧figs 57 c=true∧wdOf c=tab
 g2:2≤g
 g9:g≤9
 ok:TabOk g (tab.map V.int)
structure RuleT (H:Hp) (r:Addr) (g lo:Int) (tab:List Int):Prop where
 rv:RuleV H r g lo tab
 g2:2≤g
 g9:g≤9
 ok:TabOk g (tab.map V.int)
 tb:∀ n∈tab,0≤n∧n<g
 far:lo.natAbs<10^130
end L2
namespace PySem
open Sem (wp)
section
variable {prog:Program} {w:World} {A:Around} {E:Value→Shared→Prop} {s:Shared}
end
section
variable {prog:Program} {w:World} {A:Around} {E:Value→Shared→Prop} {s:Shared}
end
end PySem
namespace L2
open PySem PySem.Spec PyProof.Rows RW
section
variable {X:Cx}
end
end L2
namespace L2
open PySem PySem.Spec PyProof.Rows
section
variable {X:Cx} {pins:List (Addr × Obj)} {σ:St} {H:Hp} {s:Shared} {h':Heap}
theorem Inv.turnedAll {t':Nat} {ch:List Addr} (I:Inv X pins σ H s) (hf:∀ b∈ch,FpOk X pins H b) (k:∀ b u,b∉ch→s.heap.get? b=some u→h'.get? b=some u):Inv X pins σ H { s with heap:=h',toks:=t' }:=by
 have nit:∀ b u,H b=some u→b∉ch:=fun b u e z=>by rw [(hf b z).1] at e;cases e
 refine I.step (g':=s.gens) (d':=s.drawn) (ch:=ch) (fun b hb=>⟨(hf b hb).2.2.2.1,(hf b hb).2.1,(hf b hb).2.2.2.2.1,(hf b hb).2.2.2.2.2⟩) (fun b u _ _ hc e _=>k b u hc e) (fun b u _ _ hc e _=>⟨u.slots,k b u hc e⟩)
  (fun b u _ e n=>n) (fun b u hc e=>⟨u,k b u hc e⟩) (fun b xs e=>e) (fun b u v e=>e) (fun b ps e=>⟨#[],by rw [e];simp⟩) (fun m hm=>?_) (fun b u e=>?_) I.bare
 ·obtain ⟨o,es,ep,ho,r⟩:=hm
  exact ⟨o,es,ep,k _ o (fun z=>(hf _ z).2.1 rfl) ho,r⟩
 ·refine (I.hok b u e).stay (fun c v hc q=>k c v ?_ q) (fun c q=>q) fun c xs q=>q
  rcases hc with y | y
  ·rw [y];exact nit b u e
  ·exact nit c _ y
end
def Itz (K:PySem.W.Frag) (a b:Addr):It :=
 ⟨fun i H=>∃ xs ys x y,SqL K H a xs∧SqL K H b ys∧xs[i]?=some x∧ys[i]?=some y,
   fun i H v H'=>∃ p x y,v=.ref p∧H p=none∧H'=upd H p (.tup [x,y])∧(∀ xs,SqL K H a xs→xs[i]?=some x)∧∀ ys,SqL K H b ys→ys[i]?=some y,
   fun i H=>∃ xs ys,SqL K H a xs∧SqL K H b ys∧(xs.length≤i∨ys.length≤i)⟩
theorem turn_zip {P:Program} {w:World} {K:PySem.W.Frag} {elts:List Expr} {ctx} {tpos:Pos} (a b z TI TO i1 i2:Addr) (D:ZipApart z TI TO i1 i2 a b) :
  Turn P w K (.Tuple elts ctx tpos) (Itz K a b) [z,TI,TO,i1,i2] z (fun i h=>IsZip h z TI TO .none∧IsPair h TI (.ref i1) (.ref i2)∧(∃ p q,IsPair h TO p q)∧h.IsListIter i1 a i∧h.IsListIter i2 b i) where
 mem:=by simp
 obj:=fun i h st c hc=>by
  obtain ⟨q1,q2,⟨_,_,q3⟩,⟨o1,e1,c1,d1⟩,⟨o2,e2,c2,d2⟩⟩:=st
  simp only [List.mem_cons,List.not_mem_nil,or_false] at hc
  rcases hc with rfl | rfl | rfl | rfl | rfl
  ·exact ⟨_,q1,fun v y=>by cases y⟩
  ·exact ⟨_,q2,fun v y=>by cases y⟩
  ·exact ⟨_,q3,fun v y=>by cases y⟩
  ·exact ⟨o1,e1,fun v y=>by rw [d1] at y;cases y⟩
  ·exact ⟨o2,e2,fun v y=>by rw [d2] at y;cases y⟩
 keep:=fun i h h' st k=>by
  obtain ⟨q1,q2,⟨p,q,q3⟩,l1,l2⟩:=st
  exact ⟨k z (by simp) _ q1,k TI (by simp) _ q2,⟨p,q,k TO (by simp) _ q3⟩,l1.at fun o y=>k i1 (by simp) o y,l2.at fun o y=>k i2 (by simp) o y⟩
 item:=by
  intro X hP hw hK hc i pins s σ H E I hf st hg
  subst hP hw hK
  obtain ⟨xs,ys,x,y,hq1,hq2,hx,hy⟩:=hg
  obtain ⟨its1,rv1,p1,_⟩:=I.list hq1
  obtain ⟨its2,rv2,p2,_⟩:=I.list hq2
  obtain ⟨u1,hu1,ru1⟩:=rv1.get hx
  obtain ⟨u2,hu2,ru2⟩:=rv2.get hy
  obtain ⟨q1,q2,⟨p,q,q3⟩,l1,l2⟩:=st
  refine wpAny_pyNext_zip_item D q1 q2 q3 l1 l2 p1.isList p2.isList (x:=u1) (y:=u2) (by simpa using hu1) (by simpa using hu2) fun h1 z1 t1 m1 m2 tt hsz k1=>?_
  refine ⟨_,rfl,wpAny_letOwnedTupleGo_zip z1 fun h2 z2 sb=>?_⟩
  have k2:∀ c o,c∉[z,TI,TO,i1,i2]→s.heap.get? c=some o→h2.get? c=some o:=fun c o hc e=>by
   have n1:c≠z:=fun y=>hc (by simp [y])
   exact (sb.2 c n1).trans (k1 c o n1 (fun y=>hc (by simp [y])) (fun y=>hc (by simp [y])) (fun y=>hc (by simp [y])) e)
  have hpz:s.heap.objs.size≠z:=Nat.ne_of_gt (Heap.lt_size q1)
  have tt2:IsPair h2 s.heap.objs.size u1 u2:=(sb.2 _ hpz).trans tt
  have hn:H s.heap.objs.size=none:=I.hok.fresh (Nat.le_refl _)
  have q2':IsPair h2 TI (.ref i1) (.ref i2):=(sb.2 TI D.TIz).trans (k1 TI _ D.TIz D.TITO D.TIi1 D.TIi2 q2)
  refine ⟨.ref s.heap.objs.size,upd H s.heap.objs.size (.tup [x,y]),I.turnedNew (h':=h2) (t':=s.toks) hf k2 (Nat.le_refl _) ?_,rfl,⟨_,x,y,rfl,hn,rfl,fun ys' h=>by rw [I.list_inj h hq1];exact hx,fun ys' h=>by rw [I.list_inj h hq2];exact hy⟩,⟨z2,q2',⟨u1,u2,(sb.2 TO D.TOz).trans t1⟩,m1.at fun o e=>(sb.2 i1 D.i1z).trans e,m2.at fun o e=>(sb.2 i2 D.i2z).trans e⟩,fun c hc=>?_⟩
  ·exact ⟨by show 2≤sizeLine;decide,[u1,u2],.cons ru1 (.cons ru2 .nil),⟨_,tt2,rfl,_,rfl⟩⟩
  ·have c0:=(hf c hc).1
   rw [upd_ne fun e=>?_]
   ·exact c0
   ·obtain ⟨o1,e1,_⟩:=id l1
    obtain ⟨o2,e2,_⟩:=id l2
    have bad:∀ {o:Obj},s.heap.get? c=some o→False:=fun g=>absurd (Heap.lt_size g) (by rw [e];exact Nat.lt_irrefl _)
    simp only [List.mem_cons,List.not_mem_nil,or_false] at hc
    rcases hc with y | y | y | y | y
    ·exact bad (y▸q1)
    ·exact bad (y▸q2)
    ·exact bad (y▸q3)
    ·exact bad (y▸e1)
    ·exact bad (y▸e2)
 done:=by
  intro X hP hw hK hc i pins s σ H E I hf st hg
  subst hP hw hK
  obtain ⟨xs,ys,hq1,hq2,hend⟩:=hg
  obtain ⟨its1,rv1,p1,_⟩:=I.list hq1
  obtain ⟨its2,rv2,p2,_⟩:=I.list hq2
  obtain ⟨q1,q2,⟨p,q,q3⟩,l1,l2⟩:=st
  have hl1:=rv1.length
  have hl2:=rv2.length
  refine wpAny_pyNext_zip_end (I.ok.hd hc) D q1 q2 q3 l1 l2 p1.isList p2.isList (hend.imp (fun z=>by simp;lia) fun z=>by simp;lia) fun h1 k1=>⟨rfl,I.turnedAll (t':=s.toks) hf fun c o hc e=>?_⟩
  exact k1 c o (fun y=>hc (by simp [y])) (fun y=>hc (by simp [y])) (fun y=>hc (by simp [y])) (fun y=>hc (by simp [y])) e
 self:=fun _ _ _ _ _ st h=>wpAny_pyIter_zip st.1 h
section
variable {X:Cx} {elts:List Expr} {ctx} {tpos:Pos}
def iZip (K:PySem.W.Frag) (ta:TA):TI:=fun σ H R=>ta σ H fun vs H1=>∃ a b xs ys,vs=[.ref a,.ref b]∧SqL K H1 a xs∧SqL K H1 b ys∧R (Itz K a b) H1
theorem pi_zip {l r:Expr} {ta:TA} {p pos:Pos} (hg:Gl X "zip") (hm:X.mg "zip"=none) (ha:PA X [l,r] ta) (hs:starEach [l,r] X.env=[(false,eval l X.env),(false,eval r X.env)]:=by rfl) (hs2:starEach [r] X.env=[(false,eval r X.env)]:=by rfl):PI X (.Tuple elts ctx tpos) (.Call (.Name "zip" p) [l,r] [] pos) (iZip X.K ta):=by
 intro pins s σ H R I h
 refine Call_ (ld_blt I hg hm boot_zip (PyProof.Rows.callWith_type1 (thn (ha pos pins s σ H _ I h) fun us s1 ⟨vs,H1,I1,r1,q1⟩=>?_) (by rw [hs,hs2]) (by rw [hs2];rfl)))
 obtain ⟨a,b,xs,ys,e,hq1,hq2,q⟩:=q1
 subst e
 cases r1 with
 | cons ra rr =>
  cases rr with
  | cons rb rr =>
   cases rr
   cases ra
   cases rb
   obtain ⟨its1,rv1,p1,_⟩:=I1.list hq1
   obtain ⟨its2,rv2,p2,_⟩:=I1.list hq2
   have alt:a<s1.heap.objs.size:=by obtain ⟨o,e,_⟩:=p1.isList;exact Heap.lt_size e
   have blt:b<s1.heap.objs.size:=by obtain ⟨o,e,_⟩:=p2.isList;exact Heap.lt_size e
   refine call_zip_2 p1.isList p2.isList fun h1 z1 t1 t2 l1 l2 hsz k1=>?_
   refine wpAny_pyIter_zip z1 ?_
   have fr:∀ k:Nat,FpOk X pins H1 (s1.heap.objs.size+k):=fun k=>I1.fpOk (Nat.le_add_right _ _) (I1.hok.fresh (Nat.le_add_right _ _))
   refine ⟨s1.heap.objs.size+4,[s1.heap.objs.size+4,s1.heap.objs.size+2,s1.heap.objs.size+3,s1.heap.objs.size,s1.heap.objs.size+1],_,_,H1,rfl,I1.kept (t':=s1.toks) k1,turn_zip a b _ _ _ _ _ (zipApart_new alt blt),⟨z1,t1,⟨_,_,t2⟩,l1,l2⟩,fun c hc=>?_,q⟩
   simp only [List.mem_cons,List.not_mem_nil,or_false] at hc
   rcases hc with rfl | rfl | rfl | rfl | rfl
   ·exact fr 4
   ·exact fr 2
   ·exact fr 3
   ·exact fr 0
   ·exact fr 1
end
end L2
namespace L2
open PySem PySem.Spec PyProof.Rows RW
theorem rowW_head (x:Int→Int) (lo:Int) (m:Nat):rowW x lo (m+1)=x lo::rowW x (lo+1) m:=by
 unfold rowW
 rw [List.range_succ_eq_map,List.map_cons,List.map_map]
 congr 1
 ·congr 1;show lo+((0:Nat):Int)=lo;lia
 ·refine List.map_congr_left fun j _=>?_
  show x (lo+((j+1:Nat):Int))=x (lo+1+(j:Int))
  congr 1;lia
theorem rowW_last (x:Int→Int) (lo:Int) (m:Nat):rowW x lo (m+1)=rowW x lo m++[x (lo+(m:Int))]:=by
 unfold rowW
 rw [List.range_succ,Z3];rfl
theorem pow_s (g:Int) (m:Nat):g^(m+1)=g^m*g:=Int.pow_succ ..
theorem first_free {g:Int} (hg:2≤g) {tab:List Int} {m h:Nat} (hl:(tab.length:Int)=g^(m+1)) (hh:(h:Int)=g^m):cntB g tab (g^m)=false↔∀ k,k<tab.length→tab.getD k 0=tab.getD (k%h) 0:=by
 have key:∀ k:Nat,k<tab.length→((k:Int) - (k:Int) / g^m%g*g^m).toNat=k%h:=fun k hk=>by
  have gp:=RW.pow_pos hg m
  rw [←hh]
  have k1:(k:Int)<(h:Int)*g:=by rw [hh,←pow_s];lia
  have d1:(k:Int) / (h:Int)<g:=Int.ediv_lt_of_lt_mul (by lia) (by rw [Z28];exact k1)
  have d0:0≤(k:Int) / (h:Int):=Int.ediv_nonneg (by lia) (by lia)
  rw [Int.emod_eq_of_lt d0 d1]
  have e:=Int.emod_def (k:Int) (h:Int)
  rw [Int.mul_comm ((k:Int) / (h:Int)) (h:Int),←e]
  lia
 constructor
 ·intro hc k hk
  have:=cntB_false hc hk
  rw [key k hk] at this
  exact this
 ·intro ha
  cases z:cntB g tab (g^m) with
  | false=>rfl
  | true =>
   obtain ⟨k,hk,ne⟩:=cntB_true.mp z
   rw [key k hk] at ne
   exact absurd (ha k hk) ne
theorem last_free {g:Int} {tab:List Int} {G:Nat} (hG:(G:Int)=g):cntB g tab 1=false↔∀ k,k<tab.length→tab.getD k 0=tab.getD (k - k%G) 0:=by
 have key:∀ k:Nat,((k:Int) - (k:Int) / 1%g*1).toNat=k - k%G:=fun k=>by
  rw [←hG,Int.ediv_one,Int.mul_one]
  have:k%G≤k:=Nat.mod_le ..
  lia
 constructor
 ·intro hc k hk
  have:=cntB_false hc hk
  rw [key k] at this
  exact this
 ·intro ha
  cases z:cntB g tab 1 with
  | false=>rfl
  | true =>
   obtain ⟨k,hk,ne⟩:=cntB_true.mp z
   rw [key k] at ne
   exact absurd (ha k hk) ne
theorem getD_take {l:List Int} {n k:Nat} (h:k<n):(l.take n).getD k 0=l.getD k 0:=by
 rw [Z0,List.getElem?_take,if_pos h,Z0]
theorem cut_first {g:Int} (hg:2≤g) (lo:Int) {tab:List Int} {m h:Nat} (hl:(tab.length:Int)=g^(m+1)) (hh:(h:Int)=g^m) (ha:∀ k,k<tab.length→tab.getD k 0=tab.getD (k%h) 0):AlikeR g (lo+1) (tab.take h) m lo tab (m+1):=by
 intro x hx
 unfold fnR
 have b:=num_lt hg (rowW_lt hx (lo+1) m)
 have b2:=num_lt hg (rowW_lt hx lo (m+1))
 rw [rowW_len] at b b2
 rw [ha (num g (rowW x lo (m+1))).toNat (by lia),getD_take (by lia)]
 congr 1
 have e:num g (rowW x lo (m+1))=x lo*(h:Int)+num g (rowW x (lo+1) m):=by
  rw [rowW_head,show x lo::rowW x (lo+1) m=[x lo]++rowW x (lo+1) m from rfl,num_append,num_one,rowW_len,hh]
 have m1:num g (rowW x lo (m+1))%(h:Int)=num g (rowW x (lo+1) m):=by
  rw [e,Int.add_comm,Z28,Int.add_mul_emod_self_left,Int.emod_eq_of_lt b.1 (by lia)]
 have m2:(((num g (rowW x lo (m+1))).toNat%h:Nat):Int)=num g (rowW x lo (m+1))%(h:Int):=by
  rw [Z27,Int.toNat_of_nonneg b2.1]
 lia
theorem cut_last {g:Int} (hg:2≤g) (lo:Int) {tab:List Int} {m h G:Nat} (hl:(tab.length:Int)=g^(m+1)) (hh:(h:Int)=g^m) (hG:(G:Int)=g) (ha:∀ k,k<tab.length→tab.getD k 0=tab.getD (k - k%G) 0):AlikeR g lo ((List.range h).map fun i=>tab.getD (i*G) 0) m lo tab (m+1):=by
 intro x hx
 unfold fnR
 have b:=num_lt hg (rowW_lt hx lo m)
 have b2:=num_lt hg (rowW_lt hx lo (m+1))
 rw [rowW_len] at b b2
 have hxz:=hx (lo+(m:Int))
 rw [ha (num g (rowW x lo (m+1))).toNat (by lia),getD_map_range (by lia)]
 congr 1
 have e:num g (rowW x lo (m+1))=num g (rowW x lo m)*g+x (lo+(m:Int)):=by rw [rowW_last,num_snoc]
 generalize num g (rowW x lo m)=n at *
 generalize num g (rowW x lo (m+1))=n2 at *
 generalize x (lo+(m:Int))=y at *
 obtain ⟨n',rfl⟩:∃ n':Nat,n=(n':Int):=⟨n.toNat,by lia⟩
 obtain ⟨y',rfl⟩:∃ y':Nat,y=(y':Int):=⟨y.toNat,by lia⟩
 have e2:n2=((n'*G+y':Nat):Int):=by rw [e,←hG];simp
 rw [e2,Z5,Z5]
 have:(n'*G+y')%G=y':=by rw [Nat.mul_comm,Nat.mul_add_mod,Nat.mod_eq_of_lt (by lia)]
 lia
theorem nar_ends {g lo:Int} {tab:List Int} {m:Nat} (hm:1≤m) (c0:cntB g tab (g^(m - 1))=true) (c1:cntB g tab 1=true):NarW g lo tab m lo m :=
 ⟨hm,fun j hj _=>by lia,.inr ⟨0,m - 1,by lia,by lia,by lia,by lia,by rw [Nat.sub_zero];exact c0,by rw [Nat.sub_self,Z13];exact c1⟩⟩
theorem nar_none {g lo:Int} {tab:List Int} (c:cntB g tab 1=false):NarW g lo tab 1 0 1 :=
 have f:∀ j,j<1→cntB g tab (g^(1 - 1 - j))=false:=fun j hj=>by
  have:j=0:=by lia
  subst this
  rw [Nat.sub_zero,Nat.sub_self,Z13]
  exact c
 ⟨Nat.le_refl _,fun j hj hc=>absurd hc (by rw [f j hj];decide),.inl ⟨f,rfl,rfl⟩⟩
theorem nar_is {g:Int} (hg:2≤g) {lo lo':Int} {tab tab':List Int} {m m':Nat} (hl:(tab.length:Int)=g^m) (hl':(tab'.length:Int)=g^m') (al:AlikeR g lo' tab' m' lo tab m) (n':NarW g lo' tab' m' lo' m') {low:Int} {M:Nat} (n:NarW g lo tab m low M):low=lo'∧M=m'∧bwT g lo tab m low M=tab':=by
 obtain ⟨e1,e2⟩:=(alike_narrow hg hl' hl n' n).mp al
 rw [bwT_self hg lo' hl'] at e2
 refine ⟨e1.symm,?_,e2.symm⟩
 have a:=bwT_len hg lo tab m low M
 rw [←e2,hl'] at a
 exact (pow_inj hg a).symm
theorem nar_is0 {g:Int} (hg:2≤g) {lo lo':Int} {tab tab':List Int} {m:Nat} (hl:(tab.length:Int)=g^m) (hl':(tab'.length:Int)=g^1) (al:AlikeR g lo' tab' 1 lo tab m) (c:cntB g tab' 1=false) {low:Int} {M:Nat} (n:NarW g lo tab m low M):low=0∧M=1∧bwT g lo tab m low M=tab':=by
 obtain ⟨e1,e2⟩:=(alike_narrow hg hl' hl (nar_none c) n).mp al
 have a:=bwT_len hg lo tab m low M
 rw [←e2,bwT_len hg] at a
 have hM:=(pow_inj hg a).symm
 subst hM
 refine ⟨e1.symm,rfl,?_⟩
 rw [←e2]
 have f:∀ j,j<1→cntB g tab' (g^(1 - 1 - j))=false:=fun j hj=>by
  have:j=0:=by lia
  subst this
  rw [Nat.sub_zero,Nat.sub_self,Z13]
  exact c
 have g1:g^1=g:=by rw [Z7,Z13,Z23]
 refine list_eq_getD (by have:=bwT_len hg lo' tab' 1 0 1;lia) fun k hk=>?_
 have lk:(k:Int)<g^1:=by have:=bwT_len hg lo' tab' 1 0 1;lia
 rw [bwT_none hg hl' f]
 obtain ⟨G,hG⟩:∃ G:Nat,(G:Int)=g:=⟨g.toNat,by lia⟩
 have z:=(last_free hG).mp c k (by lia)
 rw [Nat.mod_eq_of_lt (by lia),Nat.sub_self] at z
 rw [z,Z0,Z19,if_pos (by lia)]
 rfl
theorem rep_get (ns:List Int):∀ (q i:Nat),i<q*ns.length→((List.replicate q ns).flatten).getD i 0=ns.getD (i%ns.length) 0
 | 0,i,h=>by lia
 | q+1,i,h=>by
  rw [Nat.succ_mul] at h
  rw [Z24,List.flatten_cons]
  by_cases c:i<ns.length
  ·rw [Nat.mod_eq_of_lt c,Z0,Z0,List.getElem?_append_left c]
  ·rw [Z0,List.getElem?_append_right (by lia),←Z0,rep_get ns q (i - ns.length) (by lia),←Nat.mod_eq_sub_mod (by lia)]
theorem rep_len (q:Nat) (ns:List Int):((List.replicate q ns).flatten).length=q*ns.length:=by
 rw [List.length_flatten,List.map_replicate,List.sum_replicate_nat]
theorem first_rep {tab:List Int} {h G:Nat} (hl:tab.length=h*G) (G1:1≤G):tab=(List.replicate G (tab.take h)).flatten↔∀ k,k<tab.length→tab.getD k 0=tab.getD (k%h) 0:=by
 have hG:h≤h*G:=Nat.le_mul_of_pos_right h G1
 have tl:(tab.take h).length=h:=by rw [Z16];lia
 have key:∀ k,k<tab.length→((List.replicate G (tab.take h)).flatten).getD k 0=tab.getD (k%h) 0:=fun k hk=>by
  rw [rep_get _ _ _ (by rw [tl,Nat.mul_comm];lia),tl]
  refine getD_take (Nat.mod_lt _ ?_)
  rcases Nat.eq_zero_or_pos h with z | z
  ·rw [z,Nat.zero_mul] at hl;lia
  ·exact z
 constructor
 ·intro e k hk
  rw [←key k hk,←e]
 ·intro a
  refine list_eq_getD (by rw [rep_len,tl,Nat.mul_comm];exact hl) fun k hk=>?_
  rw [key k hk];exact a k hk
theorem last_rep {tab:List Int} {G:Nat}:tab=(List.range tab.length).map (fun k=>tab.getD (k - k%G) 0)↔∀ k,k<tab.length→tab.getD k 0=tab.getD (k - k%G) 0:=by
 constructor
 ·intro e k hk
  have:tab.getD k 0=((List.range tab.length).map (fun k=>tab.getD (k - k%G) 0)).getD k 0:=congrArg (fun l=>l.getD k 0) e
  rw [this,getD_map_range hk]
 ·intro a
  refine list_eq_getD (by rw [Z1,Z2]) fun k hk=>?_
  rw [getD_map_range hk];exact a k hk
theorem first_stays {tab:List Int} {h G:Nat} (G1:1≤G) (hl:tab.length=h*G*G) (hu:∀ k,k<tab.length→tab.getD k 0=tab.getD (k - k%G) 0)
  (hc:∀ i,i<h*G→((List.range (h*G)).map fun i=>tab.getD (i*G) 0).getD i 0=((List.range (h*G)).map fun i=>tab.getD (i*G) 0).getD (i%h) 0):∀ k,k<tab.length→tab.getD k 0=tab.getD (k%(h*G)) 0:=by
 intro k hk
 have kl:k / G<h*G:=Nat.div_lt_of_lt_mul (by rw [Nat.mul_comm];lia)
 have h1:1≤h:=by
  rcases Nat.eq_zero_or_pos h with z | z
  ·rw [z,Nat.zero_mul] at kl;exact absurd kl (Nat.not_lt_zero _)
  ·exact z
 have hb:k / G%h<h:=Nat.mod_lt _ h1
 have hh:h≤h*G:=Nat.le_mul_of_pos_right h G1
 have a:=hc (k / G) kl
 rw [getD_map_range kl,getD_map_range (by lia)] at a
 have e1:k - k%G=k / G*G:=by have:=Nat.div_add_mod k G;rw [Nat.mul_comm] at this;lia
 have e2:k%(h*G)=k%G+G*(k / G%h):=by rw [Nat.mul_comm h G,Nat.mod_mul]
 have e3:k%(h*G)%G=k%G:=Nat.mod_mul_left_mod ..
 have e4:k%(h*G) - k%(h*G)%G=k / G%h*G:=by rw [e3,e2,Nat.mul_comm G];lia
 rw [hu k hk,e1,a,hu (k%(h*G)) (Nat.lt_of_le_of_lt (Nat.mod_le ..) hk),e4]
def FrameW (g lo:Int) (tab:List Int) (m:Nat) (lf:Int) (tf:List Int) (mf:Nat):Prop:=∃ (low:Int) (M:Nat),NarW g lo tab m low M∧lf=low∧((M=1∧mf=2∧tf=bwT g low (bwT g lo tab m low 1) 1 low 2)∨(2≤M∧mf=M∧tf=bwT g lo tab m low M))
theorem nar_uniq {g:Int} (hg:2≤g) {lo:Int} {tab:List Int} {m:Nat} (hl:(tab.length:Int)=g^m) {low low':Int} {M M':Nat} (n:NarW g lo tab m low M) (n':NarW g lo tab m low' M'):low=low'∧M=M':=by
 obtain ⟨e1,e2⟩:=(alike_narrow hg hl hl n n').mp fun _ _=>rfl
 refine ⟨e1,?_⟩
 have a:=bwT_len hg lo tab m low M
 rw [e2,bwT_len hg] at a
 exact (pow_inj hg a).symm
theorem nar_ex (g lo:Int) (tab:List Int) (m:Nat):∃ low M,NarW g lo tab m low M:=by
 by_cases hc:countL g lo tab m=[]
 ·exact ⟨0,1,narW_nil hc⟩
 ·obtain ⟨M,_,_,hW⟩:=narW_some hc
  exact ⟨_,M,hW⟩
theorem frame_wide {g:Int} (hg:2≤g) {lo lo':Int} {tab tab':List Int} {m m':Nat} (hl:(tab.length:Int)=g^m) (hl':(tab'.length:Int)=g^m') (al:AlikeR g lo' tab' m' lo tab m) (h2:2≤m') (c0:cntB g tab' (g^(m' - 1))=true) (c1:cntB g tab' 1=true):FrameW g lo tab m lo' tab' m':=by
 obtain ⟨low,M,n⟩:=nar_ex g lo tab m
 obtain ⟨rfl,rfl,e⟩:=nar_is hg hl hl' al (nar_ends (by lia) c0 c1) n
 exact ⟨_,_,n,rfl,.inr ⟨h2,rfl,e.symm⟩⟩
theorem frame_one {g:Int} (hg:2≤g) {lo lo':Int} {tab tab':List Int} {m:Nat} (hl:(tab.length:Int)=g^m) (hl':(tab'.length:Int)=g^1) (al:AlikeR g lo' tab' 1 lo tab m) (c1:cntB g tab' 1=true):FrameW g lo tab m lo' (bwT g lo' tab' 1 lo' 2) 2:=by
 obtain ⟨low,M,n⟩:=nar_ex g lo tab m
 obtain ⟨rfl,rfl,e⟩:=nar_is hg hl hl' al (nar_ends (Nat.le_refl _) (by rw [Nat.sub_self,Z13];exact c1) c1) n
 exact ⟨_,_,n,rfl,.inl ⟨rfl,rfl,by rw [e]⟩⟩
theorem frame_none {g:Int} (hg:2≤g) {lo lo':Int} {tab tab':List Int} {m:Nat} (hl:(tab.length:Int)=g^m) (hl':(tab'.length:Int)=g^1) (al:AlikeR g lo' tab' 1 lo tab m) (c1:cntB g tab' 1=false):FrameW g lo tab m 0 (bwT g 0 tab' 1 0 2) 2:=by
 obtain ⟨low,M,n⟩:=nar_ex g lo tab m
 obtain ⟨rfl,rfl,e⟩:=nar_is0 hg hl hl' al c1 n
 exact ⟨_,_,n,rfl,.inl ⟨rfl,rfl,by rw [e]⟩⟩
theorem bw_two {g:Int} (hg:2≤g) {G:Nat} (hG:(G:Int)=g) (x:Int) (T:List Int):bwT g x T 1 x 2=(List.range (G*G)).map fun k=>T.getD (k / G) 0:=by
 have g22:g^2=((G*G:Nat):Int):=by rw [show (2:Nat)=0+1+1 from rfl,Z7,Z7,Z13,Z23,←hG,Z12]
 have hL:=bwT_len hg x T 1 x 2
 refine list_eq_getD (by rw [Z1,Z2];lia) fun k hk=>?_
 have hk2:k<G*G:=by lia
 rw [getD_map_range hk2]
 unfold bwT
 rw [getD_map_range (by lia)]
 congr 1
 have e:bwW (wordL g (k:Int) 2) (x - x) 1=[((k / G:Nat):Int)]:=by
  obtain ⟨a,b,hw,ha,hb⟩:∃ a b:Int,wordL g (k:Int) 2=[a,b]∧a=(k:Int) / g%g∧b=(k:Int)%g:=⟨_,_,rfl,rfl,rfl⟩
  rw [hw]
  show [sn [a,b] (x - x+((0:Nat):Int))]=_
  rw [show x - x+((0:Nat):Int)=0 by lia]
  show [a]=_
  rw [ha,←hG,←Z18,←Z27,Nat.mod_eq_of_lt (Nat.div_lt_of_lt_mul hk2)]
 rw [e,num_one,Z5]
theorem FrameW.two {g lo:Int} {tab:List Int} {m:Nat} {lf:Int} {tf:List Int} {mf:Nat} (h:FrameW g lo tab m lf tf mf):2≤mf:=by
 obtain ⟨low,M,_,_,z | z⟩:=h
 ·lia
 ·lia
def spFrame (CT:Addr):Sp:=fun vs H Q E=>∃ (r:Addr) (g lo:Int) (tab:List Int) (m:Nat) (lf:Int) (tf:List Int) (mf:Nat),vs=[.ref r]∧RuleOk H r g lo tab m∧FrameW g lo tab m lf tf mf∧(g^(mf - 1)≤9→∀ r' H',Same H H'→RuleOk H' r' g lf tf mf→Q (.ref r') H')∧(9<g^(mf - 1)→∀ H',Same H H'→E (.ref CT) none H')
structure CutW (g lo:Int) (tab:List Int) (m:Nat) (lo':Int) (tab':List Int) (m':Nat):Prop where
 m1:1≤m'
 le:m'≤m
 len:(tab'.length:Int)=g^m'
 tb:∀ n∈tab',0≤n∧n<g
 al:AlikeR g lo' tab' m' lo tab m
section
variable {g:Int} (g2:2≤g) {lo:Int} {tab:List Int} {m:Nat} {lo':Int} {tab':List Int} {m':Nat} (c:CutW g lo tab m lo' tab' m')
include g2 c
theorem CutW.half:((tab'.length / g.toNat:Nat):Int)=g^(m' - 1)∧tab'.length=tab'.length / g.toNat*g.toNat:=heads_is g2 c.len c.m1
theorem CutW.first (h2:2≤m') (e:tab'=(List.replicate g.toNat (tab'.take (tab'.length / g.toNat))).flatten):CutW g lo tab m (lo'+1) (tab'.take (tab'.length / g.toNat)) (m' - 1):=by
 have hh:=c.half g2
 have gl:=(first_rep hh.2 (by lia)).mp e
 obtain ⟨k,rfl⟩:∃ k,m'=k+1:=⟨m' - 1,by lia⟩
 rw [Nat.add_sub_cancel] at hh
 have cf:=cut_first g2 lo' c.len hh.1 gl
 refine ⟨by lia,by have:=c.le;lia,?_,fun n hn=>c.tb n (List.mem_of_mem_take hn),fun x hx=>(cf x hx).trans (c.al x hx)⟩
 rw [Z16,Nat.min_eq_left (Nat.div_le_self ..)]
 exact hh.1
theorem CutW.first_counts (e:¬ tab'=(List.replicate g.toNat (tab'.take (tab'.length / g.toNat))).flatten):cntB g tab' (g^(m' - 1))=true:=by
 have hh:=c.half g2
 have m1:=c.m1
 have hl:=c.len
 obtain ⟨k,rfl⟩:∃ k,m'=k+1:=⟨m' - 1,by lia⟩
 cases z:cntB g tab' (g^(k+1 - 1)) with
 | true=>rfl
 | false=>exact absurd ((first_rep hh.2 (by lia)).mpr ((first_free g2 hl hh.1).mp z)) e
theorem CutW.last (h2:2≤m') (e:tab'=(List.range tab'.length).map fun k=>tab'.getD (k - k%g.toNat) 0):CutW g lo tab m lo' ((List.range (tab'.length / g.toNat)).map fun i=>tab'.getD (i*g.toNat) 0) (m' - 1):=by
 have hh:=c.half g2
 have gl:=last_rep.mp e
 obtain ⟨k,rfl⟩:∃ k,m'=k+1:=⟨m' - 1,by lia⟩
 rw [Nat.add_sub_cancel] at hh
 have cf:=cut_last g2 lo' c.len hh.1 (show ((g.toNat:Nat):Int)=g by lia) gl
 refine ⟨by lia,by have:=c.le;lia,?_,fun n hn=>?_,fun x hx=>(cf x hx).trans (c.al x hx)⟩
 ·rw [Z1,Z2]
  exact hh.1
 ·obtain ⟨i,hi,rfl⟩:=List.mem_map.mp hn
  exact getD_lt g2 c.tb _
theorem CutW.last_counts (e:¬ tab'=(List.range tab'.length).map fun k=>tab'.getD (k - k%g.toNat) 0):cntB g tab' 1=true:=by
 cases z:cntB g tab' 1 with
 | true=>rfl
 | false=>exact absurd (last_rep.mpr ((last_free (show ((g.toNat:Nat):Int)=g by lia)).mp z)) e
theorem CutW.stays (h2:3≤m') (e:tab'=(List.range tab'.length).map fun k=>tab'.getD (k - k%g.toNat) 0) (h:cntB g tab' (g^(m' - 1))=true):cntB g ((List.range (tab'.length / g.toNat)).map fun i=>tab'.getD (i*g.toNat) 0) (g^(m' - 1 - 1))=true:=by
 have d:=c.last g2 (by lia) e
 have hh:=c.half g2
 have hd:=d.half g2
 have G1:1≤g.toNat:=by lia
 rw [Z1,Z2] at hd
 obtain ⟨H,hH⟩:∃ H,H=tab'.length / g.toNat / g.toNat:=⟨_,rfl⟩
 rw [←hH] at hd
 cases z:cntB g ((List.range (tab'.length / g.toNat)).map fun i=>tab'.getD (i*g.toNat) 0) (g^(m' - 1 - 1)) with
 | true=>rfl
 | false =>
  exfalso
  have dl:=d.len
  obtain ⟨k,rfl⟩:∃ k,m'=k+1+1:=⟨m' - 2,by lia⟩
  have q:=(first_free g2 (m:=k) (h:=H) dl hd.1).mp z
  rw [Z1,Z2,hd.2] at q
  have s:=first_stays G1 (by rw [←hd.2];exact hh.2) (last_rep.mp e) q
  rw [←hd.2] at s
  have f:=(first_free g2 c.len hh.1).mpr s
  have h':cntB g tab' (g^(k+1))=true:=h
  rw [f] at h'
  cases h'
theorem CutW.frame (hl:(tab.length:Int)=g^m) (h2:2≤m') (c0:cntB g tab' (g^(m' - 1))=true) (c1:cntB g tab' 1=true):FrameW g lo tab m lo' tab' m':=frame_wide g2 hl c.len c.al h2 c0 c1
theorem CutW.frame1 (hl:(tab.length:Int)=g^m) (h1:m'=1) (x:Int) (e:tab'=List.replicate g.toNat (tab'.getD 0 0)→x=0) (ne:¬ tab'=List.replicate g.toNat (tab'.getD 0 0)→x=lo'):FrameW g lo tab m x ((List.range (g.toNat*g.toNat)).map fun k=>tab'.getD (k / g.toNat) 0) 2:=by
 subst h1
 have gn:((g.toNat:Nat):Int)=g:=by lia
 have g1:g^1=g:=by rw [Z7,Z13,Z23]
 have hl':=c.len
 have key:tab'=List.replicate g.toNat (tab'.getD 0 0)↔cntB g tab' 1=false:=by
  rw [last_free gn]
  constructor
  ·intro y k hk
   obtain ⟨v,hv⟩:∃ v,v=tab'.getD 0 0:=⟨_,rfl⟩
   rw [←hv] at y
   rw [Nat.mod_eq_of_lt (by lia),Nat.sub_self,←hv,y,Z0,Z19,if_pos (by lia)]
   rfl
  ·intro y
   refine list_eq_getD (by rw [Z9];lia) fun k hk=>?_
   have z:=y k hk
   rw [Nat.mod_eq_of_lt (by lia),Nat.sub_self] at z
   rw [z,Z0,Z0,Z19,if_pos (by lia)]
   rfl
 rw [←bw_two g2 gn x tab']
 cases z:cntB g tab' 1 with
 | false=>rw [e (key.mpr z)];exact frame_none g2 hl c.len c.al z
 | true =>
  rw [ne (fun y=>by rw [key.mp y] at z;cases z)]
  exact frame_one g2 hl c.len c.al z
end
theorem rsz_cut {g:Int} (g2:2≤g) {n h:Nat} (hn:n=h*g.toNat) (h1:1≤h):rsz 0 (n:Int) g=h:=by
 have e:(n:Int)=(h:Int)*g:=by rw [hn,Z12,show ((g.toNat:Nat):Int)=g by lia]
 have k:(h:Int)*g=g*((h:Int) - 1)+g:=by rw [Int.mul_sub,Int.mul_one,Z28];lia
 have p:0≤g*((h:Int) - 1):=Int.mul_nonneg (by lia) (by lia)
 unfold rsz
 rw [if_pos (by lia),show (n:Int) - 0 - 1=g - 1+g*((h:Int) - 1) by lia,Int.add_mul_ediv_left _ _ (by lia),Int.ediv_eq_zero_of_lt (by lia) (by lia)]
 lia
theorem FrameW.le {g:Int} (hg:2≤g) {lo:Int} {tab:List Int} {m:Nat} {lf:Int} {tf:List Int} {mf:Nat} (fw:FrameW g lo tab m lf tf mf) (hl:(tab.length:Int)=g^m) {lo':Int} {tab':List Int} {m':Nat} (hl':(tab'.length:Int)=g^m') (al:AlikeR g lo tab m lo' tab' m'):mf≤max 2 m':=by
 obtain ⟨low,M,n,rfl,z⟩:=fw
 obtain ⟨low',M',n'⟩:=nar_ex g lo' tab' m'
 obtain ⟨e1,e2⟩:=(alike_narrow hg hl hl' n n').mp al
 have a:=bwT_len hg lo tab m lf M
 rw [e2,bwT_len hg] at a
 have eM:=pow_inj hg a
 have:M'≤max 1 m':=by
  rcases n'.ends with ⟨_,_,y⟩ | ⟨j0,j1,_,_,_,_,_,_⟩ <;> lia
 rcases z with z | z <;> lia
end L2
namespace L2
def joinT (g:Int) (ta:List Int) (ma:Nat) (tb:List Int) (M:Nat):List Int:=(List.range (g^M).toNat).map fun n:Nat=>tb.getD (num g (ledL g ta ma (wordL g (n:Int) M))).toNat 0
theorem joinT_word {g:Int} (hg:2≤g) (ta:List Int) (ma:Nat) (tb:List Int) {w:List Int} (hb:∀ n∈w,0≤n∧n<g):(joinT g ta ma tb w.length).getD (num g w).toNat 0=tb.getD (num g (ledL g ta ma w)).toNat 0:=by
 have b:=num_lt hg hb
 unfold joinT
 rw [getD_map_range (by lia),show (((num g w).toNat:Nat):Int)=num g w by lia,wordL_num hg hb]
theorem ringW_win (ring:List Int) {M k m:Nat} (z:Int) (h:k+m≤M):((ringW ring M z).drop k).take m=ringW ring m (z+(k:Int)):=by
 unfold ringW
 rw [←List.map_drop,←List.map_take,range_drop_take _ _ _ h,List.map_map]
 refine List.map_congr_left fun j _=>?_
 show ringAt ring (z+((k+j:Nat):Int))=_
 congr 1
 lia
theorem ringL_join {g:Int} (hg:2≤g) (loa lob:Int) (ta:List Int) {ma:Nat} (tb:List Int) {mb:Nat} (hma:1≤ma) (hmb:1≤mb) {ring:List Int} (hb:∀ n∈ring,0≤n∧n<g) (h:1≤ring.length):ringL g (loa+lob) (joinT g ta ma tb (ma+mb - 1)) (ma+mb - 1) ring=ringL g lob tb mb (ringL g loa ta ma ring):=by
 unfold ringL
 rw [Z1,Z2]
 refine List.map_congr_left fun i _=>?_
 have wb:=ringW_lt hg hb (ma+mb - 1) ((i:Int)+(loa+lob))
 have e:=joinT_word hg ta ma tb wb
 rw [ringW_len] at e
 rw [e]
 congr 3
 refine list_eq_getD ?_ fun k hk=>?_
 ·rw [ledL_len,ringW_len,ringW_len];lia
 rw [ledL_len,ringW_len] at hk
 have e1:(ledL g ta ma (ringW ring (ma+mb - 1) ((i:Int)+(loa+lob)))).getD k 0=winS g ta ma (ringW ring (ma+mb - 1) ((i:Int)+(loa+lob))) k:=by
  unfold ledL
  exact getD_map_range (by rw [ringW_len];exact hk)
 have e2:(ringW ((List.range ring.length).map fun i:Nat=>ta.getD (num g (ringW ring ma ((i:Int)+loa))).toNat 0) mb ((i:Int)+lob)).getD k 0=ringAt ((List.range ring.length).map fun i:Nat=>ta.getD (num g (ringW ring ma ((i:Int)+loa))).toNat 0) ((i:Int)+lob+(k:Int)):=by
  unfold ringW
  exact getD_map_range (by lia)
 have e3:=ringAt_ringL (g:=g) (lo:=loa) (tab:=ta) (m:=ma) h ((i:Int)+lob+(k:Int))
 unfold ringL at e3
 rw [e1,e2,e3]
 unfold winS
 rw [ringW_win ring _ (by lia)]
 congr 4
 lia
end L2
namespace L2
open PySem PySem.Spec PyProof.Rows RW
theorem nar_ex27 (g lo:Int) (tab:List Int) (m:Nat):∃ low M,NarW g lo tab m low M:=by
 by_cases hc:countL g lo tab m=[]
 ·exact ⟨0,1,narW_nil hc⟩
 ·obtain ⟨M,_,_,hW⟩:=narW_some hc
  exact ⟨_,M,hW⟩
theorem nar_alike27 {g:Int} (hg:2≤g) {lo:Int} {tab:List Int} {m:Nat} (hl:(tab.length:Int)=g^m) {lo':Int} {tab':List Int} {m':Nat} (hl':(tab'.length:Int)=g^m') (al:AlikeR g lo tab m lo' tab' m') {low low':Int} {M M':Nat} (n:NarW g lo tab m low M) (n':NarW g lo' tab' m' low' M'):low=low'∧M=M'∧bwT g lo tab m low M=bwT g lo' tab' m' low' M':=by
 obtain ⟨e1,e2⟩:=(alike_narrow hg hl hl' n n').mp al
 have a:=bwT_len hg lo tab m low M
 rw [e2,bwT_len hg] at a
 exact ⟨e1,(pow_inj hg a).symm,e2⟩
structure R3 where
 lo:Int
 t:List Int
 m:Nat
structure R3.Ok (g:Int) (r:R3):Prop where
 m1:1≤r.m
 len:(r.t.length:Int)=g^r.m
 tb:∀ n∈r.t,0≤n∧n<g
def R3.Al (g:Int) (a b:R3):Prop:=AlikeR g a.lo a.t a.m b.lo b.t b.m
theorem narR_ex (g:Int) (r:R3):∃ s:R3,NarW g r.lo r.t r.m s.lo s.m∧s.t=bwT g r.lo r.t r.m s.lo s.m:=by
 obtain ⟨low,M,n⟩:=nar_ex27 g r.lo r.t r.m
 exact ⟨⟨low,bwT g r.lo r.t r.m low M,M⟩,n,rfl⟩
noncomputable def narR (g:Int) (r:R3):R3:=Classical.choose (narR_ex g r)
section
variable {g:Int} (hg:2≤g)
include hg
end
def joinR (g:Int) (a b:R3):R3:=⟨a.lo+b.lo,joinT g a.t a.m b.t (a.m+b.m - 1),a.m+b.m - 1⟩
noncomputable def come (g:Int) (b:R3):Nat→R3
 | 0=>b
 | k+1=>narR g (joinR g (come g b k) b)
section
variable {g:Int} (hg:2≤g)
include hg
end
section
variable {g:Int} (hg:2≤g)
include hg
end
section
variable {g:Int} (hg:2≤g)
include hg
theorem R3.Al.row {r:R3} (ok:r.Ok g) {x:Int→Int}:Row g (fun z=>fnR g r.lo r.t r.m fun y=>x (z+y)):=fun z=>getD_lt hg ok.tb _
end
section
variable {g:Int} (g3:3≤g)
include g3
end
end L2
namespace L2
open PySem PySem.Spec PyProof.Rows RW
def words (g:Int) (m:Nat):List (List Int):=(List.range (g^m).toNat).map fun n:Nat=>wordL g (n:Int) m
structure LLV (H:Hp) (p:Addr) (ps:List Addr) (ws:List (List Int)):Prop where
 l:H p=some (.lst (ps.map V.ref))
 n:ps.length=ws.length
 e:∀ (k:Nat) (q:Addr) (w:List Int),ps[k]?=some q→ws[k]?=some w→H q=some (.lst (w.map V.int))
theorem LLV.same {H H':Hp} {p:Addr} {ps:List Addr} {ws:List (List Int)} (e:Same H H') (h:LLV H p ps ws):LLV H' p ps ws:=⟨e _ _ h.l,h.n,fun k q w h1 h2=>e _ _ (h.e k q w h1 h2)⟩
theorem LLV.snoc {H H':Hp} {p:Addr} {ps:List Addr} {ws:List (List Int)} (h:LLV H p ps ws) (pn:∀ q∈ps,q≠p) (e:∀ b,b≠p→∀ o,H b=some o→H' b=some o) {q:Addr} {w:List Int} (hp:H' p=some (.lst (ps.map V.ref++[.ref q]))) (hq:H' q=some (.lst (w.map V.int))):LLV H' p (ps++[q]) (ws++[w]):=by
 refine ⟨by rw [hp,Z3];rfl,by rw [Z4,Z4,h.n];rfl,fun k z w' hz hw=>?_⟩
 by_cases hk:k<ps.length
 ·rw [List.getElem?_append_left hk] at hz
  rw [List.getElem?_append_left (by rw [←h.n];exact hk)] at hw
  exact e z (pn z (List.mem_of_getElem? hz)) _ (h.e k z w' hz hw)
 ·rw [List.getElem?_append_right (by lia)] at hz
  rw [List.getElem?_append_right (by rw [←h.n];lia),←h.n] at hw
  have k0:k - ps.length=0:=by
   have:=(List.getElem?_eq_some_iff.mp hz).1
   simp only [List.length_cons,List.length_nil] at this
   lia
  rw [k0] at hz hw
  have e1:q=z:=Option.some.inj hz
  have e2:w=w':=Option.some.inj hw
  rw [←e1,←e2]
  exact hq
theorem LLV.take {H H':Hp} {p p':Addr} {ps:List Addr} {ws:List (List Int)} (h:LLV H p ps ws) (k:Nat) (e:Same H H') (hp:H' p'=some (.lst ((ps.map V.ref).take k))):LLV H' p' (ps.take k) (ws.take k):=by
 refine ⟨by rw [hp,List.map_take],by rw [Z16,Z16,h.n],fun j q w hq hw=>?_⟩
 rw [List.getElem?_take] at hq hw
 split at hq
 ·rename_i z
  rw [if_pos z] at hw
  exact e _ _ (h.e j q w hq hw)
 ·cases hq
theorem num_cons (g x:Int) (r:List Int):num g (x::r)=x*g^r.length+num g r:=by
 have e:=num_append g [x] r
 have nx:num g [x]=x:=by show 0*g+x=x;rw [Z21,Z8]
 rw [nx] at e
 exact e
end L2
namespace L2
open PySem PySem.Spec PyProof.Rows RW
theorem sum_only {h u:Nat} (hu:u<h) (x:Int):sumN h (fun k=>if k=u then x else 0)=x:=by
 have e:h=u+(1+(h - u - 1)):=by lia
 rw [e,sumN_split,sumN_split]
 have a:sumN u (fun k=>if k=u then x else 0)=0:=by
  rw [sumN_congr (g:=fun _=>0) fun k hk=>if_neg (by lia),sumN_const,Z10]
 have b:sumN (h - u - 1) (fun k=>if u+(1+k)=u then x else 0)=0:=by
  rw [sumN_congr (g:=fun _=>0) fun k hk=>if_neg (by lia),sumN_const,Z10]
 have c:sumN 1 (fun k=>if u+k=u then x else 0)=x:=by
  rw [show (1:Nat)=0+1 from rfl,sumN_succ,sumN_zero,Z8]
  exact if_pos rfl
 rw [a,b,c]
 lia
end L2
namespace L2
open PySem PySem.Spec PyProof.Rows RW
def fitK (tab:List Int) (s:Int) (n:Nat):List Nat:=(List.range n).filter fun k=>decide (tab.getD k 0=s)
structure StV (H:Hp) (p:Addr) (ps:List Addr) (G:Nat) (tab:List Int) (h k0:Nat):Prop where
 l:H p=some (.lst (ps.map V.ref))
 n:ps.length=G
 e:∀ (s:Nat) (q:Addr),ps[s]?=some q→∃ ts:List Addr,H q=some (.lst (ts.map V.ref))∧ts.length=(fitK tab (s:Int) k0).length∧∀ (i:Nat) (t:Addr) (k:Nat),ts[i]?=some t→(fitK tab (s:Int) k0)[i]?=some k→H t=some (.tup [.int ((k / G:Nat):Int),.int ((k%h:Nat):Int)])
theorem StV.same {H H':Hp} {p:Addr} {ps:List Addr} {G:Nat} {tab:List Int} {h n:Nat} (s:Same H H') (v:StV H p ps G tab h n):StV H' p ps G tab h n:=⟨s _ _ v.l,v.n,fun k q hq=>by
 obtain ⟨ts,h1,h2,h3⟩:=v.e k q hq
 exact ⟨ts,s _ _ h1,h2,fun i t k a b=>s _ _ (h3 i t k a b)⟩⟩
end L2
namespace L2
open PySem PySem.Spec PyProof.Rows RW
def wGood (H:Hp) (g:Int) (z:V):Prop:=∃ a xs,z=.ref a∧H a=some (.lst xs)∧(∃ m:Nat,1≤m∧(xs.length:Int)=g^m)∧∀ x∈xs,isI x=true
def spCheckW (C:Addr):Sp:=fun vs H Q E=>∃ (g:Int) (z:V),vs=[.int g,z]∧2≤g∧g≤9∧TabKd H z∧(wGood H g z→∀ H',Same H H'→Q .non H')∧(¬ wGood H g z→∀ H',Same H H'→E (.ref C) none H')
theorem wGood_of {H:Hp} {w:Addr} {g:Int} {tab:List Int} {m:Nat} (hw:H w=some (.lst (tab.map V.int))) (hl:(tab.length:Int)=g^m) (m1:1≤m):wGood H g (.ref w) :=
 ⟨w,_,rfl,hw,⟨m,m1,by rw [Z1];exact hl⟩,fun x hx=>by
  obtain ⟨n,_,rfl⟩:=List.mem_map.mp hx
  rfl⟩
theorem ints_kd {H:Hp} {a:Addr} {ns:List Int} (h:H a=some (.lst (ns.map V.int))):TabKd H (.ref a):=⟨_,.inl h,kd_ints⟩
theorem bad_same {H H':Hp} {g:Int} {z:V} (kz:TabKd H z) (e:Same H H') (nz:¬ wGood H g z):¬ wGood H' g z:=by
 rintro ⟨b,ys,rfl,hb,r⟩
 obtain ⟨xs,hs,_⟩:=kz
 rcases hs with h | h
 ·have y:=e _ _ h
  rw [hb] at y
  cases y
  exact nz ⟨b,_,rfl,h,r⟩
 ·have y:=e _ _ h
  rw [hb] at y
  cases y
def gainL (g:Int) (tab:List Int) (m:Nat) (ws:List Int) (mw:Nat):List Int:=(List.range ((g^(m - 1)).toNat*ws.length)).map fun n:Nat=>ws.getD (num g (ledL g tab m (wordL g (n:Int) (m+mw - 1)))).toNat 0 - ws.getD (n / (g^(m - 1)).toNat) 0
theorem gainL_len (g:Int) (tab:List Int) (m:Nat) (ws:List Int) (mw:Nat):(gainL g tab m ws mw).length=(g^(m - 1)).toNat*ws.length:=by unfold gainL;rw [Z1,Z2]
def flowL (G:Nat) (gs:List Int):Nat→List Int
 | 0=>[0]
 | k+1=>flowL G gs k++[(flowL G gs k).getD ((k+1) / G) 0 - gs.getD (k+1) 0]
theorem flowL_len (G:Nat) (gs:List Int):∀ k,(flowL G gs k).length=k+1
 | 0=>rfl
 | k+1=>by
  show (flowL G gs k++[_]).length=_
  rw [Z4,flowL_len G gs k]
  rfl
def flowsL (G:Nat) (gs:List Int):List Int:=flowL G gs (gs.length / G - 1)
def wrongW (G:Nat) (gs fs:List Int) (n:Nat):Prop:=gs.getD n 0≠fs.getD (n / G) 0 - fs.getD (n%fs.length) 0
def rightW (G:Nat) (gs fs:List Int):Prop:=∀ n,n<gs.length→¬ wrongW G gs fs n
def spManyG:Sp:=fun vs H Q _=>∃ (r w:Addr) (g lo:Int) (tab:List Int) (m:Nat) (xs:List V),vs=[.ref r,.ref w]∧RuleOk H r g lo tab m∧H w=some (.lst xs)∧Q (.int (g^(m - 1)*(xs.length:Int))) H
def spGPlaces:Sp:=fun vs H Q _=>∃ (r w:Addr) (g lo:Int) (tab:List Int) (m mw:Nat) (xs:List V),vs=[.ref r,.ref w]∧RuleOk H r g lo tab m∧H w=some (.lst xs)∧(xs.length:Int)=g^mw∧Q (.int (((m+mw - 1:Nat)):Int)) H
def spGains:Sp:=fun vs H Q _=>∃ (r w:Addr) (g lo:Int) (tab:List Int) (m mw:Nat) (ws:List Int),vs=[.ref r,.ref w]∧RuleOk H r g lo tab m∧H w=some (.lst (ws.map V.int))∧(ws.length:Int)=g^mw∧1≤mw∧g^(m - 1)*(ws.length:Int)≤729∧∀ p H',NewL H H' p (gainL g tab m ws mw)→Q (.ref p) H'
def spFlowsBy:Sp:=fun vs H Q _=>∃ (p:Addr) (g:Int) (gs:List Int),vs=[.int g,.ref p]∧2≤g∧g≤9∧H p=some (.lst (gs.map V.int))∧g.toNat≤gs.length∧gs.length≤729∧∀ q H',NewL H H' q (flowsL g.toNat gs)→Q (.ref q) H'
def spFirstWrong:Sp:=fun vs H Q _=>∃ (p q:Addr) (g:Int) (gs fs:List Int),vs=[.int g,.ref p,.ref q]∧2≤g∧g≤9∧H p=some (.lst (gs.map V.int))∧H q=some (.lst (fs.map V.int))∧1≤fs.length∧gs.length=fs.length*g.toNat∧gs.length≤729∧(rightW g.toNat gs fs→∀ H',Same H H'→Q .non H')∧(∀ n,n<gs.length→wrongW g.toNat gs fs n→(∀ k,k<n→¬ wrongW g.toNat gs fs k)→∀ H',Same H H'→Q (.int ((n:Nat):Int)) H')
def ChkW (CT CW:Addr) (g:Int) (mf:Nat) (z:V) (H:Hp) (E:XK) (R:Addr→List Int→Nat→Prop):Prop :=
 (9<g^(mf - 1)∧∀ H',Same H H'→E (.ref CT) none H')∨(g^(mf - 1)≤9∧¬ wGood H g z∧∀ H',Same H H'→E (.ref CW) none H') ∨
 ∃ (w:Addr) (ws:List Int) (mw:Nat),g^(mf - 1)≤9∧z=.ref w∧H w=some (.lst (ws.map V.int))∧(ws.length:Int)=g^mw∧1≤mw∧((729<g^(mf - 1)*(ws.length:Int)∧∀ H',Same H H'→E (.ref CT) none H')∨(g^(mf - 1)*(ws.length:Int)≤729∧R w ws mw))
def spChecked (CT CW:Addr):Sp:=fun vs H Q E=>∃ (r:Addr) (g lo:Int) (tab:List Int) (m:Nat) (lf:Int) (tf:List Int) (mf:Nat) (z:V),vs=[.ref r,z]∧RuleOk H r g lo tab m∧FrameW g lo tab m lf tf mf∧TabKd H z∧ChkW CT CW g mf z H E fun w ws mw=>∀ p H',NewL H H' p (gainL g tf mf ws mw)→Q (.ref p) H'
theorem gain_div {g:Int} (g2:2≤g) {m mw:Nat} (m1:2≤m) {n:Nat} (hn:(n:Int)=g^mw) (w1:1≤mw):(g^(m - 1)).toNat*n=(g^(m - 1)).toNat*n / g.toNat*g.toNat∧1≤(g^(m - 1)).toNat*n / g.toNat:=by
 have gp:=RW.pow_pos g2 (m - 1)
 have wp:=RW.pow_pos g2 (mw - 1)
 have e:n=(g^(mw - 1)).toNat*g.toNat:=by
  have a:((( (g^(mw - 1)).toNat*g.toNat:Nat)):Int)=g^mw:=by
   rw [Z12,Int.toNat_of_nonneg (by lia),Int.toNat_of_nonneg (by lia),←Z7,show (mw - 1).succ=mw by lia]
  lia
 have d:(g^(m - 1)).toNat*n / g.toNat=(g^(m - 1)).toNat*(g^(mw - 1)).toNat:=by
  rw [e,←Nat.mul_assoc,Nat.mul_div_cancel _ (by lia)]
 rw [d]
 refine ⟨by rw [e,Nat.mul_assoc],?_⟩
 exact Nat.mul_pos (by lia) (by lia)
theorem flows_len {g:Int} (g2:2≤g) {gs:List Int} (h:gs.length=gs.length / g.toNat*g.toNat) (h1:1≤gs.length / g.toNat):1≤(flowsL g.toNat gs).length∧gs.length=(flowsL g.toNat gs).length*g.toNat:=by
 have e:(flowsL g.toNat gs).length=gs.length / g.toNat:=by unfold flowsL;rw [flowL_len];lia
 rw [e]
 exact ⟨h1,h⟩
end L2
namespace L2
open PySem PySem.Spec PyProof.Rows RW
theorem ringW_cons (ring:List Int) (k:Nat) (z:Int):ringW ring (k+1) z=ringAt ring z::ringW ring k (z+1):=by
 unfold ringW
 rw [List.range_succ_eq_map,List.map_cons,List.map_map]
 congr 1
 ·congr 1;lia
 ·refine List.map_congr_left fun j _=>?_
  show ringAt ring (z+((j+1:Nat):Int))=_
  congr 1;lia
theorem ringW_snoc (ring:List Int) (k:Nat) (z:Int):ringW ring (k+1) z=ringW ring k z++[ringAt ring (z+(k:Int))]:=by
 unfold ringW
 rw [List.range_succ,Z3]
 rfl
theorem ringW_turn (ring:List Int) (k:Nat) {y z:Int} (h:y%(ring.length:Int)=z%(ring.length:Int)):ringW ring k y=ringW ring k z:=by
 unfold ringW
 refine List.map_congr_left fun j _=>ringAt_congr ?_
 rw [Int.add_emod,h,←Int.add_emod]
theorem sumN_sub (n:Nat) (f g:Nat→Int):sumN n (fun k=>f k - g k)=sumN n f - sumN n g:=by
 induction n with
 | zero=>rfl
 | succ n ih=>rw [sumN_succ,sumN_succ,sumN_succ,ih];lia
theorem sumN_tele (n:Nat) (f:Nat→Int):sumN n (fun k=>f k - f (k+1))=f 0 - f n:=by
 induction n with
 | zero=>rw [sumN_zero];lia
 | succ n ih=>rw [sumN_succ,ih];lia
theorem ringL_sum (g lo:Int) (tab:List Int) (m:Nat) (ring:List Int):(ringL g lo tab m ring).sum=sumN ring.length fun i=>tab.getD (num g (ringW ring m ((i:Int)+lo))).toNat 0:=rfl
theorem gainL_at {g:Int} (hg:2≤g) (tab:List Int) {m:Nat} (m1:1≤m) {ws:List Int} {mw:Nat} (w1:1≤mw) (wl:(ws.length:Int)=g^mw) {w:List Int} (hw:w.length=m+mw - 1) (hb:∀ x∈w,0≤x∧x<g):(gainL g tab m ws mw).getD (num g w).toNat 0=ws.getD (num g (ledL g tab m w)).toNat 0 - ws.getD (num g (w.take mw)).toNat 0:=by
 have b:=num_lt hg hb
 have p:=RW.pow_pos hg (m - 1)
 have e:g^w.length=g^(m - 1)*g^mw:=by rw [hw,←Int.pow_add];congr 1;lia
 have hn:(num g w).toNat<(g^(m - 1)).toNat*ws.length:=by
  have:(((g^(m - 1)).toNat*ws.length:Nat):Int)=g^(m - 1)*g^mw:=by rw [Z12,wl,Int.toNat_of_nonneg (by lia)]
  lia
 unfold gainL
 rw [getD_map_range hn,Int.toNat_of_nonneg b.1,←hw,wordL_num hg hb]
 congr 2
 have tb:∀ x∈w.take mw,0≤x∧x<g:=fun x hx=>hb x (List.mem_of_mem_take hx)
 have db:∀ x∈w.drop mw,0≤x∧x<g:=fun x hx=>hb x (List.mem_of_mem_drop hx)
 have t:=num_lt hg tb
 have d:=num_lt hg db
 have dl:(w.drop mw).length=m - 1:=by rw [Z25];lia
 have q:num g w=num g (w.take mw)*g^(m - 1)+num g (w.drop mw):=by rw [←dl,←num_append,List.take_append_drop]
 rw [dl] at d
 have z:((((num g w).toNat / (g^(m - 1)).toNat:Nat)):Int)=num g (w.take mw):=by
  rw [Z18,Int.toNat_of_nonneg b.1,Int.toNat_of_nonneg (by lia),q,Int.add_comm,Int.add_mul_ediv_right _ _ (by lia),Int.ediv_eq_zero_of_lt d.1 d.2,Z8]
 lia
theorem change_sum {g:Int} (hg:2≤g) (tab:List Int) {m:Nat} (m1:1≤m) {ws:List Int} {mw:Nat} (w1:1≤mw) (wl:(ws.length:Int)=g^mw) {ring:List Int} (hb:∀ x∈ring,0≤x∧x<g) (n1:1≤ring.length) :
  (ringL g 0 ws mw (ringL g 0 tab m ring)).sum - (ringL g 0 ws mw ring).sum=sumN ring.length fun i=>(gainL g tab m ws mw).getD (num g (ringW ring (m+mw - 1) (i:Int))).toNat 0:=by
 rw [←ringL_join hg 0 0 tab ws m1 w1 hb n1,ringL_sum,ringL_sum,←sumN_sub]
 refine sumN_congr fun i _=>?_
 rw [Z20,Z20]
 have wb:=ringW_lt hg hb (m+mw - 1) (i:Int)
 have j:=joinT_word hg tab m ws wb
 rw [ringW_len] at j
 rw [gainL_at hg tab m1 w1 wl (ringW_len ..) wb,j]
 congr 3
 have:=ringW_win ring (M:=m+mw - 1) (k:=0) (m:=mw) (i:Int) (by lia)
 rw [List.drop_zero] at this
 rw [this,show (i:Int)+((0:Nat):Int)=(i:Int) by lia]
def missW (G:Nat) (gs fs:List Int) (n:Nat):Int:=gs.getD n 0 - (fs.getD (n / G) 0 - fs.getD (n%fs.length) 0)
theorem miss_sum {g:Int} (hg:2≤g) (gs:List Int) {fs:List Int} {k:Nat} (fl:(fs.length:Int)=g^k) {ring:List Int} (hb:∀ x∈ring,0≤x∧x<g) (n1:1≤ring.length) :
  (sumN ring.length fun i=>gs.getD (num g (ringW ring (k+1) (i:Int))).toNat 0)=sumN ring.length fun i=>missW g.toNat gs fs (num g (ringW ring (k+1) (i:Int))).toNat:=by
 have gn:((g.toNat:Nat):Int)=g:=by lia
 have key:∀ z:Int,(num g (ringW ring (k+1) z)).toNat / g.toNat=(num g (ringW ring k z)).toNat∧(num g (ringW ring (k+1) z)).toNat%fs.length=(num g (ringW ring k (z+1))).toNat:=fun z=>by
  have wb:=ringW_lt hg hb (k+1) z
  have b:=num_lt hg wb
  have b1:=num_lt hg (ringW_lt hg hb k z)
  have b2:=num_lt hg (ringW_lt hg hb k (z+1))
  rw [ringW_len] at b1 b2 b
  have l1:0≤ringAt ring (z+(k:Int))∧ringAt ring (z+(k:Int))<g:=wb _ (by rw [ringW_snoc];exact List.mem_append_right _ (List.mem_singleton.mpr rfl))
  have l2:0≤ringAt ring z∧ringAt ring z<g:=wb _ (by rw [ringW_cons];exact List.mem_cons_self ..)
  have q1:num g (ringW ring (k+1) z)=num g (ringW ring k z)*g+ringAt ring (z+(k:Int)):=by rw [ringW_snoc,num_snoc]
  have q2:num g (ringW ring (k+1) z)=ringAt ring z*g^k+num g (ringW ring k (z+1)):=by rw [ringW_cons,num_cons,ringW_len]
  constructor
  ·have:(((num g (ringW ring (k+1) z)).toNat / g.toNat:Nat):Int)=num g (ringW ring k z):=by
    rw [Z18,Int.toNat_of_nonneg b.1,gn,q1,Int.add_comm,Int.add_mul_ediv_right _ _ (by lia),Int.ediv_eq_zero_of_lt l1.1 l1.2,Z8]
   lia
  ·have:(((num g (ringW ring (k+1) z)).toNat%fs.length:Nat):Int)=num g (ringW ring k (z+1)):=by
    rw [Z27,Int.toNat_of_nonneg b.1,fl,q2,Int.add_comm,Int.add_mul_emod_self_right,Int.emod_eq_of_lt b2.1 b2.2]
   lia
 have t:=sumN_tele ring.length fun i=>fs.getD (num g (ringW ring k (i:Int))).toNat 0
 have e0:ringW ring k (ring.length:Int)=ringW ring k ((0:Nat):Int):=ringW_turn ring k (by rw [Int.emod_self];rfl)
 rw [e0,Int.sub_self] at t
 have s:=sumN_sub ring.length (fun i=>gs.getD (num g (ringW ring (k+1) (i:Int))).toNat 0) fun i=>fs.getD (num g (ringW ring k (i:Int))).toNat 0 - fs.getD (num g (ringW ring k ((i+1:Nat):Int))).toNat 0
 rw [t,Int.sub_zero] at s
 rw [←s]
 refine sumN_congr fun i _=>?_
 obtain ⟨a,b⟩:=key (i:Int)
 unfold missW
 rw [a,b]
 rfl
theorem two_rings {g:Int} (hg:2≤g) {k:Nat} (e:List Int→Int) {w:List Int} (wl:w.length=k+1) (wb:∀ x∈w,0≤x∧x<g) (k1:1≤k) (z:∀ u:List Int,u.length=k→(∀ x∈u,0≤x∧x<g)→e (0::u)=0) :
  (sumN (k+(k+1)) fun i=>e (ringW (List.replicate k 0++w) (k+1) (i:Int)))=(sumN (k+k) fun i=>e (ringW (List.replicate k 0++w.drop 1) (k+1) (i:Int)))+e w:=by
 have rb:∀ v:List Int,(∀ x∈v,0≤x∧x<g)→∀ x∈List.replicate k (0:Int)++v,0≤x∧x<g:=fun v hv x hx=>by
  rcases List.mem_append.mp hx with y | y
  ·rw [(List.mem_replicate.mp y).2];lia
  ·exact hv x y
 have db:∀ x∈w.drop 1,0≤x∧x<g:=fun x hx=>wb x (List.mem_of_mem_drop hx)
 have dl:(w.drop 1).length=k:=by rw [Z25];lia
 have lo:∀ v:List Int,(∀ x∈v,0≤x∧x<g)→∀ i,i<k→e (ringW (List.replicate k 0++v) (k+1) (i:Int))=0:=fun v hv i hi=>by
  rw [ringW_cons]
  have a:ringAt (List.replicate k 0++v) (i:Int)=0:=by
   unfold ringAt
   have l:(List.replicate k (0:Int)++v).length=k+v.length:=by rw [Z4,Z9]
   rw [Int.emod_eq_of_lt (by lia) (by rw [l];lia),Z5,Z0,List.getElem?_append_left (by rw [Z9];exact hi),Z19,if_pos hi]
   rfl
  rw [a]
  exact z _ (ringW_len ..) (ringW_lt hg (rb v hv) _ _)
 have lw:(List.replicate k (0:Int)++w).length=k+(k+1):=by rw [Z4,Z9,wl]
 have ld:(List.replicate k (0:Int)++w.drop 1).length=k+k:=by rw [Z4,Z9,dl]
 have at1:∀ i:Nat,i<k+(k+1)→ringAt (List.replicate k 0++w) (i:Int)=if i<k then 0 else w.getD (i - k) 0:=fun i hi=>by
  unfold ringAt
  rw [lw,Int.emod_eq_of_lt (by lia) (by lia),Z5,Z0,List.getElem?_append,Z9]
  split
  ·rename_i q;rw [Z19,if_pos q];rfl
  ·rw [←Z0]
 have at2:∀ i:Nat,i<k+k→ringAt (List.replicate k 0++w.drop 1) (i:Int)=if i<k then 0 else w.getD (i - k+1) 0:=fun i hi=>by
  unfold ringAt
  rw [ld,Int.emod_eq_of_lt (by lia) (by lia),Z5,Z0,List.getElem?_append,Z9]
  split
  ·rename_i q;rw [Z19,if_pos q];rfl
  ·rw [List.getElem?_drop,Z0,Nat.add_comm 1]
 have md:ringW (List.replicate k 0++w) (k+1) (k:Int)=w:=by
  refine list_eq_getD (by rw [ringW_len,wl]) fun j hj=>?_
  rw [ringW_len] at hj
  unfold ringW
  rw [getD_map_range hj,show (k:Int)+(j:Int)=((k+j:Nat):Int) by lia,at1 _ (by lia),if_neg (by lia)]
  congr 1;lia
 have hi:∀ i,i<k→ringW (List.replicate k 0++w) (k+1) ((k+(1+i):Nat):Int)=ringW (List.replicate k 0++w.drop 1) (k+1) ((k+i:Nat):Int):=fun i hi=>by
  unfold ringW
  refine List.map_congr_left fun j hj=>?_
  have jl:=List.mem_range.mp hj
  by_cases c:i+j<k
  ·rw [show ((k+(1+i):Nat):Int)+(j:Int)=((k+(1+i)+j:Nat):Int) by lia,show ((k+i:Nat):Int)+(j:Int)=((k+i+j:Nat):Int) by lia,at1 _ (by lia),at2 _ (by lia),if_neg (by lia),if_neg (by lia)]
   congr 1;lia
  ·have a:ringAt (List.replicate k 0++w) (((k+(1+i):Nat):Int)+(j:Int))=ringAt (List.replicate k 0++w) ((i+j - k:Nat):Int):=by
    refine ringAt_congr ?_
    rw [lw,show ((k+(1+i):Nat):Int)+(j:Int)=((i+j - k:Nat):Int)+((k+(k+1):Nat):Int) by lia,Int.add_emod_right]
   have b:ringAt (List.replicate k 0++w.drop 1) (((k+i:Nat):Int)+(j:Int))=ringAt (List.replicate k 0++w.drop 1) ((i+j - k:Nat):Int):=by
    refine ringAt_congr ?_
    rw [ld,show ((k+i:Nat):Int)+(j:Int)=((i+j - k:Nat):Int)+((k+k:Nat):Int) by lia,Int.add_emod_right]
   rw [a,b,at1 _ (by lia),at2 _ (by lia),if_pos (by lia),if_pos (by lia)]
 rw [show k+(k+1)=k+(1+k) by lia,sumN_split,sumN_split,sumN_split]
 have z0:∀ v:List Int,(∀ x∈v,0≤x∧x<g)→(sumN k fun i=>e (ringW (List.replicate k 0++v) (k+1) (i:Int)))=0:=fun v hv=>by
  rw [sumN_congr (g:=fun _=>0) (lo v hv),sumN_const,Z10]
 have last:(sumN k fun i=>e (ringW (List.replicate k 0++w) (k+1) ((k+(1+i):Nat):Int)))=sumN k fun i=>e (ringW (List.replicate k 0++w.drop 1) (k+1) ((k+i:Nat):Int)):=sumN_congr fun i q=>by rw [hi i q]
 rw [z0 w wb,z0 _ db,last]
 have one:(sumN 1 fun i=>e (ringW (List.replicate k 0++w) (k+1) ((k+i:Nat):Int)))=e w:=by
  rw [show (1:Nat)=0+1 from rfl,sumN_succ,sumN_zero,Z8]
  show e (ringW _ _ ((k:Nat):Int))=_
  rw [md]
 rw [one]
 lia
theorem flowL_at (G:Nat) (gs:List Int):∀ (n k:Nat),k≤n→(flowL G gs n).getD k 0=(flowL G gs k).getD k 0
 | 0,k,h=>by rw [show k=0 by lia]
 | n+1,k,h=>by
  by_cases c:k=n+1
  ·rw [c]
  ·rw [←flowL_at G gs n k (by lia)]
   show (flowL G gs n++[_]).getD k 0=_
   rw [Z0,List.getElem?_append_left (by rw [flowL_len];lia),←Z0]
theorem flowL_next {G:Nat} (G2:2≤G) (gs:List Int) {n k:Nat} (h:k+1≤n):(flowL G gs n).getD (k+1) 0=(flowL G gs n).getD ((k+1) / G) 0 - gs.getD (k+1) 0:=by
 have d:(k+1) / G≤k:=by
  have:=Nat.div_lt_self (show 0<k+1 by lia) G2
  lia
 rw [flowL_at G gs n _ h,flowL_at G gs n _ (by lia)]
 show (flowL G gs k++[_]).getD (k+1) 0=_
 rw [Z0,List.getElem?_append_right (by rw [flowL_len];lia),flowL_len,Nat.sub_self,flowL_at G gs k _ d]
 rfl
theorem flowL_zero (G:Nat) (gs:List Int) (n:Nat):(flowL G gs n).getD 0 0=0:=by rw [flowL_at G gs n 0 (Nat.zero_le _)];rfl
section
variable {g:Int} (hg:2≤g) {gs:List Int} {k:Nat} (hl:(gs.length:Int)=g^(k+1))
include hg hl
theorem flows_pow:((flowsL g.toNat gs).length:Int)=g^k:=by
 have p:=RW.pow_pos hg k
 have e:gs.length=(g^k).toNat*g.toNat:=by
  have:(((g^k).toNat*g.toNat:Nat):Int)=g^(k+1):=by rw [Z12,Int.toNat_of_nonneg (by lia),Int.toNat_of_nonneg (by lia),←Z7]
  lia
 unfold flowsL
 rw [flowL_len,e,Nat.mul_div_cancel _ (by lia)]
 lia
theorem miss_low (h0:gs.getD 0 0=0) {n:Nat} (hn:(n:Int)<g^k):missW g.toNat gs (flowsL g.toNat gs) n=0:=by
 have fl:=flows_pow hg hl
 unfold missW
 rw [Nat.mod_eq_of_lt (by lia)]
 have ln:(flowsL g.toNat gs).length=gs.length / g.toNat - 1+1:=by unfold flowsL;rw [flowL_len]
 cases n with
 | zero =>
  have a:(flowsL g.toNat gs).getD 0 0=0:=flowL_zero ..
  rw [Nat.zero_div,a,h0]
  rfl
 | succ n =>
  have:=flowL_next (G:=g.toNat) (by lia) gs (n:=gs.length / g.toNat - 1) (k:=n) (by lia)
  unfold flowsL
  rw [this]
  lia
theorem one_changes (k1:1≤k) {n:Nat} (hn:n<gs.length) (hw:wrongW g.toNat gs (flowsL g.toNat gs) n) (first:∀ j,j<n→¬ wrongW g.toNat gs (flowsL g.toNat gs) j)
  (h1:(sumN (k+(k+1)) fun i=>gs.getD (num g (ringW (List.replicate k 0++wordL g (n:Int) (k+1)) (k+1) (i:Int))).toNat 0)=0)
  (h2:(sumN (k+k) fun i=>gs.getD (num g (ringW (List.replicate k 0++(wordL g (n:Int) (k+1)).drop 1) (k+1) (i:Int))).toNat 0)=0):False:=by
 have fl:=flows_pow hg hl
 have pk:=RW.pow_pos hg k
 have wl:=wordL_len g (n:Int) (k+1)
 have wb:=wordL_lt hg (n:Int) (k+1)
 have nw:=num_wordL hg (n:=(n:Int)) (by lia) (m:=k+1) (by lia)
 have rb:∀ v:List Int,(∀ x∈v,0≤x∧x<g)→∀ x∈List.replicate k (0:Int)++v,0≤x∧x<g:=fun v hv x hx=>by
  rcases List.mem_append.mp hx with y | y
  ·rw [(List.mem_replicate.mp y).2];lia
  ·exact hv x y
 have db:∀ x∈(wordL g (n:Int) (k+1)).drop 1,0≤x∧x<g:=fun x hx=>wb x (List.mem_of_mem_drop hx)
 have l1:(List.replicate k (0:Int)++wordL g (n:Int) (k+1)).length=k+(k+1):=by rw [Z4,Z9,wl]
 have l2:(List.replicate k (0:Int)++(wordL g (n:Int) (k+1)).drop 1).length=k+k:=by rw [Z4,Z9,Z25,wl];lia
 have m1:=miss_sum hg gs fl (rb _ wb) (by rw [l1];lia)
 have m2:=miss_sum hg gs fl (rb _ db) (by rw [l2];lia)
 rw [l1] at m1
 rw [l2] at m2
 rw [m1] at h1
 rw [m2] at h2
 have mw:missW g.toNat gs (flowsL g.toNat gs) n≠0:=fun y=>hw (by unfold missW at y;lia)
 by_cases h0:gs.getD 0 0=0
 ·have t:=two_rings hg (k:=k) (fun u=>missW g.toNat gs (flowsL g.toNat gs) (num g u).toNat) wl wb k1 fun u ul ub=>by
   have b:=num_lt hg ub
   rw [num_cons,Z21,Z8]
   rw [ul] at b
   exact miss_low hg hl h0 (by lia)
  rw [h1,h2,nw,Z5] at t
  lia
 ·have n0:n=0:=by
   cases n with
   | zero=>rfl
   | succ n =>
    refine absurd ?_ (first 0 (by lia))
    show gs.getD 0 0≠_
    rw [Nat.zero_div,Nat.zero_mod,Int.sub_self]
    exact h0
  subst n0
  have zw:wordL g ((0:Nat):Int) (k+1)=List.replicate (k+1) 0:=by
   have:=wordL_num hg (ws:=List.replicate (k+1) 0) fun x hx=>by rw [(List.mem_replicate.mp hx).2];lia
   rw [Z9] at this
   rw [←this]
   congr 1
   have z:∀ j:Nat,num g (List.replicate j 0)=0:=fun j=>by
    induction j with
    | zero=>rfl
    | succ j ih=>rw [Z24,num_cons,ih];lia
   rw [z]
   rfl
  rw [zw,List.replicate_append_replicate] at h1
  have c:∀ i,i<k+(k+1)→missW g.toNat gs (flowsL g.toNat gs) (num g (ringW (List.replicate (k+(k+1)) 0) (k+1) (i:Int))).toNat=missW g.toNat gs (flowsL g.toNat gs) 0:=fun i _=>by
   congr 1
   have:ringW (List.replicate (k+(k+1)) 0) (k+1) (i:Int)=wordL g ((0:Nat):Int) (k+1):=by
    rw [zw]
    refine List.eq_replicate_iff.mpr ⟨ringW_len ..,fun b hb=>?_⟩
    unfold ringW at hb
    obtain ⟨j,_,rfl⟩:=List.mem_map.mp hb
    unfold ringAt
    rw [Z0,Z19]
    split <;> rfl
   rw [this,nw]
   rfl
  rw [sumN_congr c,sumN_const] at h1
  rcases Int.mul_eq_zero.mp h1 with y | y
  ·lia
  ·exact mw y
end
theorem right_keeps {g:Int} (hg:2≤g) {gs fs:List Int} {k:Nat} (hl:(gs.length:Int)=g^(k+1)) (fl:(fs.length:Int)=g^k) (r:rightW g.toNat gs fs) {ring:List Int} (hb:∀ x∈ring,0≤x∧x<g) (n1:1≤ring.length):(sumN ring.length fun i=>gs.getD (num g (ringW ring (k+1) (i:Int))).toNat 0)=0:=by
 rw [miss_sum hg gs fl hb n1,sumN_congr (g:=fun _=>0) fun i _=>?_,sumN_const,Z10]
 have b:=num_lt hg (ringW_lt hg hb (k+1) (i:Int))
 rw [ringW_len] at b
 have:=r (num g (ringW ring (k+1) (i:Int))).toNat (by lia)
 unfold wrongW at this
 unfold missW
 lia
theorem cyc_nat {f:Int→Int} {n:Nat} (per:∀ z,f (z+(n:Int))=f z) (y:Int):∀ k:Nat,(sumN n fun i=>f ((i:Int)+y+(k:Int)))=sumN n fun i=>f ((i:Int)+y)
 | 0=>sumN_congr fun i _=>by rw [show (i:Int)+y+((0:Nat):Int)=(i:Int)+y by lia]
 | k+1=>by
  rw [←cyc_nat per y k]
  have a:=sumN_succ n fun i=>f ((i:Int)+y+(k:Int))
  have b:=sumN_split 1 n fun i=>f ((i:Int)+y+(k:Int))
  rw [Nat.add_comm 1 n,a] at b
  have c:(sumN 1 fun i=>f ((i:Int)+y+(k:Int)))=f ((n:Int)+y+(k:Int)):=by
   rw [show (1:Nat)=0+1 from rfl,sumN_succ,sumN_zero,Z8,←per]
   congr 1
   show ((0:Nat):Int)+y+(k:Int)+(n:Int)=_
   lia
  rw [c] at b
  have d:(sumN n fun i=>f ((i:Int)+y+((k+1:Nat):Int)))=sumN n fun i=>f (((1+i:Nat):Int)+y+(k:Int)):=sumN_congr fun i _=>by congr 1;lia
  rw [d]
  lia
theorem cyc_sum {f:Int→Int} {n:Nat} (per:∀ z,f (z+(n:Int))=f z) (y:Int):(sumN n fun i=>f ((i:Int)+y))=sumN n fun i=>f (i:Int):=by
 by_cases c:0≤y
 ·have:=cyc_nat per 0 y.toNat
  rw [Int.toNat_of_nonneg c] at this
  rw [show (sumN n fun i=>f (i:Int))=sumN n fun i=>f ((i:Int)+0) from sumN_congr fun i _=>by rw [Z20],←this]
  exact sumN_congr fun i _=>by rw [Z20]
 ·have:=cyc_nat per y (-y).toNat
  rw [Int.toNat_of_nonneg (by lia)] at this
  rw [←this]
  exact sumN_congr fun i _=>by congr 1;lia
theorem total_low (g lo:Int) (tab:List Int) (m:Nat) (ring:List Int):(ringL g lo tab m ring).sum=(ringL g 0 tab m ring).sum:=by
 rw [ringL_sum,ringL_sum]
 rw [cyc_sum (f:=fun z=>tab.getD (num g (ringW ring m z)).toNat 0) fun z=>by rw [ringW_turn ring m (y:=z+(ring.length:Int)) (z:=z) (by rw [Int.add_emod_right])]]
 exact sumN_congr fun i _=>by rw [Z20]
theorem total_led {g:Int} (hg:2≤g) (lo:Int) (tab:List Int) {m:Nat} (m1:1≤m) (ws:List Int) {mw:Nat} (w1:1≤mw) {ring:List Int} (hb:∀ x∈ring,0≤x∧x<g) (n1:1≤ring.length):(ringL g 0 ws mw (ringL g lo tab m ring)).sum=(ringL g 0 ws mw (ringL g 0 tab m ring)).sum:=by
 rw [←ringL_join hg lo 0 tab ws m1 w1 hb n1,←ringL_join hg 0 0 tab ws m1 w1 hb n1,total_low]
 rfl
end L2
namespace L2
open PySem PySem.Spec PyProof.Rows
def CompGoal2 (K:PySem.W.Frag) (J:It) (tt:TT) (te:TE) (σf:List (Option V)) (D:Addr) (Q:VK) (H:Hp):Prop:=∃ W:Nat→Nat→List V→Hp→Prop,(∃ n,W n 0 [] (upd H D (.lst [])))∧∀ n i acc H2,W n i acc H2 →
 (J.stop i H2∧Q (.ref D) H2)∨(J.go i H2∧∃ N:List V→Hp→Prop,(∀ l H',N l H'→∃ n',n'<n∧W n' (i+1) l H')∧∀ v H3,J.yld i H2 v H3→∃ (a:Addr) (v1 v2:V),v=.ref a∧SqT K H3 a [v1,v2]∧tt (some v1::some v2::σf) H3 fun b H4 =>
  if b=true then te (some v1::some v2::σf) H4 fun y H5=>H5 D=some (.lst acc)∧acc.length<sizeLine∧N (acc++[y]) (upd H5 D (.lst (acc++[y]))) else N acc H4)
def tComp2 (K:PySem.W.Frag) (wi:TI) (fv:List (Nat × Str)) (tt:TT) (te:TE):TE:=fun σ H Q=>wi σ H fun J H1=>∀ D,H1 D=none→CompGoal2 K J tt te (fvs σ fv) D Q H1
end L2
namespace PySem
section
variable {prog:Program} {w:World} {A:Around} {s:Shared} {R:Result→Shared→Prop}
theorem compLoop_own {elt tg iter:Expr} {ifs:List Expr} {scope:Scope} {pos:Pos} {it acc:Value} {env:Env} (I:Nat→Shared→Prop)
  (turn:∀ n s,I n s→wpAny (model prog w) A (pyNext it) (fun r s1=>match r with
   | none=>R (.ok .next) s1
   | some v=>wpAny (model prog w) A (letOwnedTupleGo tg it v) (fun _ s1b=>wpAny (model prog w) A (assign tg env v) (fun _ s2 =>
     wpAny (model prog w) A (forIn ifs true fun c r=>if r=true then do let ok ←isTrue c env (eval c env);pure (ForInStep.yield ok) else pure (ForInStep.yield r)) (fun ok s3 =>
      if ok=true then wpAny (model prog w) A (eval elt env) (fun x s4 =>
       wpAny (model prog w) A (call (.builtin "list.append") [acc,x]) (fun _ s5=>∃ m,m<n∧I m s5) (notedBy (model prog w) A env fun e s'=>R (.error e) s') s4) (notedBy (model prog w) A env fun e s'=>R (.error e) s') s3
      else ∃ m,m<n∧I m s3) (notedBy (model prog w) A env fun e s'=>R (.error e) s') s2) (notedBy (model prog w) A env fun e s'=>R (.error e) s') s1b) (notedBy (model prog w) A env fun e s'=>R (.error e) s') s1) (notedBy (model prog w) A env fun e s'=>R (.error e) s') s)
  (n:Nat) (h:I n s):codeAny (model prog w) A (.compLoop (.ListComp elt [⟨tg,iter,ifs,0⟩] scope pos) 0 it acc env) R s:=by
 refine codeAny_loop rfl I (fun n s hI=>?_) n h
 show wpAny _ A ((compTurn (.ListComp elt [⟨tg,iter,ifs,0⟩] scope pos) 0 it acc env).onRaise (fun x=>do noteFrame x env;theTreesLotGoes x)) _ _ s
 refine wpAny_noted ?_
 rw [compTurn_list]
 refine wpAny_bind (wpAny_standAt (wpAny_bind (wpAny_mono (turn n s hI) (fun r s1 h1=>?_) fun _ _ h'=>h')))
 cases r with
 | none=>exact wpAny_pure h1
 | some v =>
  refine wpAny_bind (wpAny_mono h1 (fun _ s1b h1b=>?_) fun _ _ h'=>h')
  refine wpAny_bind (wpAny_mono h1b (fun _ s2 h2=>wpAny_bind (wpAny_mono h2 (fun ok s3 h3=>?_) fun _ _ h'=>h')) fun _ _ h'=>h')
  cases ok with
  | false=>exact wpAny_pure ⟨rfl,h3⟩
  | true =>
   exact wpAny_bind (wpAny_bind (wpAny_mono h3 (fun x s4 h4=>wpAny_bind (wpAny_mono h4 (fun _ s5 h5=>wpAny_pure (wpAny_pure ⟨rfl,h5⟩)) fun _ _ h'=>h')) fun _ _ h'=>h'))
end
end PySem
namespace L2
open PySem PySem.Spec PyProof.Rows
section
variable {X:Cx} {x x2:Str} {px px2 pt pos:Pos} {kt:Nat} {elt iter:Expr} {ifs:List Expr} {scope:Scope} {cl:List (Str × Addr)} {fv:List (Nat × Str)} {wi:TI} {tt:TT} {te:TE}
 {pins:List (Addr × Obj)} {σ:St} {H2:Hp} {s2:Shared} {fp:List Addr} {it:Addr} {tn:Nat→Heap→Prop} {J:It}
theorem blk_in2 {D C:Addr} {h1:Heap} {t1:Nat} (I2:Inv X pins σ H2 s2) (f2:∀ b∈fp,FpOk X pins H2 b) (o2:∀ b∈fp,∃ o,s2.heap.get? b=some o∧∀ v,o.data≠.cell v) (hD:s2.heap.objs.size≤D) (hC:s2.heap.objs.size≤C) (hDC:D≠C)
  (old:∀ b o,s2.heap.get? b=some o→h1.get? b=some o) (hl:h1.PlainList D #[]) (hn:h1.Ns C (fun _=>none)) (hk:scope.kind=.function) (hcl:ClOk X.env cl)
  (hhas:((relabel scope X.env).names.all fun z=>!(z.2 == .cell || z.2 == .free) || (cl.lookup z.1).isSome)=true) (hfv:FvOk X scope cl fv) :
  Inv (cxB X s2 H2 (compEnvC scope cl C X.env) fp (x::x2::fv.map (·.2))) [] (none::none::fvs σ fv) (upd H2 D (.lst [])) { s2 with heap:=h1,toks:=t1 } where
 ok:=blk_ok I2 f2 o2 hC hk hcl hhas
 os:=rfl
 bare:=I2.bare
 base:=Un.laid old hD (I2.hok.fresh hD)
 loc:=by
  refine ⟨_,hn,fun i y v h1' h2' _=>?_⟩
  cases i with
  | zero=>cases h2'
  | succ i =>
   cases i with
   | zero=>cases h2'
   | succ i =>
   have h1':(fv.map (·.2))[i]?=some y:=h1'
   have h2':(fvs σ fv)[i]?=some (some v):=h2'
   obtain ⟨q,hq,e1⟩:∃ q,fv[i]?=some q∧q.2=y:=by
    rw [Z6] at h1'
    exact Option.map_eq_some_iff.mp h1'
   subst e1
   obtain ⟨g1,g2,g3,g4⟩:=hfv.at' q (List.mem_of_getElem? hq)
   unfold fvs at h2'
   rw [Z6,hq] at h2'
   have e2:(σ[q.1]?).join=some v:=Option.some.inj h2'
   have e3:σ[q.1]?=some (some v):=by
    cases z:σ[q.1]? with
    | none=>rw [z] at e2;cases e2
    | some w=>rw [z] at e2;exact congrArg some e2
   obtain ⟨m,_,lk⟩:=I2.loc
   obtain ⟨u,ru,lu⟩:=lk q.1 q.2 v g1 e3 (.inr (.inl g2))
   refine ⟨u,ru,.inr ⟨.inl g3,?_⟩⟩
   obtain ⟨c,hc⟩:=Option.isSome_iff_exists.mp g4
   refine ⟨c,hc,?_⟩
   rcases lu with ⟨kk,_⟩ | ⟨_,c',e',⟨o,eo,d⟩⟩
   ·rw [show X.env.kindOf q.2=some .cell from g2] at kk;cases kk
   ·have e4:=hcl.at' hc
    rw [e'] at e4
    cases e4
    exact ⟨o,old c o eo,d⟩
 cell:=fun y c h=>by
  obtain ⟨v,o,eo,d⟩:=I2.cell y c (hcl.at' h)
  exact ⟨v,o,old c o eo,d⟩
 free:=by
  show upd H2 D _ C=none
  rw [upd_ne (Ne.symm hDC)]
  exact I2.hok.fresh hC
 freeC:=fun y c h=>by
  obtain ⟨v,o,eo,d⟩:=I2.cell y c (hcl.at' h)
  rw [upd_ne (Nat.ne_of_lt (Nat.lt_of_lt_of_le (Heap.lt_size eo) hD))]
  exact I2.freeC y c (hcl.at' h)
 pin:=fun p hp=>nomatch hp
 hok:=I2.hok.laid old hD (by
  obtain ⟨n,e⟩:=hl
  exact ⟨Nat.zero_le _,[],n,.nil,by simpa using e⟩)
 len:=by simp [fvs,cxB]
theorem blk_run2 {RR:Value→Addr→Result→Shared→Prop} {E:Value→Shared→Prop} {Q:VK} (hc:X.calm=true) (I2:Inv X pins σ H2 s2) (T:Turn X.prog X.w X.K (.Tuple [.Name x px,.Name x2 px2] kt pt) J fp it tn) (st2:tn 0 s2.heap) (f2:∀ b∈fp,FpOk X pins H2 b)
  (hcell:∀ y∈scope.names,y.2≠.cell) (hk:scope.kind=.function) (hx:scope.names.lookup x=some .local) (hx2:scope.names.lookup x2=some .local) (hcl:ClOk X.env cl) (hhas:((relabel scope X.env).names.all fun z=>!(z.2 == .cell || z.2 == .free) || (cl.lookup z.1).isSome)=true) (hfv:FvOk X scope cl fv) (hnd:(x::x2::fv.map (·.2)).Nodup)
  (hf:∀ s H C fp,PF (cxB X s H (compEnvC scope cl C X.env) fp (x::x2::fv.map (·.2))) ifs tt) (he:∀ s H C fp,PE (cxB X s H (compEnvC scope cl C X.env) fp (x::x2::fv.map (·.2))) elt te)
  (hw:∀ D,H2 D=none→CompGoal2 X.K J tt te (fvs σ fv) D Q H2)
  (hRR:∀ D C σ' H' s',s2.heap.objs.size≤C→Inv (cxB X s2 H2 (compEnvC scope cl C X.env) fp (x::x2::fv.map (·.2))) [] σ' H' s'→Q (.ref D) H'→RR (.ref D) C (.ok .next) s') :
  wpAny (model X.prog X.w) X.A (newList []) (fun acc s3=>wpAny (model X.prog X.w) X.A (newFunctionEnv scope X.env.globals cl [] X.env.qual none .none (some X.env)) (fun cenv s4 =>
   codeAny (model X.prog X.w) X.A (.compStart (.ListComp elt [⟨.Tuple [.Name x px,.Name x2 px2] kt pt,iter,ifs,0⟩] scope pos) 0 (.ref it) acc { cenv with scope:=relabel scope X.env }) (RR acc cenv.locals) s4) E s3) E s2:=by
 refine wpAny_newObj_type (wpAny_newFunctionEnv hcell (by intro y hy;simp at hy) (fun h1 hns hsb=>?_) hk)
 dsimp only at hns hsb ⊢
 generalize hH:s2.heap.push { cls:=.type "list",dict:=none,data:=.seq ([]:List Value).toArray }=HH at hns hsb ⊢
 have eC:HH.objs.size=s2.heap.objs.size+1:=by rw [←hH,Heap.size_push]
 have hDC:s2.heap.objs.size≠HH.objs.size:=by rw [eC];exact Nat.ne_of_lt (Nat.lt_succ_self _)
 have hC:s2.heap.objs.size≤HH.objs.size:=by rw [eC];exact Nat.le_succ _
 have old:∀ b o,s2.heap.get? b=some o→h1.get? b=some o:=fun b o e=>hsb.extBut b o (by rw [eC];exact Nat.ne_of_lt (Nat.lt_succ_of_lt (Heap.lt_size e))) (Heap.get?_push_of_some _ (hH▸Heap.get?_push_of_some _ e))
 have hacc:h1.PlainList s2.heap.objs.size #[]:=⟨_,hsb.extBut _ _ hDC (Heap.get?_push_of_some _ (hH▸Heap.get?_push_size _ rfl))⟩
 have o2:=T.obj _ _ st2
 obtain ⟨W,⟨n0,w0⟩,turn⟩:=hw s2.heap.objs.size (I2.hok.fresh (Nat.le_refl _))
 generalize eD:s2.heap.objs.size=D at *
 generalize eCC:HH.objs.size=C at *
 have Ib:=blk_in2 (x:=x) (x2:=x2) (t1:=s2.toks+([]:List (Str × Value)).length) I2 f2 o2 (by rw [eD];exact Nat.le_refl _) (by rw [eD];exact hC) hDC old hacc hns hk hcl hhas hfv
 have st1:tn 0 h1:=T.keep _ _ _ st2 fun b _ o e=>old b o e
 have nD:∀ b∈fp,b≠D:=fun b hb=>by
  obtain ⟨o,e,_⟩:=o2 b hb
  rw [←eD]
  exact Nat.ne_of_lt (Heap.lt_size e)
 have fr1:∀ b∈fp,upd H2 D (.lst []) b=none:=fun b hb=>by rw [upd_ne (nD b hb)];exact (f2 b hb).1
 have hxl:(relabel scope X.env).names.lookup x=some .local:=lookup_relabel_local hx
 have hxl2:(relabel scope X.env).names.lookup x2=some .local:=lookup_relabel_local hx2
 have stat:∀ {H':Hp},(∀ b∈fp,H' b=none)→∀ b∈fp,FpOk (cxB X s2 H2 (compEnvC scope cl C X.env) fp (x::x2::fv.map (·.2))) [] H' b:=fun hn b hb=>by
  obtain ⟨o,e,_⟩:=o2 b hb
  exact ⟨hn b hb,fun z=>absurd (Heap.lt_size e) (by rw [z,eD];exact Nat.not_lt.mpr hC),fun z=>(List.mem_cons.mp (I2.stkSub b z)).elim (f2 b hb).2.1 (f2 b hb).2.2.1,.inl hb,fun y c h=>(f2 b hb).2.2.2.2.1 y c (hcl.at' h),fun q hq=>nomatch hq⟩
 have loop:codeAny (model X.prog X.w) X.A (.compLoop (.ListComp elt [⟨.Tuple [.Name x px,.Name x2 px2] kt pt,iter,ifs,0⟩] scope pos) 0 (.ref it) (.ref D) (compEnvC scope cl C X.env)) (RR (.ref D) C) { s2 with heap:=h1,toks:=s2.toks+([]:List (Str × Value)).length }:=by
  refine compLoop_own (fun n s'=>∃ i acc σb H',Inv (cxB X s2 H2 (compEnvC scope cl C X.env) fp (x::x2::fv.map (·.2))) [] σb H' s'∧σb.tail.tail=fvs σ fv∧tn i s'.heap∧(∀ b∈fp,H' b=none)∧W n i acc H') ?_ n0 ⟨0,[],_,_,Ib,rfl,st1,fr1,w0⟩
  rintro n s3 ⟨i,acc,σ3,H3,I3,t3,st3,fr3,w3⟩
  rcases turn n i acc H3 w3 with ⟨stop,qn⟩ | ⟨go,NN,hNN,step⟩
  ·refine thn (T.done (cxB X s2 H2 (compEnvC scope cl C X.env) fp (x::x2::fv.map (·.2))) rfl rfl rfl hc i [] s3 σ3 H3 _ I3 (stat fr3) st3 stop) fun r s4 q4=>?_
   obtain ⟨hr,I4⟩:=q4
   subst hr
   exact hRR D C σ3 H3 s4 hC I4 qn
  ·refine thn (T.item (cxB X s2 H2 (compEnvC scope cl C X.env) fp (x::x2::fv.map (·.2))) rfl rfl rfl hc i [] s3 σ3 H3 _ I3 (stat fr3) st3 go) fun r s4 q4=>?_
   obtain ⟨u,hr,h4⟩:=q4
   subst hr
   refine thn h4 fun _ s5 q5=>?_
   obtain ⟨v,H5,I5,r5,y5,st5,fr5⟩:=q5
   have I5':=I5.pinned (stat fr5) (T.obj _ _ st5)
   have again:∀ {σ7:St} {H7:Hp} {s7:Shared},Inv (cxB X s2 H2 (compEnvC scope cl C X.env) fp (x::x2::fv.map (·.2))) ([]++pinsAt fp s5.heap) σ7 H7 s7→tn (i+1) s7.heap∧∀ b∈fp,H7 b=none:=fun {σ7 H7 s7} I7=>by
    refine ⟨T.keep _ _ _ st5 fun b hb o e=>(I7.pin (b,o) (List.mem_append_right _ (List.mem_append_right _ (mem_pinsAt hb e)))).1,fun b hb=>?_⟩
    obtain ⟨o,e,d⟩:=T.obj _ _ st5 b hb
    exact (I7.pin (b,o) (List.mem_append_right _ (List.mem_append_right _ (mem_pinsAt hb e)))).2.1
   obtain ⟨a5,v1,v2,rfl,hq5,step5⟩:=step v _ y5
   have sσ:(σ3.set 0 (some v1)).set 1 (some v2)=some v1::some v2::fvs σ fv:=by
    match σ3,t3,I3.len with
    | a::b::r,t3,_ =>
     have z:r=fvs σ fv:=t3
     rw [z];rfl
   have hnd2:=List.nodup_cons.mp hnd
   have g1:=pg_name (X:=cxB X s2 H2 (compEnvC scope cl C X.env) fp (x::x2::fv.map (fun q:Nat × Str=>q.2))) (pos:=px) (i:=0) (x:=x) hnd rfl (.inl hxl) (.inr hxl)
   have g2:=pg_name (X:=cxB X s2 H2 (compEnvC scope cl C X.env) fp (x::x2::fv.map (fun q:Nat × Str=>q.2))) (pos:=px2) (i:=1) (x:=x2) hnd rfl (.inl hxl2) (.inr hxl2)
   have g:=pg_tup (X:=cxB X s2 H2 (compEnvC scope cl C X.env) fp (x::x2::fv.map (fun q:Nat × Str=>q.2))) (pos:=pt) (k:=kt) hc (pgs_cons g1 (pgs_cons g2 pgs_nil))
   refine wpAny_noRaise (thn (g _ s5 σ3 H5 (.ref a5) u (fun σ' H'=>σ'=some v1::some v2::fvs σ fv∧H'=H5) I5' r5 ⟨a5,[v1,v2],rfl,hq5,rfl,v1,[v2],rfl,v2,[],rfl,rfl,sσ,rfl⟩) fun _ s6 q6=>?_)
   obtain ⟨σ6,H6,I6,rfl,rfl⟩:=q6
   refine wpAny_noRaise (thn (hf _ _ _ _ _ s6 _ _ _ I6 step5) fun b s7 q7=>?_)
   obtain ⟨H7,I7,q7⟩:=q7
   cases b with
   | false =>
    rw [if_neg (by decide)] at q7 ⊢
    obtain ⟨n',hn',w7⟩:=hNN _ _ q7
    exact ⟨n',hn',i+1,acc,_,H7,I7.unpinned,rfl,(again I7).1,(again I7).2,w7⟩
   | true =>
    rw [if_pos rfl] at q7 ⊢
    refine wpAny_noRaise (thn (he _ _ _ _ _ s7 _ _ _ I7 q7) fun yv s8 q8=>?_)
    obtain ⟨y,H8,I8,r8,e8,l8,q8⟩:=q8
    obtain ⟨n',hn',w8⟩:=hNN _ _ q8
    refine wpAny_noRaise (thn (mt_append (X:=cxB X s2 H2 (compEnvC scope cl C X.env) fp (x::x2::fv.map (·.2))) _ s8 _ H8 (.ref D) [y] (.ref D) [yv] (fun _ H'=>H'=upd H8 D (.lst (acc++[y]))) I8 rfl (.cons r8 .nil) ⟨D,acc,y,rfl,rfl,e8,l8,rfl⟩) fun _ s9 q9=>?_)
    obtain ⟨_,H9,I9,_,rfl⟩:=q9
    exact ⟨n',hn',i+1,acc++[y],_,_,I9.unpinned,rfl,(again I9).1,(again I9).2,w8⟩
 exact codeAny_compStart_list loop (T.self X.A 0 _ _ _ st1 loop)
theorem pe_comp2 (hc:X.calm=true) (hi:PI X (.Tuple [.Name x px,.Name x2 px2] kt pt) iter wi) (hclos:closureFor scope X.env=pure cl) (hcell:∀ y∈scope.names,y.2≠.cell) (hk:scope.kind=.function) (hnames:∀ z∈scope.names,z.2=.local→scope.names.lookup z.1=some .local)
  (hx:scope.names.lookup x=some .local) (hx2:scope.names.lookup x2=some .local) (hcl:ClOk X.env cl) (hhas:((relabel scope X.env).names.all fun z=>!(z.2 == .cell || z.2 == .free) || (cl.lookup z.1).isSome)=true) (hfv:FvOk X scope cl fv) (hnd:(x::x2::fv.map (·.2)).Nodup)
  (hf:∀ s H C fp,PF (cxB X s H (compEnvC scope cl C X.env) fp (x::x2::fv.map (·.2))) ifs tt) (he:∀ s H C fp,PE (cxB X s H (compEnvC scope cl C X.env) fp (x::x2::fv.map (·.2))) elt te)
  (hs:∀ x,foldedSetIterable iter X.env x=pure x:=by intro _;rfl):PE X (.ListComp elt [⟨.Tuple [.Name x px,.Name x2 px2] kt pt,iter,ifs,0⟩] scope pos) (tComp2 X.K wi fv tt te):=by
 intro pins s σ H Q I h
 rw [eval_ListComp]
 refine wpAny_comprehension_free (use:=none) rfl hs hclos hk hnames (thn (hi pins s σ H _ I h) fun v s1 h1=>thn h1 fun itv s2 h2=>?_)
 obtain ⟨it,fp,tn,J,H2,e,I2,T,st2,f2,hw⟩:=h2
 subst e
 refine blk_run2 (RR:=fun acc C=>compPost (model X.prog X.w) X.A X.xe none (EP X pins σ Q) acc C) hc I2 T st2 f2 hcell hk hx hx2 hcl hhas hfv hnd hf he hw fun D C σ' H' s' hC Ib q=>?_
 obtain ⟨m,hn,_⟩:=Ib.loc
 exact ⟨m,hn,fun h' sb=>⟨.ref D,H',Inv.letGo I2 (blk_land I2 f2 Ib) hC Ib.free sb,rfl,q⟩⟩
end
theorem comp_enum2 {K:PySem.W.Frag} {a:Addr} {xs:List V} {tt:TT} {te:TE} {σf:List (Option V)} {D:Addr} {Q:VK} {H:Hp} (Pv:Nat→List V→Hp→Prop) (h0:Pv 0 [] (upd H D (.lst []))) (hl:∀ i acc H,i≤xs.length→Pv i acc H→SqL K H a xs)
  (hs:∀ i x p acc H2,xs[i]?=some x→Pv i acc H2→H2 p=none→tt (some (.int ((i:Nat):Int))::some x::σf) (upd H2 p (.tup [.int ((i:Nat):Int),x])) fun b H4=>if b=true then te (some (.int ((i:Nat):Int))::some x::σf) H4 fun y H5=>H5 D=some (.lst acc)∧acc.length<sizeLine∧Pv (i+1) (acc++[y]) (upd H5 D (.lst (acc++[y]))) else Pv (i+1) acc H4)
  (hd:∀ acc H2,Pv xs.length acc H2→Q (.ref D) H2):CompGoal2 K (Ite K a) tt te σf D Q H:=by
 refine ⟨fun k i acc H=>k=xs.length - i∧i≤xs.length∧Pv i acc H,⟨xs.length,by simp,Nat.zero_le _,h0⟩,?_⟩
 rintro k i acc H2 ⟨rfl,hi,p⟩
 have q:=hl i acc H2 hi p
 by_cases hlt:i<xs.length
 ·refine .inr ⟨⟨xs,xs[i],q,by simp [hlt]⟩,Pv (i+1),fun l H' p'=>⟨xs.length - (i+1),by lia,rfl,hlt,p'⟩,fun v H' y=>?_⟩
  obtain ⟨p2,x,e1,e2,e3,y⟩:=y
  subst e1 e3
  exact ⟨p2,_,_,rfl,SqT.of upd_same,hs i x p2 acc H2 (y xs q) p e2⟩
 ·have e:i=xs.length:=by lia
  subst e
  exact .inl ⟨⟨xs,q,Nat.le_refl _⟩,hd acc H2 p⟩
theorem comp_zip2 {K:PySem.W.Frag} {a b:Addr} {xs ys:List V} {tt:TT} {te:TE} {σf:List (Option V)} {D:Addr} {Q:VK} {H:Hp} (hlen:xs.length=ys.length) (Pv:Nat→List V→Hp→Prop) (h0:Pv 0 [] (upd H D (.lst []))) (hl:∀ i acc H,i≤xs.length→Pv i acc H→SqL K H a xs∧SqL K H b ys)
  (hs:∀ i x y p acc H2,xs[i]?=some x→ys[i]?=some y→Pv i acc H2→H2 p=none→tt (some x::some y::σf) (upd H2 p (.tup [x,y])) fun b H4=>if b=true then te (some x::some y::σf) H4 fun y H5=>H5 D=some (.lst acc)∧acc.length<sizeLine∧Pv (i+1) (acc++[y]) (upd H5 D (.lst (acc++[y]))) else Pv (i+1) acc H4)
  (hd:∀ acc H2,Pv xs.length acc H2→Q (.ref D) H2):CompGoal2 K (Itz K a b) tt te σf D Q H:=by
 refine ⟨fun k i acc H=>k=xs.length - i∧i≤xs.length∧Pv i acc H,⟨xs.length,by simp,Nat.zero_le _,h0⟩,?_⟩
 rintro k i acc H2 ⟨rfl,hi,p⟩
 obtain ⟨q1,q2⟩:=hl i acc H2 hi p
 by_cases hlt:i<xs.length
 ·refine .inr ⟨⟨xs,ys,xs[i],ys[i],q1,q2,by simp [hlt],by simp [hlen▸hlt]⟩,Pv (i+1),fun l H' p'=>⟨xs.length - (i+1),by lia,rfl,hlt,p'⟩,fun v H' y=>?_⟩
  obtain ⟨p2,x,y',e1,e2,e3,y1,y2⟩:=y
  subst e1 e3
  exact ⟨p2,_,_,rfl,SqT.of upd_same,hs i x y' p2 acc H2 (y1 xs q1) (y2 ys q2) p e2⟩
 ·have e:i=xs.length:=by lia
  subst e
  exact .inl ⟨⟨xs,ys,q1,q2,.inl (Nat.le_refl _)⟩,hd acc H2 p⟩
section
variable {X:Cx}
theorem call_abs_of:CallR X (.builtin "abs") (fun xs H Q=>∃ i:Int,xs=[.int i]∧Q (.int (if i<0 then -i else i)) H):=by
 intro pins s σ H xs us Q I r h
 obtain ⟨i,rfl,q⟩:=h
 obtain ⟨u,rfl,rx⟩:=vals1 r
 obtain ⟨t,rfl⟩:=rx
 exact PyProof.Rows.call_abs_int fun u tk=>⟨.int _,H,I.tok _,⟨_,rfl⟩,q⟩
theorem any_range (ns:List Int):(List.range ns.length).any (fun i=>decide (ns.getD i 0≠0))=ns.any fun n=>decide (n≠0):=by
 rw [Bool.eq_iff_iff,List.any_eq_true,List.any_eq_true]
 constructor
 ·rintro ⟨i,hi,z⟩
  have hi':=List.mem_range.mp hi
  rw [Z0,List.getElem?_eq_getElem hi'] at z
  exact ⟨_,List.getElem_mem hi',z⟩
 ·rintro ⟨b,hb,z⟩
  obtain ⟨i,hi,e⟩:=List.getElem_of_mem hb
  refine ⟨i,List.mem_range.mpr hi,?_⟩
  rw [Z0,List.getElem?_eq_getElem hi,e]
  exact z
theorem call_any_of (hc:X.calm=true):CallR X (.builtin "any") (fun xs H Q=>∃ (p:Addr) (ns:List Int),xs=[.ref p]∧SqL X.K H p (ns.map V.int)∧Q (.bl (ns.any fun n=>decide (n≠0))) H):=by
 intro pins s σ H xs us Q I r h
 obtain ⟨p,ns,rfl,hq,q⟩:=h
 obtain ⟨u,rfl,rx⟩:=vals1 r
 cases rx
 obtain ⟨its,rits,pl,hz⟩:=I.list hq
 have hlen:=rits.length
 rw [Z1] at hlen
 have alt:p<s.heap.objs.size:=by obtain ⟨o,e,_⟩:=pl.isList;exact Heap.lt_size e
 refine call_any_walk (wpAny_pyIter_list pl.isList ?_)
 have up:∀ b o,s.heap.get? b=some o→(s.heap.push { cls:=.type "list_iterator",data:=.fields #[.ref p,.int 0 0] }).get? b=some o:=fun b o e=>Heap.get?_push_of_some _ e
 refine ⟨s.heap.objs.size,[s.heap.objs.size,p],[s.heap.objs.size],its.toArray.size,_,_,fun i=>decide (ns.getD i 0≠0),rfl,Walks.list (A:=X.A.in1) (I.ok.hd hc) _ p (Nat.ne_of_lt alt) its.toArray,⟨⟨_,Heap.get?_push_size _ rfl,rfl,rfl⟩,pl.isList.at fun o e=>up p o e⟩,fun i v Q' E' s' hv hq'=>?_,fun h' tk kk=>?_⟩
 ·have hv':its[i]?=some v:=by simpa using hv
  have hi:=(List.getElem?_eq_some_iff.mp hv').1
  obtain ⟨u2,hu2,ru2⟩:=rits.get (x:=.int (ns.getD i 0)) (i:=i) (by rw [Z6,List.getElem?_eq_getElem (by lia),Z0,List.getElem?_eq_getElem (by lia)];rfl)
  rw [hv'] at hu2
  cases hu2
  obtain ⟨t2,rfl⟩:=ru2
  refine PyProof.Rows.truthy_int ?_
  rw [show (ns.getD i 0 != 0)=decide (ns.getD i 0≠0) by rw [Bool.eq_iff_iff];simp]
  exact hq'
 ·refine ⟨.bl (ns.any fun n=>decide (n≠0)),H,I.kept (t':=tk) fun b o e=>kk b o (fun z=>?_) (up b o e),?_,q⟩
  ·rw [List.mem_singleton.mp z] at e
   exact absurd (Heap.lt_size e) (Nat.lt_irrefl _)
  ·rw [Z17,←hlen,any_range]
   rfl
def isI62 (n:Int):Value→Bool
 | .int a _=>a == n
 | _=>false
theorem count_vals (n:Int):∀ {ns:List Int} {its:List Value},Vals (ns.map V.int) its→its.countP (isI62 n)=ns.count n
 | [],_,h=>by rw [List.map_nil] at h;cases h;rfl
 | a::ns,_,h=>by
  rw [List.map_cons] at h
  cases h with
  | @cons x y xs ys h t =>
   obtain ⟨tk,rfl⟩:=h
   rw [List.countP_cons,count_vals n t,List.count_cons]
   rfl
theorem mt_count:MtR X "list.count" (fun x xs H Q=>∃ (p:Addr) (ns:List Int) (n:Int),x=.ref p∧xs=[.int n]∧H p=some (.lst (ns.map V.int))∧Q (.int ((ns.count n:Nat):Int)) H):=by
 intro pins s σ H x xs v us Q I rx rs h
 obtain ⟨p,ns,n,rfl,rfl,hp,q⟩:=h
 obtain ⟨u,rfl,ru⟩:=vals1 rs
 cases rx
 obtain ⟨t,rfl⟩:=ru
 obtain ⟨its,m,r,ho,hz⟩:=I.lst hp
 refine call_meets PySem.F.slot_list_count ⟨_,ho,rfl⟩ PySem.F.entry_list_count (PySem.F.args_list_count_2 _ _) (PySem.MeetsSeq.list_count p its.toArray m (.int n t) (isI62 n) fun y hy=>?_) ⟨ho,.int ((ns.count n:Nat):Int),H,I.tok _,⟨s.toks,?_⟩,q⟩
 ·have hy':y∈its:=by simpa using hy
  obtain ⟨i,hi,e⟩:=List.getElem_of_mem hy'
  have hl:=r.length
  rw [Z1] at hl
  obtain ⟨u2,hu2,ru2⟩:=r.get (x:=.int (ns.getD i 0)) (i:=i) (by rw [Z6,List.getElem?_eq_getElem (by lia),Z0,List.getElem?_eq_getElem (by lia)];rfl)
  rw [List.getElem?_eq_getElem hi,e] at hu2
  cases hu2
  obtain ⟨t2,rfl⟩:=ru2
  exact PySem.MeetsSeq.EqGives.int _ _ _ _
 ·rw [show its.toArray.toList=its from rfl,count_vals n r]
end
theorem pe_bmK {X:Cx} {K:PySem.W.Frag} {T:String} {name:Str} {id:String} {r:V→List V→Hp→VK→Prop} {o e:Expr} {es:List Expr} {to:TE} {t:TA} {apos cpos:Pos} (hK:X.K=K) (pa:PlainAttrs T) (slot:Slot T name id) (hty:typeOf (.builtin id)=pure (.type "method_descriptor")) (hm:MtR X id r) (ho:PE X o to) (ha:PA X (e::es) t)
  (hbase:attributeBase o name X.env (eval o X.env)=eval o X.env:=by rfl)
  (hfew:((backTo cpos (starEach (e::es) X.env)).all (fun x=>!x.1) && (backToKw cpos (keywordEach [] X.env)).all (fun x=>x.1.isSome) && decide ((e::es).length+([]:List Keyword).length+(if ([]:List Keyword).isEmpty then 0 else 1)<30))=true:=by rfl)
  (hline:(apos.endLine == cpos.line)=true:=by rfl) (hs:starEach (e::es) X.env=(false,eval e X.env)::starEach es X.env:=by rfl) (hplain:(backTo cpos (starEach es X.env)).any (·.1)=false:=by rfl) :
  PE X (.Call (.Attribute o name apos) (e::es) [] cpos) (tBM K T r to t):=by
 subst hK
 exact pe_bm pa slot hty hm ho ha hbase hfew hline hs hplain
end L2
namespace L2
open PySem PySem.Spec PyProof.Rows RW
def dot (n:Nat) (a b:List Int):Int:=sumN n fun i=>a.getD i 0*b.getD i 0
def gcdL (ns:List Int):Nat:=ns.foldl (fun a n=>Nat.gcd a n.natAbs) 0
theorem gcdF_dvd:∀ (ns:List Int) (a:Nat),(ns.foldl (fun a n=>Nat.gcd a n.natAbs) a∣a)∧∀ n∈ns,ns.foldl (fun a n=>Nat.gcd a n.natAbs) a∣n.natAbs
 | [],a=>⟨Nat.dvd_refl _,fun n hn=>by cases hn⟩
 | x::r,a=>by
  obtain ⟨h1,h2⟩:=gcdF_dvd r (Nat.gcd a x.natAbs)
  refine ⟨Nat.dvd_trans h1 (Nat.gcd_dvd_left ..),fun n hn=>?_⟩
  rcases List.mem_cons.mp hn with e | e
  ·rw [e];exact Nat.dvd_trans h1 (Nat.gcd_dvd_right ..)
  ·exact h2 n e
theorem gcdL_dvd {ns:List Int} {n:Int} (h:n∈ns):((gcdL ns:Nat):Int)∣n:=Int.ofNat_dvd_left.mpr ((gcdF_dvd ns 0).2 n h)
theorem gcdL_zero {ns:List Int} (h:gcdL ns=0):∀ n∈ns,n=0:=fun n hn=>by
 have:=(gcdF_dvd ns 0).2 n hn
 unfold gcdL at h
 rw [h] at this
 have:=Nat.eq_zero_of_zero_dvd this
 lia
def simpL (ns:List Int):List Int:=if gcdL ns=0 then ns else ns.map fun n=>n / ((gcdL ns:Nat):Int)
theorem simpL_len (ns:List Int):(simpL ns).length=ns.length:=by
 unfold simpL
 split
 ·rfl
 ·rw [Z1]
theorem simp_ex (ns:List Int):∃ d:Int,0<d∧∀ i,ns.getD i 0=d*(simpL ns).getD i 0:=by
 unfold simpL
 by_cases z:gcdL ns=0
 ·rw [if_pos z]
  exact ⟨1,by decide,fun i=>by rw [Z23]⟩
 ·rw [if_neg z]
  refine ⟨((gcdL ns:Nat):Int),by lia,fun i=>?_⟩
  by_cases c:i<ns.length
  ·rw [Z0,Z0,Z6,List.getElem?_eq_getElem c]
   exact (Int.mul_ediv_cancel' (gcdL_dvd (List.getElem_mem c))).symm
  ·rw [Z0,Z0,Z6,List.getElem?_eq_none (by lia)]
   rfl
theorem simp_zero (ns:List Int) (i:Nat):(simpL ns).getD i 0=0↔ns.getD i 0=0:=by
 obtain ⟨d,d0,h⟩:=simp_ex ns
 rw [h i]
 constructor
 ·intro z;rw [z,Z10]
 ·intro z
  rcases Int.mul_eq_zero.mp z with y | y
  ·lia
  ·exact y
theorem dot_simp (n:Nat) (w ns:List Int):dot n w (simpL ns)=0↔dot n w ns=0:=by
 obtain ⟨d,d0,h⟩:=simp_ex ns
 have e:dot n w ns=dot n w (simpL ns)*d:=by
  unfold dot
  rw [←sumN_mul]
  exact sumN_congr fun i _=>by rw [h i,Int.mul_comm d,Z26]
 rw [e]
 constructor
 ·intro z;rw [z,Z21]
 ·intro z
  rcases Int.mul_eq_zero.mp z with y | y
  ·exact y
  ·lia
def FootIs (r:List Int) (f:Nat):Prop:=r.getD f 0≠0∧∀ j,f<j→r.getD j 0=0
theorem FootIs.uniq {r:List Int} {f f':Nat} (h:FootIs r f) (h':FootIs r f'):f=f':=by
 rcases Nat.lt_trichotomy f f' with z | z | z
 ·exact absurd (h.2 f' z) h'.1
 ·exact z
 ·exact absurd (h'.2 f z) h.1
theorem FootIs.lt {r:List Int} {f:Nat} (h:FootIs r f):f<r.length:=by
 by_cases c:f<r.length
 ·exact c
 ·exact absurd (by rw [Z0,List.getElem?_eq_none (by lia)];rfl) h.1
theorem foot_ex:∀ (r:List Int),(∃ i,r.getD i 0≠0)→∃ f,FootIs r f:=fun r=>by
 have key:∀ n,(∀ j,n≤j→r.getD j 0=0)→(∃ i,r.getD i 0≠0)→∃ f,FootIs r f:=fun n=>by
  induction n with
  | zero=>exact fun h ⟨i,hi⟩=>absurd (h i (Nat.zero_le _)) hi
  | succ n ih =>
   intro h ex
   by_cases c:r.getD n 0=0
   ·exact ih (fun j hj=>by
     by_cases e:j=n
     ·rw [e];exact c
     ·exact h j (by lia)) ex
   ·exact ⟨n,c,fun j hj=>h j hj⟩
 exact key r.length fun j hj=>by rw [Z0,List.getElem?_eq_none hj];rfl
def mixL (r o:List Int) (f:Nat):List Int:=(List.range r.length).map fun i=>o.getD f 0*r.getD i 0 - r.getD f 0*o.getD i 0
def clrL (r o:List Int) (f:Nat):List Int:=simpL (mixL r o f)
theorem mixL_at {r o:List Int} (f:Nat) (hl:o.length=r.length) (i:Nat):(mixL r o f).getD i 0=o.getD f 0*r.getD i 0 - r.getD f 0*o.getD i 0:=by
 unfold mixL
 by_cases c:i<r.length
 ·rw [getD_map_range c]
 ·have z:∀ l:List Int,l.length=r.length→l.getD i 0=0:=fun l h=>by rw [Z0,List.getElem?_eq_none (by lia)];rfl
  rw [z _ (by rw [Z1,Z2]),z r rfl,z o hl,Z10,Z10,Int.sub_self]
theorem clrL_len (r o:List Int) (f:Nat):(clrL r o f).length=r.length:=by
 unfold clrL mixL
 rw [simpL_len,List.length_map,List.length_range]
theorem clr_zero {r o:List Int} {f:Nat} (hl:o.length=r.length) (i:Nat):(clrL r o f).getD i 0=0↔o.getD f 0*r.getD i 0=r.getD f 0*o.getD i 0:=by
 unfold clrL
 rw [simp_zero,mixL_at f hl]
 lia
theorem clr_dot {n:Nat} {r o:List Int} {f:Nat} (hl:o.length=r.length) (ho:o.getD f 0≠0) (w:List Int) (h:dot n w o=0):dot n w (clrL r o f)=0↔dot n w r=0:=by
 unfold clrL
 rw [dot_simp]
 have e:dot n w (mixL r o f)=dot n w r*o.getD f 0 - dot n w o*r.getD f 0:=by
  unfold dot
  rw [←sumN_mul,←sumN_mul,←sumN_sub]
  exact sumN_congr fun i _=>by
   rw [mixL_at f hl,Int.mul_sub]
   congr 1
   ·rw [Int.mul_comm (o.getD f 0),←Z26]
   ·rw [Int.mul_comm (r.getD f 0),←Z26]
 rw [e,h,Z21,Int.sub_zero]
 constructor
 ·intro z
  rcases Int.mul_eq_zero.mp z with y | y
  ·exact y
  ·exact absurd y ho
 ·intro z;rw [z,Z21]
def BitsB (r:List Int) (b:Nat):Prop:=∀ i,(r.getD i 0).natAbs<2^b
theorem BitsB.mono {r:List Int} {b c:Nat} (h:BitsB r b) (hc:b≤c):BitsB r c:=fun i=>Nat.lt_of_lt_of_le (h i) (Nat.pow_le_pow_right (by decide) hc)
structure RowsOk (G:Nat) (Rs:List (List Int)) (fs:List Nat):Prop where
 n:fs.length=Rs.length
 len:∀ r∈Rs,r.length=G
 foot:∀ (j:Nat) (r:List Int) (f:Nat),Rs[j]?=some r→fs[j]?=some f→FootIs r f
 zero:∀ (j l:Nat) (r:List Int) (f:Nat),j≠l→Rs[j]?=some r→fs[l]?=some f→r.getD f 0=0
theorem RowsOk.nil (G:Nat):RowsOk G [] []:=⟨rfl,(fun r h=>by cases h),(fun j r f h=>by cases h),(fun j l r f _ h=>by cases h)⟩
theorem RowsOk.lt {G:Nat} {Rs:List (List Int)} {fs:List Nat} (h:RowsOk G Rs fs) {j f:Nat} (hf:fs[j]?=some f):f<G:=by
 have jl:=(List.getElem?_eq_some_iff.mp hf).1
 obtain ⟨r,hr⟩:∃ r,Rs[j]?=some r:=⟨_,List.getElem?_eq_getElem (by rw [←h.n];exact jl)⟩
 have:=(h.foot j r f hr hf).lt
 rw [h.len r (List.mem_of_getElem? hr)] at this
 exact this
theorem RowsOk.inj {G:Nat} {Rs:List (List Int)} {fs:List Nat} (h:RowsOk G Rs fs) {j l f:Nat} (hj:fs[j]?=some f) (hl:fs[l]?=some f):j=l:=by
 by_cases c:j=l
 ·exact c
 ·have jl:=(List.getElem?_eq_some_iff.mp hj).1
  obtain ⟨r,hr⟩:∃ r,Rs[j]?=some r:=⟨_,List.getElem?_eq_getElem (by rw [←h.n];exact jl)⟩
  exact absurd (h.zero j l r f c hr hl) (h.foot j r f hr hj).1
def clrAll (Rs:List (List Int)) (fs:List Nat):Nat→List Int→List Int
 | 0,r=>r
 | j+1,r=>clrL (clrAll Rs fs j r) (Rs.getD j []) (fs.getD j 0)
section
variable {G:Nat} {Rs:List (List Int)} {fs:List Nat} (h:RowsOk G Rs fs) {r0:List Int} (hr:r0.length=G)
include h hr
theorem RowsOk.at {j:Nat} (hj:j<Rs.length):Rs[j]?=some (Rs.getD j [])∧fs[j]?=some (fs.getD j 0):=by
 have hf:j<fs.length:=by rw [h.n];exact hj
 exact ⟨by rw [Z0,List.getElem?_eq_getElem hj];rfl,by rw [Z0,List.getElem?_eq_getElem hf];rfl⟩
theorem clrAll_len:∀ j,(clrAll Rs fs j r0).length=G
 | 0=>hr
 | j+1=>by
  show (clrL _ _ _).length=G
  rw [clrL_len]
  exact clrAll_len j
theorem clrAll_zero:∀ j,j≤Rs.length→∀ l,l<j→(clrAll Rs fs j r0).getD (fs.getD l 0) 0=0
 | 0,_,l,hl=>absurd hl (Nat.not_lt_zero _)
 | j+1,hj,l,hl=>by
  obtain ⟨a1,a2⟩:=h.at hr (j:=j) (by lia)
  have ol:=h.len _ (List.mem_of_getElem? a1)
  show (clrL (clrAll Rs fs j r0) _ _).getD _ 0=0
  rw [clr_zero (by rw [ol,clrAll_len h hr])]
  by_cases c:l=j
  ·subst c
   rw [Z28]
  ·obtain ⟨b1,b2⟩:=h.at hr (j:=l) (by lia)
   rw [clrAll_zero j (by lia) l (by lia),h.zero j l _ _ (fun z=>c z.symm) a1 b2,Z10,Z10]
theorem clrAll_dot {n:Nat} (w:List Int) (hw:∀ r∈Rs,dot n w r=0):∀ j,j≤Rs.length→(dot n w (clrAll Rs fs j r0)=0↔dot n w r0=0)
 | 0,_=>Iff.rfl
 | j+1,hj=>by
  obtain ⟨a1,a2⟩:=h.at hr (j:=j) (by lia)
  have ol:=h.len _ (List.mem_of_getElem? a1)
  show dot n w (clrL (clrAll Rs fs j r0) _ _)=0↔_
  rw [clr_dot (by rw [ol,clrAll_len h hr]) (h.foot j _ _ a1 a2).1 w (hw _ (List.mem_of_getElem? a1)),clrAll_dot w hw j (by lia)]
end
theorem RowsOk.add {G:Nat} {Rs:List (List Int)} {fs:List Nat} (h:RowsOk G Rs fs) {r:List Int} (hr:r.length=G) (hz:∀ l,l<Rs.length→r.getD (fs.getD l 0) 0=0) {f:Nat} (hf:FootIs r f):RowsOk G (Rs.map (fun o=>clrL o r f)++[r]) (fs++[f]):=by
 have look:∀ (j:Nat) (r':List Int),(Rs.map (fun o=>clrL o r f)++[r])[j]?=some r'→(j<Rs.length∧∃ o,Rs[j]?=some o∧r'=clrL o r f)∨(j=Rs.length∧r'=r):=fun j r' hj=>by
  by_cases c:j<Rs.length
  ·rw [List.getElem?_append_left (by rw [Z1];exact c),Z6] at hj
   cases z:Rs[j]? with
   | none=>rw [z] at hj;cases hj
   | some o=>rw [z] at hj;exact .inl ⟨c,o,rfl,(Option.some.inj hj).symm⟩
  ·rw [List.getElem?_append_right (by rw [Z1];lia),Z1] at hj
   have:=(List.getElem?_eq_some_iff.mp hj).1
   rw [Z15] at this
   have e:j - Rs.length=0:=by lia
   rw [e] at hj
   exact .inr ⟨by lia,(Option.some.inj hj).symm⟩
 have lookf:∀ (j g:Nat),(fs++[f])[j]?=some g→(j<Rs.length∧fs[j]?=some g)∨(j=Rs.length∧g=f):=fun j g hj=>by
  by_cases c:j<fs.length
  ·rw [List.getElem?_append_left c] at hj
   exact .inl ⟨by rw [←h.n];exact c,hj⟩
  ·rw [List.getElem?_append_right (by lia)] at hj
   have:=(List.getElem?_eq_some_iff.mp hj).1
   rw [Z15] at this
   have e:j - fs.length=0:=by lia
   rw [e] at hj
   exact .inr ⟨by rw [←h.n];lia,(Option.some.inj hj).symm⟩
 have zf:∀ (l g:Nat),fs[l]?=some g→r.getD g 0=0:=fun l g hl=>by
  have jl:=(List.getElem?_eq_some_iff.mp hl).1
  have:=hz l (by rw [←h.n];exact jl)
  rw [show fs.getD l 0=g by rw [Z0,hl];rfl] at this
  exact this
 refine ⟨by rw [Z4,Z4,Z1,h.n];rfl,fun r' hr'=>?_,fun j r' g hj hg=>?_,fun j l r' g ne hj hg=>?_⟩
 ·rcases List.mem_append.mp hr' with z | z
  ·obtain ⟨o,ho,rfl⟩:=List.mem_map.mp z
   rw [clrL_len]
   exact h.len o ho
  ·rw [List.mem_singleton.mp z];exact hr
 ·rcases look j r' hj with ⟨c,o,ho,rfl⟩ | ⟨c,rfl⟩
  ·rcases lookf j g hg with ⟨_,hg'⟩ | ⟨e,_⟩
   ·have fo:=h.foot j o g ho hg'
    have ol:=h.len o (List.mem_of_getElem? ho)
    have hl:r.length=o.length:=by rw [hr,ol]
    refine ⟨fun z=>?_,fun k hk=>?_⟩
    ·rw [clr_zero hl,zf j g hg',Z10] at z
     rcases Int.mul_eq_zero.mp z with y | y
     ·exact hf.1 y
     ·exact fo.1 y
    ·rw [clr_zero hl,fo.2 k hk,Z10]
     rcases Nat.lt_trichotomy f g with y | y | y
     ·rw [hf.2 k (by lia),Z10]
     ·exact absurd (by rw [y];exact zf j g hg') hf.1
     ·rw [fo.2 f y,Z21]
   ·lia
  ·rcases lookf j g hg with ⟨e,_⟩ | ⟨_,rfl⟩
   ·lia
   ·exact hf
 ·rcases look j r' hj with ⟨c,o,ho,rfl⟩ | ⟨c,rfl⟩
  ·have ol:=h.len o (List.mem_of_getElem? ho)
   have hl:r.length=o.length:=by rw [hr,ol]
   rw [clr_zero hl]
   rcases lookf l g hg with ⟨_,hg'⟩ | ⟨_,rfl⟩
   ·rw [h.zero j l o g ne ho hg',zf l g hg',Z10,Z10]
   ·rw [Z28]
  ·rcases lookf l g hg with ⟨_,hg'⟩ | ⟨e,_⟩
   ·exact zf l g hg'
   ·lia
structure AskOk (n:Nat) (Rs:List (List Int)) (picked seen:List (List Int)):Prop where
 both:∀ w:List Int,(∀ r∈Rs,dot n w r=0)↔∀ c∈picked,dot n w c=0
 all:∀ w:List Int,(∀ r∈Rs,dot n w r=0)→∀ c∈seen,dot n w c=0
theorem AskOk.nil (n:Nat):AskOk n [] [] []:=⟨fun w=>Iff.rfl,fun w _ c hc=>by cases hc⟩
theorem AskOk.skip {n G:Nat} {Rs picked seen:List (List Int)} {fs:List Nat} (h:AskOk n Rs picked seen) (ok:RowsOk G Rs fs) {c:List Int} (hc:c.length=G) (hz:∀ i,(clrAll Rs fs Rs.length c).getD i 0=0):AskOk n Rs picked (seen++[c]):=⟨h.both,fun w hw c' hc'=>by
 rcases List.mem_append.mp hc' with z | z
 ·exact h.all w hw c' z
 ·rw [List.mem_singleton.mp z]
  refine (clrAll_dot ok hc w hw Rs.length (Nat.le_refl _)).mp ?_
  unfold dot
  rw [sumN_congr (g:=fun _=>0) fun i _=>by rw [hz i,Z10],sumN_const,Z10]⟩
theorem AskOk.take {n G:Nat} {Rs picked seen:List (List Int)} {fs:List Nat} (h:AskOk n Rs picked seen) (ok:RowsOk G Rs fs) {c:List Int} (hc:c.length=G) {f:Nat} (hf:FootIs (clrAll Rs fs Rs.length c) f):AskOk n (Rs.map (fun o=>clrL o (clrAll Rs fs Rs.length c) f)++[clrAll Rs fs Rs.length c]) (picked++[c]) (seen++[c]):=by
 obtain ⟨r,hr⟩:∃ r,r=clrAll Rs fs Rs.length c:=⟨_,rfl⟩
 have rl:r.length=G:=by rw [hr];exact clrAll_len ok hc _
 rw [←hr] at hf ⊢
 have base:∀ w:List Int,(∀ r'∈Rs.map (fun o=>clrL o r f)++[r],dot n w r'=0)↔(∀ r'∈Rs,dot n w r'=0)∧dot n w c=0:=fun w=>by
  constructor
  ·intro hw
   have w1:dot n w r=0:=hw r (List.mem_append_right _ (List.mem_singleton.mpr rfl))
   have w2:∀ r'∈Rs,dot n w r'=0:=fun o ho=>(clr_dot (by rw [rl,ok.len o ho]) hf.1 w w1).mp (hw _ (List.mem_append_left _ (List.mem_map.mpr ⟨o,ho,rfl⟩)))
   refine ⟨w2,?_⟩
   rw [hr] at w1
   exact (clrAll_dot ok hc w w2 Rs.length (Nat.le_refl _)).mp w1
  ·rintro ⟨w2,wc⟩
   have w1:dot n w r=0:=by rw [hr];exact (clrAll_dot ok hc w w2 Rs.length (Nat.le_refl _)).mpr wc
   intro r' hr'
   rcases List.mem_append.mp hr' with z | z
   ·obtain ⟨o,ho,rfl⟩:=List.mem_map.mp z
    exact (clr_dot (by rw [rl,ok.len o ho]) hf.1 w w1).mpr (w2 o ho)
   ·rw [List.mem_singleton.mp z];exact w1
 refine ⟨fun w=>?_,fun w hw c' hc'=>?_⟩
 ·rw [base w,h.both w]
  constructor
  ·rintro ⟨a,b⟩ c' hc'
   rcases List.mem_append.mp hc' with z | z
   ·exact a c' z
   ·rw [List.mem_singleton.mp z];exact b
  ·intro a
   exact ⟨fun c' z=>a c' (List.mem_append_left _ z),a c (List.mem_append_right _ (List.mem_singleton.mpr rfl))⟩
 ·obtain ⟨a,b⟩:=(base w).mp hw
  rcases List.mem_append.mp hc' with z | z
  ·exact h.all w a c' z
  ·rw [List.mem_singleton.mp z];exact b
theorem nodup_lt:∀ (G:Nat) (l:List Nat),l.Nodup→(∀ x∈l,x<G)→l.length≤G
 | 0,l,_,h=>by
  cases l with
  | nil=>exact Nat.le_refl _
  | cons x r=>exact absurd (h x (List.mem_cons_self ..)) (Nat.not_lt_zero _)
 | G+1,l,nd,h=>by
  by_cases c:G∈l
  ·have a:=nodup_lt G (l.erase G) (nd.erase G) fun x hx=>by
    have z:=(nd.mem_erase_iff).mp hx
    have:=h x z.2
    have:=z.1
    lia
   rw [List.length_erase_of_mem c] at a
   lia
  ·have:=nodup_lt G l nd fun x hx=>by
    have:=h x hx
    have:x≠G:=fun z=>c (by rw [←z];exact hx)
    lia
   lia
theorem RowsOk.few {G:Nat} {Rs:List (List Int)} {fs:List Nat} (h:RowsOk G Rs fs):Rs.length≤G:=by
 rw [←h.n]
 refine nodup_lt G fs (List.pairwise_iff_getElem.mpr fun i j hi hj hij e=>?_) fun f hf=>?_
 ·have:=h.inj (List.getElem?_eq_getElem hi) (by rw [List.getElem?_eq_getElem hj,e])
  lia
 ·obtain ⟨j,hj⟩:=List.mem_iff_getElem?.mp hf
  exact h.lt hj
def wHead (G:Nat) (Rs:List (List Int)) (fs:List Nat) (hd:Nat) (D:Int):List Int:=(List.range G).map fun i=>if i=hd then D else
 match (List.range Rs.length).find? (fun j=>fs.getD j 0 == i) with
 | some j=>-((Rs.getD j []).getD hd 0)*D / (Rs.getD j []).getD i 0
 | none=>0
theorem wHead_foot {G:Nat} {Rs:List (List Int)} {fs:List Nat} (h:RowsOk G Rs fs) {hd:Nat} (D:Int) (nf:¬ hd∈fs) {j:Nat} (hj:j<Rs.length):(wHead G Rs fs hd D).getD (fs.getD j 0) 0=-((Rs.getD j []).getD hd 0)*D / (Rs.getD j []).getD (fs.getD j 0) 0:=by
 have a2:fs[j]?=some (fs.getD j 0):=by rw [Z0,List.getElem?_eq_getElem (by rw [h.n];exact hj)];rfl
 unfold wHead
 rw [getD_map_range (h.lt a2),if_neg (fun z=>nf (by rw [←z];exact List.mem_of_getElem? a2))]
 have fd:(List.range Rs.length).find? (fun l=>fs.getD l 0 == fs.getD j 0)=some j:=by
  rw [List.find?_eq_some_iff_append]
  refine ⟨beq_self_eq_true _,(List.range Rs.length).take j,(List.range Rs.length).drop (j+1),?_,fun l hl=>?_⟩
  ·have:(List.range Rs.length).drop j=j::(List.range Rs.length).drop (j+1):=by
    rw [List.drop_eq_getElem_cons (by rw [Z2];exact hj),List.getElem_range]
   rw [←this,List.take_append_drop]
  ·have ll:l<j:=by
    rw [List.take_range] at hl
    have:=List.mem_range.mp hl
    lia
   have b2:fs[l]?=some (fs.getD l 0):=by rw [Z0,List.getElem?_eq_getElem (by rw [h.n];lia)];rfl
   rw [Bool.not_eq_true',beq_eq_false_iff_ne]
   intro e
   rw [e] at b2
   have:=h.inj b2 a2
   lia
 rw [fd]
theorem wHead_head {G:Nat} (Rs:List (List Int)) (fs:List Nat) {hd:Nat} (hl:hd<G) (D:Int):(wHead G Rs fs hd D).getD hd 0=D:=by
 unfold wHead
 rw [getD_map_range hl,if_pos rfl]
theorem wHead_else {G:Nat} {Rs:List (List Int)} {fs:List Nat} (hn:fs.length=Rs.length) {hd:Nat} (D:Int) {i:Nat} (h1:i≠hd) (h2:¬ i∈fs):(wHead G Rs fs hd D).getD i 0=0:=by
 unfold wHead
 by_cases c:i<G
 ·rw [getD_map_range c,if_neg h1]
  have fd:(List.range Rs.length).find? (fun l=>fs.getD l 0 == i)=none:=by
   rw [List.find?_eq_none]
   intro l hl e
   have ll:=List.mem_range.mp hl
   refine h2 ?_
   rw [←eq_of_beq e,Z0,List.getElem?_eq_getElem (by rw [hn];exact ll)]
   exact List.getElem_mem _
  rw [fd]
 ·rw [Z0,List.getElem?_eq_none (by rw [Z1,Z2];lia)]
  rfl
theorem wHead_dot {G:Nat} {Rs:List (List Int)} {fs:List Nat} (h:RowsOk G Rs fs) {hd:Nat} (hl:hd<G) {D:Int} (nf:¬ hd∈fs) (hD:∀ j,j<Rs.length→(Rs.getD j []).getD (fs.getD j 0) 0∣D):∀ r∈Rs,dot G (wHead G Rs fs hd D) r=0:=fun r hr=>by
 obtain ⟨j,hj⟩:=List.mem_iff_getElem?.mp hr
 have jl:=(List.getElem?_eq_some_iff.mp hj).1
 have er:Rs.getD j []=r:=by rw [Z0,hj];rfl
 have a2:fs[j]?=some (fs.getD j 0):=by rw [Z0,List.getElem?_eq_getElem (by rw [h.n];exact jl)];rfl
 have fo:=h.foot j r _ hj a2
 have fl:=h.lt a2
 have ne:fs.getD j 0≠hd:=fun z=>nf (by rw [←z];exact List.mem_of_getElem? a2)
 have wf:=wHead_foot h D nf jl
 rw [er] at wf
 have wh:=wHead_head Rs fs hl D
 have only:∀ i,i<G→(wHead G Rs fs hd D).getD i 0*r.getD i 0=(if i=hd then D*r.getD hd 0 else 0)+if i=fs.getD j 0 then -(r.getD hd 0)*D / r.getD (fs.getD j 0) 0*r.getD (fs.getD j 0) 0 else 0:=fun i hi=>by
  by_cases c1:i=hd
  ·rw [if_pos c1,if_neg (fun z=>ne (by rw [←z,c1])),c1,wh,Z20]
  ·rw [if_neg c1,Z8]
   by_cases c2:i=fs.getD j 0
   ·rw [if_pos c2,c2,wf]
   ·rw [if_neg c2]
    by_cases c3:i∈fs
    ·obtain ⟨l,hl'⟩:=List.mem_iff_getElem?.mp c3
     have:r.getD i 0=0:=h.zero j l r i (fun z=>c2 (by
      subst z
      rw [a2] at hl'
      exact (Option.some.inj hl').symm)) hj hl'
     rw [this,Z10]
    ·rw [wHead_else h.n D c1 c3,Z21]
 unfold dot
 rw [sumN_congr only,sumN_add,sum_only hl,sum_only fl]
 have dv:r.getD (fs.getD j 0) 0∣-(r.getD hd 0)*D:=by
  have:=hD j jl
  rw [er] at this
  exact Int.dvd_mul_of_dvd_right this
 rw [Int.ediv_mul_cancel dv,Int.neg_mul,Int.mul_comm D]
 lia
def Prim (r:List Int):Prop:=∀ d:Nat,(∀ i,d∣(r.getD i 0).natAbs)→d=1
theorem dvd_gcdF (d:Nat):∀ (ns:List Int) (a:Nat),d∣a→(∀ n∈ns,d∣n.natAbs)→d∣ns.foldl (fun a n=>Nat.gcd a n.natAbs) a
 | [],a,h,_=>h
 | x::r,a,h,h2=>dvd_gcdF d r (Nat.gcd a x.natAbs) (Nat.dvd_gcd h (h2 x (List.mem_cons_self ..))) fun n hn=>h2 n (List.mem_cons_of_mem _ hn)
theorem simp_prim {ns:List Int} (h:gcdL ns≠0):Prim (simpL ns):=fun d hd=>by
 have e:∀ i,ns.getD i 0=((gcdL ns:Nat):Int)*(simpL ns).getD i 0:=fun i=>by
  unfold simpL
  rw [if_neg h]
  by_cases c:i<ns.length
  ·rw [Z0,Z0,Z6,List.getElem?_eq_getElem c]
   exact (Int.mul_ediv_cancel' (gcdL_dvd (List.getElem_mem c))).symm
  ·rw [Z0,Z0,Z6,List.getElem?_eq_none (by lia)]
   rfl
 have all:∀ n∈ns,gcdL ns*d∣n.natAbs:=fun n hn=>by
  obtain ⟨i,hi,e1⟩:=List.getElem_of_mem hn
  have:=e i
  rw [Z0,List.getElem?_eq_getElem hi,e1] at this
  rw [show n=((gcdL ns:Nat):Int)*(simpL ns).getD i 0 from this,Int.natAbs_mul,Int.natAbs_natCast]
  exact Nat.mul_dvd_mul_left _ (hd i)
 have:=dvd_gcdF (gcdL ns*d) ns 0 (Nat.dvd_zero _) all
 have le:=Nat.le_of_dvd (Nat.pos_of_ne_zero h) this
 have d0:d≠0:=fun z=>by
  rw [z,Nat.mul_zero] at this
  exact h (Nat.eq_zero_of_zero_dvd this)
 have:gcdL ns*d≤gcdL ns*1:=by rw [Nat.mul_one];exact le
 have:=Nat.le_of_mul_le_mul_left this (Nat.pos_of_ne_zero h)
 lia
def PZ (r:List Int):Prop:=Prim r∨∀ i,r.getD i 0=0
theorem simp_pz (ns:List Int):PZ (simpL ns):=by
 by_cases z:gcdL ns=0
 ·refine .inr fun i=>?_
  unfold simpL
  rw [if_pos z]
  by_cases c:i<ns.length
  ·rw [Z0,List.getElem?_eq_getElem c]
   exact gcdL_zero z _ (List.getElem_mem c)
  ·rw [Z0,List.getElem?_eq_none (by lia)]
   rfl
 ·exact .inl (simp_prim z)
theorem prim_le {r:List Int} (hp:PZ r) {α β:Int} {v:Nat→Int} (ha:α≠0) (h:∀ i,α*r.getD i 0=β*v i) (i:Nat):(r.getD i 0).natAbs≤(v i).natAbs:=by
 rcases hp with hp | hz
 ·have hn:∀ i,α.natAbs*(r.getD i 0).natAbs=β.natAbs*(v i).natAbs:=fun i=>by rw [←Int.natAbs_mul,←Int.natAbs_mul,h i]
  have A0:0<α.natAbs:=by lia
  have g0:0<Nat.gcd α.natAbs β.natAbs:=Nat.gcd_pos_of_pos_left _ A0
  obtain ⟨A',hA⟩:=Nat.gcd_dvd_left α.natAbs β.natAbs
  obtain ⟨B',hB⟩:=Nat.gcd_dvd_right α.natAbs β.natAbs
  obtain ⟨g,hg⟩:∃ g,g=Nat.gcd α.natAbs β.natAbs:=⟨_,rfl⟩
  have cop:Nat.Coprime A' B':=by
   have:=Nat.coprime_div_gcd_div_gcd g0
   rw [←hg] at this hA hB g0
   rw [hA,hB,Nat.mul_div_cancel_left _ g0,Nat.mul_div_cancel_left _ g0] at this
   exact this
  rw [←hg] at hA hB g0
  have eq:∀ i,A'*(r.getD i 0).natAbs=B'*(v i).natAbs:=fun i=>by
   have:=hn i
   rw [hA,hB,Nat.mul_assoc,Nat.mul_assoc] at this
   exact Nat.eq_of_mul_eq_mul_left g0 this
  have b1:B'=1:=hp B' fun i=>(Nat.Coprime.symm cop).dvd_of_dvd_mul_left ⟨_,eq i⟩
  have a1:A'≠0:=fun z=>by rw [z,Nat.mul_zero] at hA;lia
  have:=eq i
  rw [b1,Nat.one_mul] at this
  rw [←this]
  exact Nat.le_mul_of_pos_left _ (Nat.pos_of_ne_zero a1)
 ·rw [hz i];exact Nat.zero_le _
structure SclOk (Rs:List (List Int)) (fs:List Nat) (b:Nat) (Δ:Int) (M:Nat→Nat→Int):Prop where
 nz:Δ≠0
 db:Δ.natAbs<2^b
 mb:∀ l,l<Rs.length→∀ i,(M l i).natAbs<2^b
 eq:∀ l,l<Rs.length→∀ i,(Rs.getD l []).getD (fs.getD l 0) 0*M l i=Δ*(Rs.getD l []).getD i 0
theorem SclOk.nil:SclOk [] [] 1 1 (fun _ _=>0):=⟨by decide,by decide,(fun l h=>absurd h (Nat.not_lt_zero _)),fun l h=>absurd h (Nat.not_lt_zero _)⟩
section
variable {G:Nat} {Rs:List (List Int)} {fs:List Nat} (ok:RowsOk G Rs fs) {b:Nat} {Δ:Int} {M:Nat→Nat→Int} (sc:SclOk Rs fs b Δ M) {c:List Int} (hc:c.length=G)
include ok sc hc
theorem SclOk.foot {l m:Nat} (hl:l<Rs.length) (hm:m<Rs.length) (ne:l≠m):M l (fs.getD m 0)=0:=by
 obtain ⟨a1,a2⟩:=ok.at hc hl
 obtain ⟨b1,b2⟩:=ok.at hc hm
 have:=sc.eq l hl (fs.getD m 0)
 rw [ok.zero l m _ _ ne a1 b2,Z10] at this
 rcases Int.mul_eq_zero.mp this with z | z
 ·exact absurd z (ok.foot l _ _ a1 a2).1
 ·exact z
def vJ (_:RowsOk G Rs fs) (_:SclOk Rs fs b Δ M) (c:List Int) (j i:Nat):Int:=Δ*c.getD i 0 - sumN j fun l=>c.getD (fs.getD l 0) 0*M l i
theorem vJ_rel:∀ j,j≤Rs.length→∃ α β:Int,α≠0∧β≠0∧∀ i,α*(clrAll Rs fs j c).getD i 0=β*vJ ok sc c j i
 | 0,_=>⟨Δ,1,sc.nz,by decide,fun i=>by
  show Δ*c.getD i 0=1*(Δ*c.getD i 0 - sumN 0 _)
  rw [sumN_zero,Int.sub_zero,Z23]⟩
 | j+1,hj=>by
  obtain ⟨α,β,a0,b0,e⟩:=vJ_rel j (by lia)
  obtain ⟨a1,a2⟩:=ok.at hc (j:=j) (by lia)
  have fo:=ok.foot j _ _ a1 a2
  have ol:=ok.len _ (List.mem_of_getElem? a1)
  obtain ⟨d,d0,hd⟩:=simp_ex (mixL (clrAll Rs fs j c) (Rs.getD j []) (fs.getD j 0))
  refine ⟨α*d,β*(Rs.getD j []).getD (fs.getD j 0) 0,Int.mul_ne_zero a0 (by lia),Int.mul_ne_zero b0 fo.1,fun i=>?_⟩
  have at1:=hd i
  rw [mixL_at _ (by rw [ol,clrAll_len ok hc])] at at1
  have vf:vJ ok sc c j (fs.getD j 0)=Δ*c.getD (fs.getD j 0) 0:=by
   unfold vJ
   rw [sumN_congr (g:=fun _=>0) fun l hl=>by rw [sc.foot ok hc (show l<Rs.length by lia) (show j<Rs.length by lia) (by lia),Z10],sumN_const,Z10,Int.sub_zero]
  have v1:vJ ok sc c (j+1) i=vJ ok sc c j i - c.getD (fs.getD j 0) 0*M j i:=by
   unfold vJ
   rw [sumN_succ]
   lia
  show α*d*(clrL (clrAll Rs fs j c) _ _).getD i 0=_
  unfold clrL
  rw [Z26,←at1,v1,Int.mul_sub,←Z26,Int.mul_comm α,Z26,e i,←Int.mul_assoc α,e,vf,Int.mul_sub]
  have q:=sc.eq j (by lia) i
  obtain ⟨p,hp⟩:∃ p,p=(Rs.getD j []).getD (fs.getD j 0) 0:=⟨_,rfl⟩
  rw [←hp] at q ⊢
  have q1:β*(Δ*c.getD (fs.getD j 0) 0)*(Rs.getD j []).getD i 0=β*p*(c.getD (fs.getD j 0) 0*M j i):=by
   calc β*(Δ*c.getD (fs.getD j 0) 0)*(Rs.getD j []).getD i 0=β*c.getD (fs.getD j 0) 0*(Δ*(Rs.getD j []).getD i 0):=by simp only [Int.mul_comm,Int.mul_left_comm,Int.mul_assoc]
    _=β*c.getD (fs.getD j 0) 0*(p*M j i):=by rw [←q]
    _=β*p*(c.getD (fs.getD j 0) 0*M j i):=by simp only [Int.mul_comm,Int.mul_left_comm,Int.mul_assoc]
  rw [q1]
  congr 1
  simp only [Int.mul_comm,Int.mul_left_comm,Int.mul_assoc]
theorem sum_abs (n:Nat) (f:Nat→Int) (B:Nat) (h:∀ k,k<n→(f k).natAbs≤B):(sumN n f).natAbs≤n*B:=by
 induction n with
 | zero=>rw [sumN_zero];exact Nat.zero_le _
 | succ n ih =>
  rw [sumN_succ,Nat.succ_mul]
  have:=ih fun k hk=>h k (by lia)
  have:=h n (by lia)
  have:=Int.natAbs_add_le (sumN n f) (f n)
  lia
theorem vJ_bits (cb:BitsB c 5) {j:Nat} (hj:j≤Rs.length) (j15:j≤15) (i:Nat):(vJ ok sc c j i).natAbs<2^(b+9):=by
 have P:0<2^b:=Nat.pow_pos (by decide)
 have t1:(Δ*c.getD i 0).natAbs≤2^b*31:=by
  rw [Int.natAbs_mul]
  exact Nat.mul_le_mul (Nat.le_of_lt sc.db) (by have:=cb i;lia)
 have t2:=sum_abs ok sc hc j (fun l=>c.getD (fs.getD l 0) 0*M l i) (2^b*31) fun l hl=>by
  rw [Int.natAbs_mul,Nat.mul_comm]
  exact Nat.mul_le_mul (Nat.le_of_lt (sc.mb l (by lia) i)) (by have:=cb (fs.getD l 0);lia)
 have t3:j*(2^b*31)≤15*(2^b*31):=Nat.mul_le_mul_right _ j15
 have t4:=Int.natAbs_sub_le (Δ*c.getD i 0) (sumN j fun l=>c.getD (fs.getD l 0) 0*M l i)
 have e:2^(b+9)=2^b*512:=Nat.pow_add ..
 rw [e]
 unfold vJ
 lia
theorem clrAll_small (cb:BitsB c 5) {j:Nat} (hj:j≤Rs.length) (j15:j≤15):BitsB (clrAll Rs fs j c) (b+9):=fun i=>by
 cases j with
 | zero=>exact Nat.lt_of_lt_of_le (cb i) (Nat.pow_le_pow_right (by decide) (by lia))
 | succ j =>
  obtain ⟨α,β,a0,b0,e⟩:=vJ_rel ok sc hc (j+1) hj
  exact Nat.lt_of_le_of_lt (prim_le (simp_pz _) a0 e i) (vJ_bits ok sc hc cb hj j15 i)
theorem SclOk.add (cb:BitsB c 5) (k15:Rs.length≤15) {f:Nat} (hf:FootIs (clrAll Rs fs Rs.length c) f) :
  ∃ Δ' M',SclOk (Rs.map (fun o=>clrL o (clrAll Rs fs Rs.length c) f)++[clrAll Rs fs Rs.length c]) (fs++[f]) (2*b+10) Δ' M'∧∀ r∈Rs.map (fun o=>clrL o (clrAll Rs fs Rs.length c) f)++[clrAll Rs fs Rs.length c],BitsB r (2*b+10):=by
 obtain ⟨α,β,a0,b0,e⟩:=vJ_rel ok sc hc Rs.length (Nat.le_refl _)
 have vb:=vJ_bits ok sc hc cb (Nat.le_refl _) k15
 have rb:=clrAll_small ok sc hc cb (Nat.le_refl _) k15
 have rz:=clrAll_zero ok hc Rs.length (Nat.le_refl _)
 have rl:=clrAll_len ok hc Rs.length
 obtain ⟨r,hr⟩:∃ r,r=clrAll Rs fs Rs.length c:=⟨_,rfl⟩
 obtain ⟨V,hV⟩:∃ V:Nat→Int,V=fun i=>vJ ok sc c Rs.length i:=⟨_,rfl⟩
 have e':∀ i,α*r.getD i 0=β*V i:=fun i=>by rw [hr,hV];exact e i
 have vb':∀ i,(V i).natAbs<2^(b+9):=fun i=>by rw [hV];exact vb i
 rw [←hr] at hf rb rz rl ⊢
 clear e vb hV
 have vf:V f≠0:=fun z=>by
  have:=e' f
  rw [z,Z10] at this
  rcases Int.mul_eq_zero.mp this with y | y
  ·exact a0 y
  ·exact hf.1 y
 have rv:∀ i,r.getD f 0*V i=V f*r.getD i 0:=fun i=>by
  refine Int.eq_of_mul_eq_mul_left b0 ?_
  rw [←Z26,Int.mul_comm β,Z26,←e' i,←Int.mul_assoc β,←e' f]
  simp only [Int.mul_comm,Int.mul_left_comm,Int.mul_assoc]
 have P:2^(2*b+10)=2*(2^b*2^(b+9)):=by rw [←Nat.pow_add,←Nat.pow_succ'];congr 1;lia
 have look:∀ l,l<Rs.length+1→(l<Rs.length∧(Rs.map (fun o=>clrL o r f)++[r]).getD l []=clrL (Rs.getD l []) r f∧(fs++[f]).getD l 0=fs.getD l 0)∨(l=Rs.length∧(Rs.map (fun o=>clrL o r f)++[r]).getD l []=r∧(fs++[f]).getD l 0=f):=fun l hl=>by
  by_cases c':l<Rs.length
  ·refine .inl ⟨c',?_,?_⟩
   ·rw [Z0,List.getElem?_append_left (by rw [Z1];exact c'),Z6,Z0,List.getElem?_eq_getElem c']
    rfl
   ·rw [Z0,List.getElem?_append_left (by rw [ok.n];exact c'),←Z0]
  ·have el:l=Rs.length:=by lia
   refine .inr ⟨el,?_,?_⟩
   ·rw [Z0,List.getElem?_append_right (by rw [Z1];lia),Z1,el,Nat.sub_self]
    rfl
   ·rw [Z0,List.getElem?_append_right (by rw [ok.n];lia),ok.n,el,Nat.sub_self]
    rfl
 have mbig:∀ x y:Int,x.natAbs<2^b→y.natAbs<2^(b+9)→(x*y).natAbs<2^b*2^(b+9):=fun x y hx hy=>by rw [Int.natAbs_mul];exact Nat.mul_lt_mul'' hx hy
 have nlen:(Rs.map (fun o=>clrL o r f)++[r]).length=Rs.length+1:=by rw [Z4,Z1];rfl
 have sc':SclOk (Rs.map (fun o=>clrL o r f)++[r]) (fs++[f]) (2*b+10) (Δ*V f) (fun l i=>if l<Rs.length then V f*M l i - M l f*V i else Δ*V i):=by
  refine ⟨Int.mul_ne_zero sc.nz vf,?_,fun l hl i=>?_,fun l hl i=>?_⟩
  ·have:=mbig Δ (V f) sc.db (vb' f)
   rw [P];lia
  ·rw [nlen] at hl
   rw [P]
   by_cases c':l<Rs.length
   ·show (if l<Rs.length then V f*M l i - M l f*V i else Δ*V i).natAbs<_
    rw [if_pos c']
    have t1:=mbig (M l i) (V f) (sc.mb l c' i) (vb' f)
    have t2:=mbig (M l f) (V i) (sc.mb l c' f) (vb' i)
    have:=Int.natAbs_sub_le (V f*M l i) (M l f*V i)
    rw [Int.mul_comm (V f)] at this ⊢
    lia
   ·show (if l<Rs.length then V f*M l i - M l f*V i else Δ*V i).natAbs<_
    rw [if_neg c']
    have:=mbig Δ (V i) sc.db (vb' i)
    lia
  ·rw [nlen] at hl
   show _*(if l<Rs.length then V f*M l i - M l f*V i else Δ*V i)=_
   rcases look l hl with ⟨c',e1,e2⟩ | ⟨c',e1,e2⟩
   ·rw [e1,e2,if_pos c']
    obtain ⟨a1,a2⟩:=ok.at hc c'
    have ol:=ok.len _ (List.mem_of_getElem? a1)
    obtain ⟨d,d0,hd⟩:=simp_ex (mixL (Rs.getD l []) r f)
    have m1:=hd (fs.getD l 0)
    have m2:=hd i
    rw [mixL_at f (by rw [rl,ol]),rz l c',Z10,Int.sub_zero] at m1
    rw [mixL_at f (by rw [rl,ol])] at m2
    refine Int.eq_of_mul_eq_mul_left (show d≠0 by lia) ?_
    unfold clrL
    rw [←Int.mul_assoc d,←m1,←Int.mul_assoc d,Int.mul_comm d (Δ*V f),Int.mul_assoc (Δ*V f),←m2]
    have q1:=sc.eq l c' i
    have q2:=sc.eq l c' f
    obtain ⟨p,hp⟩:∃ p,p=(Rs.getD l []).getD (fs.getD l 0) 0:=⟨_,rfl⟩
    rw [←hp] at q1 q2 ⊢
    have w1:r.getD f 0*p*(V f*M l i)=Δ*V f*(r.getD f 0*(Rs.getD l []).getD i 0):=by
     calc r.getD f 0*p*(V f*M l i)=r.getD f 0*V f*(p*M l i):=by simp only [Int.mul_comm,Int.mul_left_comm,Int.mul_assoc]
      _=r.getD f 0*V f*(Δ*(Rs.getD l []).getD i 0):=by rw [q1]
      _=Δ*V f*(r.getD f 0*(Rs.getD l []).getD i 0):=by simp only [Int.mul_comm,Int.mul_left_comm,Int.mul_assoc]
    have w2:r.getD f 0*p*(M l f*V i)=Δ*V f*((Rs.getD l []).getD f 0*r.getD i 0):=by
     calc r.getD f 0*p*(M l f*V i)=p*M l f*(r.getD f 0*V i):=by simp only [Int.mul_comm,Int.mul_left_comm,Int.mul_assoc]
      _=Δ*(Rs.getD l []).getD f 0*(V f*r.getD i 0):=by rw [q2,rv i]
      _=Δ*V f*((Rs.getD l []).getD f 0*r.getD i 0):=by simp only [Int.mul_comm,Int.mul_left_comm,Int.mul_assoc]
    rw [Int.mul_sub,w1,w2,Int.mul_sub]
   ·rw [e1,e2,if_neg (by lia)]
    calc r.getD f 0*(Δ*V i)=Δ*(r.getD f 0*V i):=by simp only [Int.mul_comm,Int.mul_left_comm,Int.mul_assoc]
     _=Δ*(V f*r.getD i 0):=by rw [rv i]
     _=Δ*V f*r.getD i 0:=by rw [Z26]
 refine ⟨_,_,sc',fun r' hr' i=>?_⟩
 rcases List.mem_append.mp hr' with z | z
 ·obtain ⟨l,hl⟩:=List.mem_iff_getElem?.mp hr'
  obtain ⟨o,ho,rfl⟩:=List.mem_map.mp z
  have ll:=(List.getElem?_eq_some_iff.mp hl).1
  have er:(Rs.map (fun o=>clrL o r f)++[r]).getD l []=clrL o r f:=by rw [Z0,hl];rfl
  have q:=sc'.eq l ll
  rw [er] at q
  exact Nat.lt_of_le_of_lt (prim_le (v:=fun i=>(if l<Rs.length then V f*M l i - M l f*V i else Δ*V i)) (simp_pz _) sc'.nz (fun i=>(q i).symm) i) (sc'.mb l ll i)
 ·rw [List.mem_singleton.mp z]
  exact Nat.lt_of_lt_of_le (rb i) (Nat.pow_le_pow_right (by decide) (by lia))
end
end L2
namespace L2
open PySem PySem.Spec PyProof.Rows RW
theorem bits_pow {i:Int} {m:Nat} (h:i.natAbs<2^m):Builtin.Int.intBits i≤m:=by
 unfold Builtin.Int.intBits
 split
 ·exact Nat.zero_le _
 ·rename_i z
  have z':i.natAbs≠0:=fun e=>z (by first | (have:i=0:=by lia);rw [this];rfl | simpa using (show i=0 by lia))
  have:=(Nat.log2_lt z').mpr h
  lia
def CMulC (i j:Int):Prop:=i.natAbs<2^100000∧j.natAbs<2^100000
theorem op_mulC {X:Cx}:OpR X (binaryOp .Mult) (rI CMulC fun i j=>.int (i*j)):=opI fun _ _ _ _ _ _ _ hc q=>mul_int q (.of_bits (Nat.le_trans (bits_pow hc.1) (by decide)) (Nat.le_trans (bits_pow hc.2) (by decide)))
theorem no_pylong {y t:Int} (hy:y≠0) (ht:t.natAbs<2^4000):Builtin.divisionGoesByPylong (y*t) y=false:=by
 have key:(if y*t == 0 then 0 else (y*t).natAbs.log2 / 30+1)≤(if y == 0 then 0 else y.natAbs.log2 / 30+1)+150:=by
  rw [if_neg (show ¬ (y == 0)=true from fun z=>hy (eq_of_beq z))]
  by_cases z:(y*t == 0)=true
  ·rw [if_pos z];exact Nat.zero_le _
  ·rw [if_neg z]
   have nz:y*t≠0:=fun e=>z (by rw [e];rfl)
   have y0:y.natAbs≠0:=by lia
   have p0:(y*t).natAbs≠0:=by lia
   have ly:y.natAbs<2^(y.natAbs.log2+1):=(Nat.log2_lt y0).mp (Nat.lt_succ_self _)
   have:(y*t).natAbs.log2<y.natAbs.log2+1+4000:=(Nat.log2_lt p0).mpr (by
    rw [Int.natAbs_mul,Nat.pow_add]
    exact Nat.mul_lt_mul'' ly ht)
   lia
 show (decide (_ > 300) && decide ((if y*t == 0 then 0 else (y*t).natAbs.log2 / 30+1) > (if y == 0 then 0 else y.natAbs.log2 / 30+1)+150))=false
 rw [decide_eq_false (Nat.not_lt.mpr key),Bool.and_false]
def CDivX (i j:Int):Prop:=j≠0∧∃ t,i=j*t∧(t.natAbs<2^4000∨j.natAbs<2^8000)
theorem op_fdivX {X:Cx}:OpR X (binaryOp .FloorDiv) (rI CDivX fun i j=>.int (i / j)):=opI fun i j _ _ _ _ _ hc q=>by
 obtain ⟨j0,t,rfl,ht⟩:=hc
 refine floordiv_int j0 ?_ (.inl (ht.elim (fun h=>no_pylong j0 h) fun h=>PyProof.noPylong_of_log2 (Nat.lt_trans ((Nat.log2_lt (by lia)).mpr h) (by decide))))
 rw [Int.mul_ediv_cancel_left _ j0] at q
 rw [Int.mul_fdiv_cancel_left _ j0]
 exact q
end L2
namespace L2
open PySem PySem.Spec PyProof.Rows RW
def chgL (g lo:Int) (tab:List Int) (m:Nat) (ring:List Int):List Int:=(List.range g.toNat).map fun s:Nat=>(((ringL g lo tab m ring).count (s:Int):Nat):Int) - ((ring.count (s:Int):Nat):Int)
theorem chgL_len (g lo:Int) (tab:List Int) (m:Nat) (ring:List Int):(chgL g lo tab m ring).length=g.toNat:=by unfold chgL;rw [Z1,Z2]
def askL (g:Int) (m:Nat):List (List Int):=(List.range (g^(m - 1)).toNat).map (fun n:Nat=>List.replicate (m - 1) 0++wordL g (n:Int) (m - 1))++(List.range (g^m).toNat).map fun n:Nat=>List.replicate (m - 1) 0++wordL g (n:Int) m
structure LsV (H:Hp) (p:Addr) (ps:List Addr) (ws:List (List Int)):Prop where
 l:H p=some (.lst (ps.map V.ref))
 n:ps.length=ws.length
 e:∀ (i:Nat) (q:Addr) (w:List Int),ps[i]?=some q→ws[i]?=some w→H q=some (.lst (w.map V.int))
theorem LsV.same {H H':Hp} {p:Addr} {ps:List Addr} {ws:List (List Int)} (s:Same H H') (h:LsV H p ps ws):LsV H' p ps ws:=⟨s _ _ h.l,h.n,fun i q w h1 h2=>s _ _ (h.e i q w h1 h2)⟩
theorem LsV.at {H:Hp} {p:Addr} {ps:List Addr} {ws:List (List Int)} (h:LsV H p ps ws) {i:Nat} {v:V} (hv:(ps.map V.ref)[i]?=some v):∃ q,v=.ref q∧ps[i]?=some q∧i<ws.length∧ws[i]?=some (ws.getD i [])∧H q=some (.lst ((ws.getD i []).map V.int)):=by
 rw [Z6] at hv
 cases z:ps[i]? with
 | none=>rw [z] at hv;cases hv
 | some q =>
  rw [z] at hv
  have il:i<ws.length:=by rw [←h.n];exact (List.getElem?_eq_some_iff.mp z).1
  have w1:ws[i]?=some (ws.getD i []):=by rw [Z0,List.getElem?_eq_getElem il];rfl
  exact ⟨q,(Option.some.inj hv).symm,rfl,il,w1,h.e i q _ z w1⟩
def spChangeOf:Sp:=fun vs H Q _=>∃ (r a:Addr) (g lo:Int) (tab:List Int) (m:Nat) (ring:List Int),vs=[.ref r,.ref a]∧RuleOk H r g lo tab m∧H a=some (.lst (ring.map V.int))∧(∀ x∈ring,0≤x∧x<g)∧1≤ring.length∧ring.length≤800∧∀ p H',NewL H H' p (chgL g lo tab m ring)→Q (.ref p) H'
def spAskL:Sp:=fun vs H Q _=>∃ (r:Addr) (g lo:Int) (tab:List Int) (m:Nat),vs=[.ref r]∧RuleOk H r g lo tab m∧g^(m - 1)≤9∧2≤m∧∀ (p:Addr) (ps:List Addr) (H':Hp),Same H H'→LsV H' p ps (askL g m)→Q (.ref p) H'
def spGcd:Sp:=fun vs H Q _=>∃ (a:Addr) (ns:List Int),vs=[.ref a]∧H a=some (.lst (ns.map V.int))∧Q (.int ((gcdL ns:Nat):Int)) H
def spSimp:Sp:=fun vs H Q _=>∃ (a:Addr) (ns:List Int),vs=[.ref a]∧H a=some (.lst (ns.map V.int))∧ns.length≤100∧BitsB (simpL ns) 4000∧∀ p H',Same H H'→H' p=some (.lst ((simpL ns).map V.int))→Q (.ref p) H'
def spFoot:Sp:=fun vs H Q _=>∃ (a:Addr) (ns:List Int) (f:Nat),vs=[.ref a]∧H a=some (.lst (ns.map V.int))∧ns.length≤100∧FootIs ns f∧∀ H',Same H H'→Q (.int ((f:Nat):Int)) H'
def spClr:Sp:=fun vs H Q _=>∃ (a b:Addr) (r o:List Int) (f:Nat),vs=[.ref a,.ref b]∧H a=some (.lst (r.map V.int))∧H b=some (.lst (o.map V.int))∧o.length=r.length∧r.length≤100∧FootIs o f∧BitsB r 4000∧BitsB o 4000∧BitsB (clrL r o f) 4000∧∀ p H',Same H H'→H' p=some (.lst ((clrL r o f).map V.int))→Q (.ref p) H'
inductive Ran (chg:List Int→List Int):List (List Int)→List (List Int)→List (List Int)→List Nat→Prop
 | nil:Ran chg [] [] [] []
 | skip {seen rings Rs:List (List Int)} {fs:List Nat} {ring:List Int}:Ran chg seen rings Rs fs→(∀ i,(clrAll Rs fs Rs.length (chg ring)).getD i 0=0)→Ran chg (seen++[ring]) rings Rs fs
 | take {seen rings Rs:List (List Int)} {fs:List Nat} {ring:List Int} {f:Nat}:Ran chg seen rings Rs fs→FootIs (clrAll Rs fs Rs.length (chg ring)) f→Ran chg (seen++[ring]) (rings++[ring]) (Rs.map (fun o=>clrL o (clrAll Rs fs Rs.length (chg ring)) f)++[clrAll Rs fs Rs.length (chg ring)]) (fs++[f])
structure BasisOk (g lo:Int) (tab:List Int) (m:Nat) (rings Rs:List (List Int)) (fs:List Nat):Prop where
 rows:RowsOk g.toNat Rs fs
 ask:AskOk g.toNat Rs (rings.map (chgL g lo tab m)) ((askL g m).map (chgL g lo tab m))
 sub:∀ r∈rings,r∈askL g m
 few:Rs.length≤8
 scl:∃ b Δ M,b≤3000∧SclOk Rs fs b Δ M∧∀ r∈Rs,BitsB r 3000
 ran:Ran (chgL g lo tab m) (askL g m) rings Rs fs
 cnt:rings.length=Rs.length
def spRR (CT:Addr):Sp:=fun vs H Q E=>∃ (r:Addr) (g lo:Int) (tab:List Int) (m:Nat) (lf:Int) (tf:List Int) (mf:Nat),vs=[.ref r]∧RuleOk H r g lo tab m∧FrameW g lo tab m lf tf mf∧(g^(mf - 1)≤9→∀ (p pr pw:Addr) (rs ws:List Addr) (rings Rs:List (List Int)) (fs:List Nat) (H':Hp),Same H H'→H' p=some (.tup [.ref pr,.ref pw])→LsV H' pr rs rings→LsV H' pw ws Rs→BasisOk g lf tf mf rings Rs fs→Q (.ref p) H')∧(9<g^(mf - 1)→∀ H',Same H H'→E (.ref CT) none H')
def spChanges (CT:Addr):Sp:=fun vs H Q E=>∃ (r:Addr) (g lo:Int) (tab:List Int) (m:Nat) (lf:Int) (tf:List Int) (mf:Nat),vs=[.ref r]∧RuleOk H r g lo tab m∧FrameW g lo tab m lf tf mf∧(g^(mf - 1)≤9→∀ (p:Addr) (rs:List Addr) (rings Rs:List (List Int)) (fs:List Nat) (H':Hp),Same H H'→LsV H' p rs rings→BasisOk g lf tf mf rings Rs fs→Q (.ref p) H')∧(9<g^(mf - 1)→∀ H',Same H H'→E (.ref CT) none H')
end L2
namespace L2
open PySem PySem.Spec PyProof.Rows RW
theorem ones_at {G i:Nat} (h:i<G):(List.replicate G (1:Int)).getD i 0=1:=by rw [Z0,Z19,if_pos h];rfl
theorem dot_one (G:Nat) (r:List Int):dot G (List.replicate G 1) r=sumN G fun i=>r.getD i 0:=by
 unfold dot
 exact sumN_congr fun i hi=>by rw [ones_at hi,Z23]
theorem sum_foot:∀ (G:Nat) (r:List Int),(∀ j,0<j→r.getD j 0=0)→0<G→sumN G (fun i=>r.getD i 0)=r.getD 0 0
 | 0,_,_,h=>absurd h (Nat.lt_irrefl _)
 | 1,r,_,_=>by rw [sumN_succ,sumN_zero,Z8]
 | G+2,r,h,_=>by rw [sumN_succ,sum_foot (G+1) r h (by lia),h (G+1) (by lia),Z20]
theorem RowsOk.few1 {G:Nat} {Rs:List (List Int)} {fs:List Nat} (h:RowsOk G Rs fs) (G0:0<G) (h1:∀ r∈Rs,dot G (List.replicate G 1) r=0):Rs.length+1≤G:=by
 have pos:∀ f∈fs,0<f:=fun f hf=>by
  obtain ⟨j,hj⟩:=List.mem_iff_getElem?.mp hf
  have jl:=(List.getElem?_eq_some_iff.mp hj).1
  obtain ⟨r,hr⟩:∃ r,Rs[j]?=some r:=⟨_,List.getElem?_eq_getElem (by rw [←h.n];exact jl)⟩
  have ft:=h.foot j r f hr hj
  refine Nat.pos_of_ne_zero fun z=>?_
  rw [z] at ft
  have:=h1 r (List.mem_of_getElem? hr)
  rw [dot_one,sum_foot G r ft.2 G0] at this
  exact ft.1 this
 have:=nodup_lt (G - 1) (fs.map (· - 1)) (List.pairwise_iff_getElem.mpr fun i j hi hj hij e=>?_) fun x hx=>?_
 ·rw [Z1,h.n] at this
  lia
 ·rw [Z1] at hi hj
  rw [List.getElem_map,List.getElem_map] at e
  have p1:=pos _ (List.getElem_mem hi)
  have p2:=pos _ (List.getElem_mem hj)
  have:=h.inj (List.getElem?_eq_getElem hi) (by rw [List.getElem?_eq_getElem hj];congr 1;lia)
  lia
 ·obtain ⟨f,hf,rfl⟩:=List.mem_map.mp hx
  obtain ⟨j,hj⟩:=List.mem_iff_getElem?.mp hf
  have:=h.lt hj
  have:=pos f hf
  lia
theorem count_sum (G:Nat):∀ l:List Int,(∀ x∈l,0≤x∧x<(G:Int))→sumN G (fun s=>((l.count (s:Int):Nat):Int))=((l.length:Nat):Int)
 | [],_=>by
  have z:∀ n:Nat,sumN n (fun s=>((([]:List Int).count (s:Int):Nat):Int))=0:=fun n=>by
   induction n with
   | zero=>rfl
   | succ n ih=>rw [sumN_succ,ih];rfl
  exact z G
 | x::l,h=>by
  have hx:=h x (List.mem_cons_self ..)
  have ih:=count_sum G l fun y hy=>h y (List.mem_cons_of_mem _ hy)
  have one:∀ n:Nat,sumN n (fun s=>(if x=(s:Int) then (1:Int) else 0))=if x<(n:Int) then 1 else 0:=fun n=>by
   induction n with
   | zero=>rw [sumN_zero,if_neg (by lia)]
   | succ n ih =>
    rw [sumN_succ,ih]
    by_cases c:x=(n:Int)
    ·rw [if_neg (by lia),if_pos c,if_pos (by lia)];rfl
    ·by_cases d:x<(n:Int)
     ·rw [if_pos d,if_neg c,if_pos (by lia)];rfl
     ·rw [if_neg d,if_neg c,if_neg (by lia)];rfl
  rw [sumN_congr (g:=fun s=>((l.count (s:Int):Nat):Int)+(if x=(s:Int) then (1:Int) else 0)) fun s _=>by
   rw [List.count_cons]
   by_cases c:x=(s:Int)
   ·rw [if_pos c,if_pos (by rw [c];exact beq_self_eq_true _)];rfl
   ·rw [if_neg c,if_neg (by simpa using c)];rfl]
  rw [sumN_add,ih,one G,if_pos hx.2,List.length_cons]
  rfl
theorem chg_at {g lo:Int} {tab:List Int} {m:Nat} {ring:List Int} {s:Nat} (h:s<g.toNat):(chgL g lo tab m ring).getD s 0=(((ringL g lo tab m ring).count (s:Int):Nat):Int) - ((ring.count (s:Int):Nat):Int):=by
 unfold chgL
 rw [Z0,Z6,List.getElem?_range h]
 rfl
theorem sumN_sub' (n:Nat) (f g:Nat→Int):sumN n (fun k=>f k - g k)=sumN n f - sumN n g:=by
 induction n with
 | zero=>rfl
 | succ n ih=>rw [sumN_succ,sumN_succ,sumN_succ,ih];lia
theorem chg_ones {g lo:Int} (g2:2≤g) {tab:List Int} (hb:∀ n∈tab,0≤n∧n<g) {m:Nat} {ring:List Int} (hr:∀ x∈ring,0≤x∧x<g):dot g.toNat (List.replicate g.toNat 1) (chgL g lo tab m ring)=0:=by
 have eg:((g.toNat:Nat):Int)=g:=Int.toNat_of_nonneg (by lia)
 rw [dot_one,sumN_congr (g:=fun s=>(((ringL g lo tab m ring).count (s:Int):Nat):Int) - ((ring.count (s:Int):Nat):Int)) fun s hs=>chg_at hs,sumN_sub',count_sum _ _ (by rw [eg];exact ringL_lt g2 lo hb m ring),count_sum _ _ (by rw [eg];exact hr),ringL_len,Int.sub_self]
theorem chg_bits {g lo:Int} {tab:List Int} {m:Nat} {ring:List Int} (h:ring.length<32):BitsB (chgL g lo tab m ring) 5:=fun i=>by
 by_cases c:i<g.toNat
 ·rw [chg_at c]
  have a:=List.count_le_length (a:=(i:Int)) (l:=ringL g lo tab m ring)
  have b:=List.count_le_length (a:=(i:Int)) (l:=ring)
  rw [ringL_len] at a
  lia
 ·rw [Z0,List.getElem?_eq_none (by rw [chgL_len];lia)]
  decide
theorem ask_len {g:Int} {m:Nat} (m2:2≤m) (m8:m≤8) {r:List Int} (h:r∈askL g m):1≤r.length∧r.length<32:=by
 unfold askL at h
 rcases List.mem_append.mp h with z | z
 ·obtain ⟨n,_,rfl⟩:=List.mem_map.mp z
  rw [Z4,Z9,wordL_len]
  lia
 ·obtain ⟨n,_,rfl⟩:=List.mem_map.mp z
  rw [Z4,Z9,wordL_len]
  lia
theorem ask_lt {g:Int} (g2:2≤g) {m:Nat} {r:List Int} (h:r∈askL g m):∀ x∈r,0≤x∧x<g:=by
 have z0:∀ x∈List.replicate (m - 1) (0:Int),0≤x∧x<g:=fun x hx=>by
  rw [(List.mem_replicate.mp hx).2]
  lia
 unfold askL at h
 rcases List.mem_append.mp h with z | z
 ·obtain ⟨n,_,rfl⟩:=List.mem_map.mp z
  intro x hx
  rcases List.mem_append.mp hx with y | y
  ·exact z0 x y
  ·exact wordL_lt g2 _ _ x y
 ·obtain ⟨n,_,rfl⟩:=List.mem_map.mp z
  intro x hx
  rcases List.mem_append.mp hx with y | y
  ·exact z0 x y
  ·exact wordL_lt g2 _ _ x y
def bK (k:Nat):Nat:=11*2^k - 10
theorem bK_succ (k:Nat):bK (k+1)=2*bK k+10:=by
 unfold bK
 have:=Nat.one_le_two_pow (n:=k)
 rw [Nat.pow_succ]
 lia
theorem bK_le {k:Nat} (h:k≤8):bK k≤2806:=by
 unfold bK
 have:=Nat.pow_le_pow_right (n:=2) (by decide) h
 lia
structure Mid (g lo:Int) (tab:List Int) (m:Nat) (seen rings Rs:List (List Int)) (fs:List Nat):Prop where
 rows:RowsOk g.toNat Rs fs
 ask:AskOk g.toNat Rs (rings.map (chgL g lo tab m)) (seen.map (chgL g lo tab m))
 sub:∀ r∈rings,r∈seen
 scl:∃ Δ M,SclOk Rs fs (bK Rs.length) Δ M∧∀ r∈Rs,BitsB r (bK Rs.length)
 cnt:rings.length=Rs.length
 ran:Ran (chgL g lo tab m) seen rings Rs fs
theorem Mid.nil (g lo:Int) (tab:List Int) (m:Nat):Mid g lo tab m [] [] [] []:=⟨RowsOk.nil _,AskOk.nil _,(fun r h=>by cases h),⟨_,_,SclOk.nil,fun r h=>by cases h⟩,rfl,.nil⟩
section
variable {g lo:Int} {tab:List Int} {m:Nat} {seen rings Rs:List (List Int)} {fs:List Nat} (M:Mid g lo tab m seen rings Rs fs) (g2:2≤g) (g9:g≤9) (hb:∀ n∈tab,0≤n∧n<g) (hs:∀ r∈seen,∀ x∈r,0≤x∧x<g)
include M g2 g9 hb hs
theorem Mid.few:Rs.length≤8:=by
 have:=M.rows.few1 (by lia) ((M.ask.both (List.replicate g.toNat 1)).mpr fun c hc=>by
  obtain ⟨r,hr,rfl⟩:=List.mem_map.mp hc
  exact chg_ones g2 hb (hs r (M.sub r hr)))
 lia
theorem Mid.done (ha:seen=askL g m):BasisOk g lo tab m rings Rs fs:=by
 have f8:=Mid.few M g2 g9 hb hs
 obtain ⟨Δ,N,s1,s2⟩:=M.scl
 have:=bK_le f8
 exact ⟨M.rows,by rw [←ha];exact M.ask,by rw [←ha];exact M.sub,f8,⟨_,Δ,N,by lia,s1,fun r hr=>(s2 r hr).mono (by lia)⟩,by rw [←ha];exact M.ran,M.cnt⟩
end
section
variable {g lo:Int} {tab:List Int} {m:Nat} {seen rings Rs:List (List Int)} {fs:List Nat} (M:Mid g lo tab m seen rings Rs fs)
include M
theorem Mid.skip {ring:List Int} (hz:∀ i,(clrAll Rs fs Rs.length (chgL g lo tab m ring)).getD i 0=0):Mid g lo tab m (seen++[ring]) rings Rs fs:=⟨M.rows,by
 rw [Z3]
 exact M.ask.skip M.rows (chgL_len ..) hz,fun r hr=>List.mem_append_left _ (M.sub r hr),M.scl,M.cnt,M.ran.skip hz⟩
theorem Mid.take {ring:List Int} (f8:Rs.length≤8) (rl:ring.length<32) {f:Nat} (hf:FootIs (clrAll Rs fs Rs.length (chgL g lo tab m ring)) f):Mid g lo tab m (seen++[ring]) (rings++[ring]) (Rs.map (fun o=>clrL o (clrAll Rs fs Rs.length (chgL g lo tab m ring)) f)++[clrAll Rs fs Rs.length (chgL g lo tab m ring)]) (fs++[f]):=by
 obtain ⟨Δ,N,s1,s2⟩:=M.scl
 obtain ⟨Δ',N',t1,t2⟩:=SclOk.add M.rows s1 (chgL_len ..) (chg_bits rl) (by lia) hf
 refine ⟨M.rows.add (clrAll_len M.rows (chgL_len ..) _) (clrAll_zero M.rows (chgL_len ..) _ (Nat.le_refl _)) hf,?_,fun r hr=>?_,⟨Δ',N',?_,?_⟩,by rw [Z4,Z4,Z1,M.cnt];rfl,M.ran.take hf⟩
 ·rw [Z3,Z3]
  exact M.ask.take M.rows (chgL_len ..) hf
 ·rcases List.mem_append.mp hr with z | z
  ·exact List.mem_append_left _ (M.sub r z)
  ·exact List.mem_append_right _ z
 ·rw [Z4,Z1,Z15,bK_succ]
  exact t1
 ·rw [Z4,Z1,Z15,bK_succ]
  exact t2
theorem Mid.small {ring:List Int} (f8:Rs.length≤8) (rl:ring.length<32) {j:Nat} (hj:j≤Rs.length):BitsB (clrAll Rs fs j (chgL g lo tab m ring)) 3000:=by
 obtain ⟨Δ,N,s1,s2⟩:=M.scl
 have:=bK_le f8
 exact (clrAll_small M.rows s1 (chgL_len ..) (chg_bits rl) hj (by lia)).mono (by lia)
theorem Mid.rowsb (f8:Rs.length≤8):∀ r∈Rs,BitsB r 3000:=fun r hr=>by
 obtain ⟨Δ,N,s1,s2⟩:=M.scl
 have:=bK_le f8
 exact (s2 r hr).mono (by lia)
end
theorem kind_ne {H:Hp} {a b:Addr} {w:List Int} {ps:List Addr} (h1:H a=some (.lst (w.map V.int))) (w1:1≤w.length) (h2:H b=some (.lst (ps.map V.ref))):a≠b:=fun e=>by
 rw [e,h2] at h1
 cases w with
 | nil=>exact absurd w1 (by decide)
 | cons x w =>
  cases ps with
  | nil=>simp only [Option.some.injEq,HO.lst.injEq,List.map_nil,List.map_cons] at h1;cases h1
  | cons p ps =>
   simp only [Option.some.injEq,HO.lst.injEq,List.map_cons,List.cons.injEq] at h1
   cases h1.1
end L2
namespace L2
open PySem PySem.Spec PyProof.Rows RW
def prodF (Rs:List (List Int)) (fs:List Nat):Nat→Nat
 | 0=>1
 | j+1=>prodF Rs fs j*((Rs.getD j []).getD (fs.getD j 0) 0).natAbs
theorem prodF_bits {Rs:List (List Int)} {fs:List Nat} {b:Nat} (h:∀ r∈Rs,BitsB r b):∀ j,j≤Rs.length→prodF Rs fs j<2^(j*b+1)
 | 0,_=>by unfold prodF;rw [Nat.zero_mul];decide
 | j+1,hj=>by
  have ih:=prodF_bits (fs:=fs) h j (by lia)
  have hr:(Rs.getD j [])∈Rs:=by rw [Z0,List.getElem?_eq_getElem (by lia)];exact List.getElem_mem _
  have:=h _ hr (fs.getD j 0)
  unfold prodF
  have m:=Nat.mul_lt_mul'' ih this
  rw [←Nat.pow_add] at m
  rw [show (j+1)*b+1=j*b+1+b by rw [Nat.succ_mul];lia]
  exact m
theorem prodF_dvd (Rs:List (List Int)) (fs:List Nat):∀ j k,k<j→((Rs.getD k []).getD (fs.getD k 0) 0).natAbs∣prodF Rs fs j
 | 0,k,h=>absurd h (Nat.not_lt_zero _)
 | j+1,k,h=>by
  unfold prodF
  by_cases c:k=j
  ·rw [c];exact Nat.dvd_mul_left ..
  ·exact Nat.dvd_trans (prodF_dvd Rs fs j k (by lia)) (Nat.dvd_mul_right ..)
structure WJ (G:Nat) (Rs:List (List Int)) (fs:List Nat) (hd:Nat) (D:Int) (j:Nat) (ws:List Int):Prop where
 n:ws.length=G
 h:ws.getD hd 0=D
 f:∀ l,l<j→ws.getD (fs.getD l 0) 0=-((Rs.getD l []).getD hd 0)*D / (Rs.getD l []).getD (fs.getD l 0) 0
 z:∀ i,i≠hd→(∀ l,l<j→i≠fs.getD l 0)→ws.getD i 0=0
theorem getD_set (ws:List Int) (k:Nat) (x:Int) (i:Nat) (h:k<ws.length):(ws.set k x).getD i 0=if i=k then x else ws.getD i 0:=by
 rw [Z0,Z0,List.getElem?_set]
 by_cases c:k=i
 ·rw [if_pos c,if_pos c.symm,if_pos h];rfl
 ·rw [if_neg c,if_neg (fun z=>c z.symm)]
theorem WJ.add {G:Nat} {Rs:List (List Int)} {fs:List Nat} {hd:Nat} {D:Int} {j:Nat} {ws:List Int} (w:WJ G Rs fs hd D j ws) (ok:RowsOk G Rs fs) (nf:¬ hd∈fs) (hj:j<Rs.length):WJ G Rs fs hd D (j+1) (ws.set (fs.getD j 0) (-((Rs.getD j []).getD hd 0)*D / (Rs.getD j []).getD (fs.getD j 0) 0)):=by
 have at':∀ l,l<Rs.length→fs[l]?=some (fs.getD l 0):=fun l hl=>by rw [Z0,List.getElem?_eq_getElem (by rw [ok.n];exact hl)];rfl
 have fl:fs.getD j 0<ws.length:=by rw [w.n];exact ok.lt (at' j hj)
 have ne:hd≠fs.getD j 0:=fun z=>nf (by rw [z];exact List.mem_of_getElem? (at' j hj))
 refine ⟨by rw [Z11];exact w.n,by rw [getD_set _ _ _ _ fl,if_neg ne];exact w.h,fun l hl=>?_,fun i h1 h2=>?_⟩
 ·rw [getD_set _ _ _ _ fl]
  by_cases c:l=j
  ·rw [c,if_pos rfl]
  ·rw [if_neg fun z=>c (ok.inj (at' l (by lia)) (by rw [z];exact at' j hj))]
   exact w.f l (by lia)
 ·rw [getD_set _ _ _ _ fl,if_neg (h2 j (by lia))]
  exact w.z i h1 fun l hl=>h2 l (by lia)
theorem WJ.done {G:Nat} {Rs:List (List Int)} {fs:List Nat} {hd:Nat} {D:Int} {ws:List Int} (w:WJ G Rs fs hd D Rs.length ws) (ok:RowsOk G Rs fs) (nf:¬ hd∈fs) (hl:hd<G):ws=wHead G Rs fs hd D:=by
 have wl:(wHead G Rs fs hd D).length=G:=by unfold wHead;rw [Z1,Z2]
 have g:∀ i,ws.getD i 0=(wHead G Rs fs hd D).getD i 0:=fun i=>by
  by_cases c:i=hd
  ·rw [c,w.h,wHead_head Rs fs hl D]
  ·by_cases d:i∈fs
   ·obtain ⟨l,e⟩:=List.mem_iff_getElem?.mp d
    have ll:=(List.getElem?_eq_some_iff.mp e).1
    have e':i=fs.getD l 0:=by rw [Z0,e];rfl
    rw [ok.n] at ll
    rw [e',w.f l ll,wHead_foot ok D nf ll]
   ·rw [wHead_else ok.n D c d]
    refine w.z i c fun l hl' z=>d ?_
    rw [z,Z0,List.getElem?_eq_getElem (by rw [ok.n];exact hl')]
    exact List.getElem_mem _
 refine List.ext_getElem (by rw [w.n,wl]) fun i h1 h2=>?_
 have:=g i
 rw [Z0,List.getElem?_eq_getElem h1,Z0,List.getElem?_eq_getElem h2] at this
 exact this
def headW (G:Nat) (Rs:List (List Int)) (fs:List Nat) (hd:Nat):List Int:=simpL (wHead G Rs fs hd ((prodF Rs fs Rs.length:Nat):Int))
def spWH:Sp:=fun vs H Q _=>∃ (pw:Addr) (ws:List Addr) (G:Nat) (Rs:List (List Int)) (fs:List Nat) (hd:Nat),vs=[.int ((G:Nat):Int),.ref pw,.int ((hd:Nat):Int)]∧LsV H pw ws Rs∧RowsOk G Rs fs∧G≤9∧Rs.length≤8∧(∀ r∈Rs,BitsB r 3000)∧hd<G∧¬ hd∈fs∧BitsB (headW G Rs fs hd) 4000∧∀ p H',Same H H'→H' p=some (.lst ((headW G Rs fs hd).map V.int))→Q (.ref p) H'
end L2
namespace L2
open PySem PySem.Spec PyProof.Rows RW
theorem dot_comm (n:Nat) (a b:List Int):dot n a b=dot n b a:=sumN_congr fun i _=>Int.mul_comm ..
theorem headW_dot {G:Nat} {Rs:List (List Int)} {fs:List Nat} (h:RowsOk G Rs fs) {hd:Nat} (hl:hd<G) (nf:¬ hd∈fs):∀ r∈Rs,dot G (headW G Rs fs hd) r=0:=fun r hr=>by
 unfold headW
 rw [dot_comm,dot_simp,dot_comm]
 exact wHead_dot h hl nf (fun j hj=>Int.natAbs_dvd_natAbs.mp (by rw [Int.natAbs_natCast];exact prodF_dvd Rs fs _ j hj)) r hr
theorem headW_len (G:Nat) (Rs:List (List Int)) (fs:List Nat) (hd:Nat):(headW G Rs fs hd).length=G:=by
 unfold headW
 rw [simpL_len]
 unfold wHead
 rw [Z1,Z2]
theorem headW_bits {G:Nat} {Rs:List (List Int)} {fs:List Nat} (h:RowsOk G Rs fs) {b:Nat} {Δ:Int} {M:Nat→Nat→Int} (sc:SclOk Rs fs b Δ M) {hd:Nat} (hl:hd<G) (nf:¬ hd∈fs):BitsB (headW G Rs fs hd) b:=fun i=>by
 obtain ⟨D,hD⟩:∃ D:Int,D=((prodF Rs fs Rs.length:Nat):Int):=⟨_,rfl⟩
 have dvs:∀ l,l<Rs.length→(Rs.getD l []).getD (fs.getD l 0) 0∣D:=fun l hl'=>by
  rw [hD]
  exact Int.natAbs_dvd_natAbs.mp (by rw [Int.natAbs_natCast];exact prodF_dvd Rs fs _ l hl')
 have hw:headW G Rs fs hd=simpL (wHead G Rs fs hd D):=by unfold headW;rw [hD]
 obtain ⟨d,d0,hd'⟩:=simp_ex (wHead G Rs fs hd D)
 rw [←hw] at hd'
 have ex:∀ i,∃ u:Int,u.natAbs<2^b∧Δ*(wHead G Rs fs hd D).getD i 0=D*u:=fun i=>by
  by_cases c:i=hd
  ·exact ⟨Δ,sc.db,by rw [c,wHead_head Rs fs hl D,Z28]⟩
  ·by_cases e:i∈fs
   ·obtain ⟨l,e⟩:=List.mem_iff_getElem?.mp e
    have ll:=(List.getElem?_eq_some_iff.mp e).1
    have e':i=fs.getD l 0:=by rw [Z0,e];rfl
    rw [h.n] at ll
    have rl:Rs[l]?=some (Rs.getD l []):=by rw [Z0,List.getElem?_eq_getElem ll];rfl
    have ft:=h.foot l _ _ rl e
    have q:=sc.eq l ll hd
    refine ⟨-(M l hd),by rw [Int.natAbs_neg];exact sc.mb l ll hd,?_⟩
    rw [e',wHead_foot h D nf ll]
    rw [e'] at ft
    obtain ⟨t,ht⟩:=dvs l ll
    rw [ht,Int.mul_left_comm,Int.mul_ediv_cancel_left _ ft.1]
    refine Int.eq_of_mul_eq_mul_left ft.1 ?_
    rw [show (Rs.getD l []).getD (fs.getD l 0) 0*((Rs.getD l []).getD (fs.getD l 0) 0*t*-M l hd)=(Rs.getD l []).getD (fs.getD l 0) 0*t*-((Rs.getD l []).getD (fs.getD l 0) 0*M l hd) by
     rw [←Int.mul_neg]
     simp only [Int.mul_comm,Int.mul_left_comm,Int.mul_assoc],q,←Int.mul_neg]
    simp only [Int.mul_comm,Int.mul_left_comm,Int.mul_assoc]
   ·exact ⟨0,Nat.pos_of_ne_zero (by have:=Nat.two_pow_pos b;lia),by rw [wHead_else h.n D c e,Z10,Z10]⟩
 obtain ⟨u,hu⟩:∃ u:Nat→Int,∀ i,(u i).natAbs<2^b∧Δ*(wHead G Rs fs hd D).getD i 0=D*u i:=⟨fun i=>(ex i).choose,fun i=>(ex i).choose_spec⟩
 have pz:PZ (headW G Rs fs hd):=by rw [hw];exact simp_pz _
 refine Nat.lt_of_le_of_lt (prim_le pz (α:=Δ*d) (β:=D) (v:=u) (Int.mul_ne_zero sc.nz (by lia)) (fun i=>?_) i) (hu i).1
 rw [←(hu i).2,hd' i,Z26]
def keptL (G:Nat) (Rs:List (List Int)) (fs:List Nat) (k:Nat):List (List Int):=((List.range k).filter fun h=>decide (¬ h∈fs)).map (headW G Rs fs)
def spAK (CT:Addr):Sp:=fun vs H Q E=>∃ (r:Addr) (g lo:Int) (tab:List Int) (m:Nat) (lf:Int) (tf:List Int) (mf:Nat),vs=[.ref r]∧RuleOk H r g lo tab m∧FrameW g lo tab m lf tf mf∧(g^(mf - 1)≤9→∀ (p:Addr) (rs:List Addr) (rings Rs:List (List Int)) (fs:List Nat) (H':Hp),Same H H'→LsV H' p rs (keptL g.toNat Rs fs g.toNat)→BasisOk g lf tf mf rings Rs fs→Q (.ref p) H')∧(9<g^(mf - 1)→∀ H',Same H H'→E (.ref CT) none H')
theorem op_notIn_seqK {X:Cx} {K:PySem.W.Frag} (h:X.K=K):OpR X (compareOp .NotIn) (rIn K true):=by
 subst h
 exact op_notIn_seq
end L2
namespace L2
open PySem PySem.Spec PyProof.Rows RW
theorem inV_nats (i:Nat):∀ fs:List Nat,inV (.int ((i:Nat):Int)) ((fs.map fun f:Nat=>((f:Nat):Int)).map V.int)=decide (i∈fs)
 | []=>rfl
 | f::fs=>by
  have ih:=inV_nats i fs
  unfold inV at ih ⊢
  rw [List.map_cons,List.map_cons,List.any_cons,ih]
  show (((f:Nat):Int) == ((i:Nat):Int) || decide (i∈fs))=_
  by_cases c:f=i
  ·rw [c,beq_self_eq_true,Bool.true_or]
   exact (decide_eq_true (List.mem_cons_self ..)).symm
  ·rw [beq_eq_false_iff_ne.mpr (by lia),Bool.false_or]
   by_cases d:i∈fs
   ·rw [decide_eq_true d,decide_eq_true (List.mem_cons_of_mem _ d)]
   ·rw [decide_eq_false d,decide_eq_false (fun z=>(List.mem_cons.mp z).elim (fun z=>c z.symm) d)]
theorem flat_nats:∀ fs:List Nat,(((fs.map fun f:Nat=>((f:Nat):Int)).map V.int).all flatV)=true
 | []=>rfl
 | f::fs=>by rw [List.map_cons,List.map_cons,List.all_cons,flat_nats fs];rfl
theorem keptL_succ (G:Nat) (Rs:List (List Int)) (fs:List Nat) (k:Nat):keptL G Rs fs (k+1)=keptL G Rs fs k++if k∈fs then [] else [headW G Rs fs k]:=by
 unfold keptL
 rw [List.range_succ,List.filter_append,Z3]
 congr 1
 by_cases c:k∈fs
 ·rw [if_pos c,List.filter_cons,if_neg (by simpa using c)];rfl
 ·rw [if_neg c,List.filter_cons,if_pos (by simpa using c)];rfl
theorem keptL_len (G:Nat) (Rs:List (List Int)) (fs:List Nat) (k:Nat):(keptL G Rs fs k).length≤k:=by
 unfold keptL
 rw [Z1]
 have:=List.length_filter_le (fun h=>decide (¬ h∈fs)) (List.range k)
 rw [Z2] at this
 exact this
theorem keptL_mem {G:Nat} {Rs:List (List Int)} {fs:List Nat} {k:Nat} {w:List Int} (h:w∈keptL G Rs fs k):∃ hd,hd<k∧¬ hd∈fs∧w=headW G Rs fs hd:=by
 unfold keptL at h
 obtain ⟨hd,h1,rfl⟩:=List.mem_map.mp h
 obtain ⟨a,b⟩:=List.mem_filter.mp h1
 exact ⟨hd,List.mem_range.mp a,of_decide_eq_true b,rfl⟩
theorem LsV.snoc {H:Hp} {p:Addr} {ps:List Addr} {ws:List (List Int)} (h:LsV H p ps ws) {q:Addr} {w:List Int} (w1:∀ u∈ws,1≤u.length) (h1:1≤w.length) (hq:H q=some (.lst (w.map V.int))):LsV (upd H p (.lst (ps.map V.ref++[V.ref q]))) p (ps++[q]) (ws++[w]):=⟨by rw [upd_same,Z3];rfl,by rw [Z4,Z4,h.n];rfl,fun k q' u hk hu=>by
 have hn:=h.n
 by_cases kl:k<ps.length
 ·rw [List.getElem?_append_left kl] at hk
  rw [List.getElem?_append_left (by lia)] at hu
  have a:=h.e k q' u hk hu
  rw [upd_ne (kind_ne a (w1 u (List.mem_of_getElem? hu)) h.l)]
  exact a
 ·rw [List.getElem?_append_right (by lia)] at hk
  rw [List.getElem?_append_right (by lia)] at hu
  have k0:k - ps.length=0:=by
   have:=(List.getElem?_eq_some_iff.mp hk).1
   rw [Z15] at this
   lia
  have k1:k - ws.length=0:=by lia
  rw [k0] at hk
  rw [k1] at hu
  cases hk
  cases hu
  rw [upd_ne (kind_ne hq h1 h.l)]
  exact hq⟩
end L2
namespace L2
open PySem PySem.Spec PyProof.Rows RW
theorem sum_count (G:Nat) (f:Nat→Int):∀ l:List Int,(∀ x∈l,0≤x∧x<(G:Int))→(l.map fun x=>f x.toNat).sum=sumN G fun s=>f s*((l.count (s:Int):Nat):Int)
 | [],_=>by
  have z:∀ n:Nat,sumN n (fun s=>f s*((([]:List Int).count (s:Int):Nat):Int))=0:=fun n=>by
   induction n with
   | zero=>rfl
   | succ n ih =>
    rw [sumN_succ,ih]
    show 0+f n*0=0
    rw [Z10];rfl
  exact (z G).symm
 | x::l,h=>by
  have hx:=h x (List.mem_cons_self ..)
  have ih:=sum_count G f l fun y hy=>h y (List.mem_cons_of_mem _ hy)
  have one:∀ n:Nat,sumN n (fun s=>(if x=(s:Int) then f s else 0))=if x<(n:Int) then f x.toNat else 0:=fun n=>by
   induction n with
   | zero=>rw [sumN_zero,if_neg (by lia)]
   | succ n ih =>
    rw [sumN_succ,ih]
    by_cases c:x=(n:Int)
    ·rw [if_neg (by lia),if_pos c,if_pos (by lia),show x.toNat=n by lia,Z8]
    ·by_cases d:x<(n:Int)
     ·rw [if_pos d,if_neg c,if_pos (by lia),Z20]
     ·rw [if_neg d,if_neg c,if_neg (by lia)];rfl
  rw [List.map_cons,List.sum_cons,ih,sumN_congr (f:=fun s=>f s*(((x::l).count (s:Int):Nat):Int)) (g:=fun s=>(if x=(s:Int) then f s else 0)+f s*((l.count (s:Int):Nat):Int)) fun s _=>?_,sumN_add,one G,if_pos hx.2]
  rw [List.count_cons]
  by_cases c:x=(s:Int)
  ·rw [if_pos c,if_pos (by rw [c];exact beq_self_eq_true _),Int.natCast_add,Int.mul_add]
   show f s*((l.count (s:Int):Nat):Int)+f s*1=_
   rw [Int.mul_one,Int.add_comm]
  ·rw [if_neg c,if_neg (by simpa using c),Int.zero_add]
   rfl
theorem ring_one {g:Int} (ws ring:List Int):ringL g 0 ws 1 ring=ring.map fun x=>ws.getD x.toNat 0:=by
 unfold ringL
 refine List.ext_getElem (by rw [Z1,Z1,Z2]) fun i h1 h2=>?_
 rw [Z1] at h2
 rw [List.getElem_map,List.getElem_map,List.getElem_range]
 show ws.getD (num g [ringAt ring ((i:Int)+0+((0:Nat):Int))]).toNat 0=_
 have e:ringAt ring ((i:Int)+0+((0:Nat):Int))=ring[i]:=by
  unfold ringAt
  rw [show (i:Int)+0+((0:Nat):Int)=(i:Int) by lia,Int.emod_eq_of_lt (by lia) (by lia),Z5,Z0,List.getElem?_eq_getElem h2]
  rfl
 rw [e]
 show ws.getD (0*g+ring[i]).toNat 0=_
 rw [Z21,Z8]
theorem total_dot {g lo:Int} (g2:2≤g) {tab:List Int} (hb:∀ n∈tab,0≤n∧n<g) {m:Nat} (ws:List Int) {ring:List Int} (hr:∀ x∈ring,0≤x∧x<g):dot g.toNat ws (chgL g lo tab m ring)=(ringL g 0 ws 1 (ringL g lo tab m ring)).sum - (ringL g 0 ws 1 ring).sum:=by
 have eg:((g.toNat:Nat):Int)=g:=Int.toNat_of_nonneg (by lia)
 rw [ring_one,ring_one,sum_count g.toNat (fun s=>ws.getD s 0) _ (by rw [eg];exact ringL_lt g2 lo hb m ring),sum_count g.toNat (fun s=>ws.getD s 0) _ (by rw [eg];exact hr),←sumN_sub']
 exact sumN_congr fun s hs=>by rw [chg_at hs,Int.mul_sub]
theorem dot_low {g:Int} (lo:Int) (g2:2≤g) {tab:List Int} (hb:∀ n∈tab,0≤n∧n<g) {m:Nat} (m1:1≤m) (ws:List Int) {ring:List Int} (hr:∀ x∈ring,0≤x∧x<g) (n1:1≤ring.length):dot g.toNat ws (chgL g lo tab m ring)=dot g.toNat ws (chgL g 0 tab m ring):=by
 rw [total_dot g2 hb ws hr,total_dot g2 hb ws hr,total_led g2 lo tab m1 ws (by decide) hr n1]
end L2
namespace L2
open PySem PySem.Spec PyProof.Rows RW
theorem ask_short {g:Int} (hg:2≤g) {m:Nat} {v:List Int} (hl:v.length=m - 1) (hb:∀ x∈v,0≤x∧x<g):List.replicate (m - 1) 0++v∈askL g m:=by
 have b:=num_lt hg hb
 have e:=wordL_num hg hb
 rw [hl] at b e
 unfold askL
 refine List.mem_append_left _ (List.mem_map.mpr ⟨(num g v).toNat,List.mem_range.mpr (by lia),?_⟩)
 show List.replicate (m - 1) 0++wordL g (((num g v).toNat:Nat):Int) (m - 1)=_
 rw [Int.toNat_of_nonneg b.1,e]
theorem right_ask {g:Int} (hg:2≤g) {gs:List Int} {m:Nat} (m2:2≤m) (hl:(gs.length:Int)=g^m) (h:∀ ring∈askL g m,(sumN ring.length fun i=>gs.getD (num g (ringW ring m (i:Int))).toNat 0)=0):rightW g.toNat gs (flowsL g.toNat gs):=fun n=>by
 obtain ⟨k,rfl⟩:∃ k,m=k+1:=⟨m - 1,by lia⟩
 have k1:1≤k:=by lia
 induction n using Nat.strongRecOn with
 | _ n ih =>
  intro hn hw
  have wl:=wordL_len g (n:Int) (k+1)
  have wb:=wordL_lt hg (n:Int) (k+1)
  have l1:(List.replicate k (0:Int)++wordL g (n:Int) (k+1)).length=k+(k+1):=by rw [Z4,Z9,wl]
  have l2:(List.replicate k (0:Int)++(wordL g (n:Int) (k+1)).drop 1).length=k+k:=by rw [Z4,Z9,Z25,wl];lia
  have a:=h (List.replicate k (0:Int)++wordL g (n:Int) (k+1)) (by
   unfold askL
   exact List.mem_append_right _ (List.mem_map.mpr ⟨n,List.mem_range.mpr (by lia),rfl⟩))
  have b:=h (List.replicate k (0:Int)++(wordL g (n:Int) (k+1)).drop 1) (ask_short (m:=k+1) hg (by rw [Z25,wl]) fun x hx=>wb x (List.mem_of_mem_drop hx))
  rw [l1] at a
  rw [l2] at b
  exact one_changes hg hl k1 hn hw (fun j hj=>ih j hj (by lia)) a b
theorem right_iff {g:Int} (g2:2≤g) (lo:Int) {tab:List Int} (hb:∀ n∈tab,0≤n∧n<g) {m:Nat} (m2:2≤m) (m8:m≤8) {ws:List Int} (wl:(ws.length:Int)=g):rightW g.toNat (gainL g tab m ws 1) (flowsL g.toNat (gainL g tab m ws 1))↔∀ ring∈askL g m,dot g.toNat ws (chgL g lo tab m ring)=0:=by
 have gp:=RW.pow_pos g2 (m - 1)
 have g1:g^1=g:=by rw [Z7,Z13,Z23]
 have gl:((gainL g tab m ws 1).length:Int)=g^m:=by
  rw [gainL_len,Z12,Int.toNat_of_nonneg (by lia),wl,←Z7,show (m - 1).succ=m by lia]
 have tie:∀ ring:List Int,(∀ x∈ring,0≤x∧x<g)→1≤ring.length→dot g.toNat ws (chgL g lo tab m ring)=sumN ring.length fun i=>(gainL g tab m ws 1).getD (num g (ringW ring m (i:Int))).toNat 0:=fun ring hr n1=>by
  rw [dot_low lo g2 hb (by lia) ws hr n1,total_dot g2 hb ws hr,change_sum g2 tab (by lia) (by decide) (by rw [g1];exact wl) hr n1,show m+1 - 1=m by lia]
 constructor
 ·intro r ring hr
  rw [tie ring (ask_lt g2 hr) (ask_len m2 m8 hr).1]
  obtain ⟨k,rfl⟩:∃ k,m=k+1:=⟨m - 1,by lia⟩
  exact right_keeps g2 gl (flows_pow g2 gl) r (ask_lt g2 hr) (ask_len m2 m8 hr).1
 ·intro h
  exact right_ask g2 m2 gl fun ring hr=>by
   rw [←tie ring (ask_lt g2 hr) (ask_len m2 m8 hr).1]
   exact h ring hr
end L2
namespace L2
open PySem PySem.Spec PyProof.Rows RW
theorem FrameW.lt {g:Int} (hg:2≤g) {lo:Int} {tab:List Int} {m:Nat} (tb:∀ n∈tab,0≤n∧n<g) {lf:Int} {tf:List Int} {mf:Nat} (fw:FrameW g lo tab m lf tf mf):∀ n∈tf,0≤n∧n<g:=by
 have bw:∀ {lo:Int} {tab:List Int} {m:Nat} {low:Int} {M:Nat},(∀ n∈tab,0≤n∧n<g)→∀ n∈bwT g lo tab m low M,0≤n∧n<g:=fun {lo tab m low M} tb n hn=>by
  unfold bwT at hn
  obtain ⟨k,_,rfl⟩:=List.mem_map.mp hn
  exact getD_lt hg tb _
 obtain ⟨low,M,n,rfl,⟨rfl,rfl,rfl⟩ | ⟨h2,rfl,rfl⟩⟩:=fw
 ·exact bw (bw tb)
 ·exact bw tb
section
variable {g:Int} (g2:2≤g) {lo:Int} {tab:List Int} {m:Nat} (tl:(tab.length:Int)=g^m) {lf:Int} {tf:List Int} {mf:Nat} (fw:FrameW g lo tab m lf tf mf)
include g2 tl fw
variable (tb:∀ n∈tab,0≤n∧n<g) (mf8:mf≤8)
include tb mf8
theorem right_mixed {ws:List Int} (wl:(ws.length:Int)=g) {rings Rs:List (List Int)} {fs:List Nat} (B:BasisOk g lf tf mf rings Rs fs) (h:∀ c:List Int,(∀ w∈keptL g.toNat Rs fs g.toNat,dot g.toNat w c=0)→dot g.toNat ws c=0):rightW g.toNat (gainL g tf mf ws 1) (flowsL g.toNat (gainL g tf mf ws 1)):=by
 rw [right_iff g2 lf (FrameW.lt g2 tb fw) fw.two mf8 wl]
 intro ring hr
 refine h _ fun w hw=>?_
 obtain ⟨hd,h1,h2,rfl⟩:=keptL_mem hw
 exact B.ask.all _ (headW_dot B.rows h1 h2) _ (List.mem_map.mpr ⟨ring,hr,rfl⟩)
theorem kept_right {rings Rs:List (List Int)} {fs:List Nat} (B:BasisOk g lf tf mf rings Rs fs) {w:List Int} (hw:w∈keptL g.toNat Rs fs g.toNat):w.length=g.toNat∧BitsB w 3000∧rightW g.toNat (gainL g tf mf w 1) (flowsL g.toNat (gainL g tf mf w 1)):=by
 have wl:w.length=g.toNat:=by
  obtain ⟨hd,h1,h2,rfl⟩:=keptL_mem hw
  exact headW_len ..
 refine ⟨wl,?_,right_mixed g2 tl fw tb mf8 (by lia) B fun c hc=>hc w hw⟩
 obtain ⟨hd,h1,h2,rfl⟩:=keptL_mem hw
 obtain ⟨b,Δ,M,hb,sc,_⟩:=B.scl
 exact (headW_bits B.rows sc h1 h2).mono hb
end
theorem chg_bits10 {g lo:Int} {tab:List Int} {m:Nat} {ring:List Int} (h:ring.length<1024):BitsB (chgL g lo tab m ring) 10:=fun i=>by
 by_cases c:i<g.toNat
 ·rw [chg_at c]
  have a:=List.count_le_length (a:=(i:Int)) (l:=ringL g lo tab m ring)
  have b:=List.count_le_length (a:=(i:Int)) (l:=ring)
  rw [ringL_len] at a
  lia
 ·rw [Z0,List.getElem?_eq_none (by rw [chgL_len];lia)]
  decide
end L2
namespace L2
open PySem PySem.Spec PyProof.Rows RW
def IndF (n:Nat) (R:Nat→Nat→Int):Prop:=∀ c:Nat→Int,(∀ i,sumN n (fun k=>c k*R k i)=0)→∀ k,k<n→c k=0
theorem IndF.congr {n:Nat} {R R':Nat→Nat→Int} (h:IndF n R) (e:∀ k,k<n→∀ i,R' k i=R k i):IndF n R':=fun c hc=>h c fun i=>by
 rw [←hc i]
 exact sumN_congr fun k hk=>by rw [e k hk]
theorem IndF.op {n:Nat} {R R':Nat→Nat→Int} (h:IndF n R) {k r:Nat} (hk:k<n) (hr:r<n) (ne:k≠r) {t b:Int} (t0:t≠0) (e1:∀ i,R' k i=R k i*t - R r i*b) (e2:∀ j,j≠k→∀ i,R' j i=R j i):IndF n R':=fun c hc=>by
 have z:=h (fun j=>if j=k then t*c k else if j=r then c r - b*c k else c j) fun i=>by
  rw [←hc i]
  have a1:=sumN_add n (fun j=>c j*R j i) fun j=>if j=k then c k*(R' k i - R k i) else 0
  have a2:=sumN_add n (fun j=>c j*R j i+if j=k then (t - 1)*c k*R k i else 0) fun j=>if j=r then -(b*c k)*R r i else 0
  have a3:=sumN_add n (fun j=>c j*R j i) fun j=>if j=k then (t - 1)*c k*R k i else 0
  rw [sum_only hk] at a1 a3
  rw [sum_only hr,a3] at a2
  have b1:sumN n (fun j=>c j*R' j i)=sumN n fun j=>c j*R j i+if j=k then c k*(R' k i - R k i) else 0:=sumN_congr fun j _=>by
   by_cases y:j=k
   ·rw [if_pos y,y];grind
   ·rw [if_neg y,e2 j y,Z20]
  have b2:(sumN n fun j=>(if j=k then t*c k else if j=r then c r - b*c k else c j)*R j i)=sumN n fun j=>(c j*R j i+if j=k then (t - 1)*c k*R k i else 0)+if j=r then -(b*c k)*R r i else 0:=sumN_congr fun j _=>by
   by_cases y:j=k
   ·rw [if_pos y,if_pos y,if_neg (fun z=>ne (by rw [←y,z])),y];grind
   ·by_cases w:j=r
    ·rw [if_neg y,if_neg y,if_pos w,if_pos w,w];grind
    ·rw [if_neg y,if_neg y,if_neg w,if_neg w,Z20,Z20]
  rw [b1,b2,a1,a2,e1]
  grind
 have zk:=z k hk
 rw [if_pos rfl] at zk
 have ck:c k=0:=by
  rcases Int.mul_eq_zero.mp zk with y | y
  ·exact absurd y t0
  ·exact y
 intro j hj
 have zj:=z j hj
 by_cases y:j=k
 ·rw [y];exact ck
 ·rw [if_neg y] at zj
  by_cases w:j=r
  ·rw [if_pos w,ck,Z10,Int.sub_zero] at zj
   rw [w];exact zj
  ·rw [if_neg w] at zj
   exact zj
theorem IndF.swap {n:Nat} {R R':Nat→Nat→Int} (h:IndF n R) {a b:Nat} (ha:a<n) (hb:b<n) (e1:∀ i,R' a i=R b i) (e2:∀ i,R' b i=R a i) (e3:∀ j,j≠a→j≠b→∀ i,R' j i=R j i):IndF n R':=by
 by_cases ab:a=b
 ·subst ab
  refine h.congr fun k _ i=>?_
  by_cases y:k=a
  ·rw [y];exact e1 i
  ·exact e3 k y y i
 intro c hc
 have z:=h (fun j=>if j=a then c b else if j=b then c a else c j) fun i=>by
  rw [←hc i]
  have a1:=sumN_add n (fun j=>c j*R j i) fun j=>if j=a then c a*(R b i - R a i) else 0
  have a2:=sumN_add n (fun j=>c j*R j i+if j=a then c a*(R b i - R a i) else 0) fun j=>if j=b then c b*(R a i - R b i) else 0
  have a3:=sumN_add n (fun j=>c j*R j i) fun j=>if j=a then (c b - c a)*R a i else 0
  have a4:=sumN_add n (fun j=>c j*R j i+if j=a then (c b - c a)*R a i else 0) fun j=>if j=b then (c a - c b)*R b i else 0
  rw [sum_only ha] at a1 a3
  rw [sum_only hb,a1] at a2
  rw [sum_only hb,a3] at a4
  have b1:sumN n (fun j=>c j*R' j i)=sumN n fun j=>(c j*R j i+if j=a then c a*(R b i - R a i) else 0)+if j=b then c b*(R a i - R b i) else 0:=sumN_congr fun j _=>by
   by_cases y:j=a
   ·rw [if_pos y,if_neg (fun z=>ab (by rw [←y,z])),y,e1];grind
   ·by_cases w:j=b
    ·rw [if_neg y,if_pos w,w,e2];grind
    ·rw [if_neg y,if_neg w,e3 j y w,Z20,Z20]
  have b2:(sumN n fun j=>(if j=a then c b else if j=b then c a else c j)*R j i)=sumN n fun j=>(c j*R j i+if j=a then (c b - c a)*R a i else 0)+if j=b then (c a - c b)*R b i else 0:=sumN_congr fun j _=>by
   by_cases y:j=a
   ·rw [if_pos y,if_pos y,if_neg (fun z=>ab (by rw [←y,z])),y];grind
   ·by_cases w:j=b
    ·rw [if_neg y,if_neg y,if_pos w,if_pos w,w];grind
    ·rw [if_neg y,if_neg y,if_neg w,if_neg w,Z20,Z20]
  rw [b1,b2,a2,a4]
  grind
 intro j hj
 by_cases y:j=a
 ·have:=z b hb
  rw [if_neg (fun z=>ab z.symm),if_pos rfl] at this
  rw [y];exact this
 ·by_cases w:j=b
  ·have:=z a ha
   rw [if_pos rfl] at this
   rw [w];exact this
  ·have:=z j hj
   rw [if_neg y,if_neg w] at this
   exact this
theorem IndF.full {n:Nat} {R:Nat→Nat→Int} (h:IndF n R) {r:Nat} (hr:r≤n) (z:∀ k,r≤k→k<n→∀ i,R k i=0):r=n:=by
 by_cases c:r=n
 ·exact c
 ·have:=h (fun j=>if j=r then 1 else 0) (fun i=>by
   rw [sumN_congr (g:=fun _=>0) fun k hk=>?_,sumN_const,Z10]
   by_cases y:k=r
   ·rw [y,z r (Nat.le_refl _) (by lia),Z10]
   ·rw [if_neg y,Z21]) r (by lia)
  rw [if_pos rfl] at this
  exact absurd this (by decide)
theorem foot_uniq {r:List Int} {f f':Nat} (h:FootIs r f) (h':FootIs r f'):f=f':=by
 rcases Nat.lt_trichotomy f f' with z | z | z
 ·exact absurd (h.2 f' z) h'.1
 ·exact z
 ·exact absurd (h'.2 f z) h.1
theorem Ran.uniq {chg:List Int→List Int} {seen rings Rs:List (List Int)} {fs:List Nat} (h:Ran chg seen rings Rs fs):∀ {rings' Rs':List (List Int)} {fs':List Nat},Ran chg seen rings' Rs' fs'→rings=rings'∧Rs=Rs'∧fs=fs':=by
 induction h with
 | nil =>
  intro rings' Rs' fs' h'
  generalize hs:([]:List (List Int))=s at h'
  cases h' with
  | nil=>exact ⟨rfl,rfl,rfl⟩
  | skip a hz=>exact absurd hs (by simp)
  | take a hf=>exact absurd hs (by simp)
 | skip a hz ih =>
  rename_i seen rings Rs fs ring
  intro rings' Rs' fs' h'
  generalize hs:seen++[ring]=s at h'
  cases h' with
  | nil=>exact absurd hs (by simp)
  | skip a' hz' =>
   obtain ⟨e1,e2⟩:=List.append_inj' hs rfl
   subst e1
   exact ih a'
  | take a' hf' =>
   obtain ⟨e1,e2⟩:=List.append_inj' hs rfl
   cases e2
   subst e1
   obtain ⟨rfl,rfl,rfl⟩:=ih a'
   exact absurd (hz _) hf'.1
 | take a hf ih =>
  rename_i seen rings Rs fs ring f
  intro rings' Rs' fs' h'
  generalize hs:seen++[ring]=s at h'
  cases h' with
  | nil=>exact absurd hs (by simp)
  | skip a' hz' =>
   obtain ⟨e1,e2⟩:=List.append_inj' hs rfl
   cases e2
   subst e1
   obtain ⟨rfl,rfl,rfl⟩:=ih a'
   exact absurd (hz' _) hf.1
  | take a' hf' =>
   obtain ⟨e1,e2⟩:=List.append_inj' hs rfl
   cases e2
   subst e1
   obtain ⟨rfl,rfl,rfl⟩:=ih a'
   have:=foot_uniq hf hf'
   subst this
   exact ⟨rfl,rfl,rfl⟩
theorem prodF_ne {G:Nat} {Rs:List (List Int)} {fs:List Nat} (h:RowsOk G Rs fs):∀ j,j≤Rs.length→prodF Rs fs j≠0
 | 0,_=>Nat.one_ne_zero
 | j+1,hj=>by
  have ih:=prodF_ne h j (by lia)
  have ft:=h.foot j (Rs.getD j []) (fs.getD j 0) (by rw [Z0,List.getElem?_eq_getElem (by lia)];rfl) (by rw [Z0,List.getElem?_eq_getElem (by rw [h.n];lia)];rfl)
  have:=ft.1
  unfold prodF
  exact Nat.mul_ne_zero ih (by lia)
theorem head_row {G:Nat} {Rs:List (List Int)} {fs:List Nat} (hn:fs.length=Rs.length) {hd:Nat} (hl:hd<G) (D:Int) {r:List Int} (hz:∀ f∈fs,r.getD f 0=0):dot G (wHead G Rs fs hd D) r=D*r.getD hd 0:=by
 unfold dot
 rw [sumN_congr (g:=fun i=>if i=hd then D*r.getD hd 0 else 0) fun i hi=>?_,sum_only hl]
 by_cases c:i=hd
 ·rw [if_pos c,c,wHead_head Rs fs hl D]
 ·rw [if_neg c]
  by_cases d:i∈fs
  ·rw [hz i d,Z10]
  ·rw [wHead_else hn D c d,Z21]
def rowsF (rows:List (List Int)):Nat→Nat→Int:=fun k i=>(rows.getD k []).getD i 0
theorem ran_ind {chg:List Int→List Int} {G:Nat} (hl:∀ r,(chg r).length=G) {seen rings Rs:List (List Int)} {fs:List Nat} (h:Ran chg seen rings Rs fs):RowsOk G Rs fs∧AskOk G Rs (rings.map chg) (seen.map chg)∧IndF (rings.map chg).length (rowsF (rings.map chg)):=by
 induction h with
 | nil=>exact ⟨RowsOk.nil _,AskOk.nil _,fun c _ k hk=>absurd hk (Nat.not_lt_zero _)⟩
 | skip a hz ih =>
  obtain ⟨i1,i2,i3⟩:=ih
  refine ⟨i1,?_,i3⟩
  rw [Z3]
  exact i2.skip i1 (hl _) hz
 | take a hf ih =>
  rename_i seen rings Rs fs ring f
  obtain ⟨i1,i2,i3⟩:=ih
  have rl:=clrAll_len i1 (hl ring) Rs.length
  have rz:=clrAll_zero i1 (hl ring) Rs.length (Nat.le_refl _)
  refine ⟨i1.add rl rz hf,?_,?_⟩
  ·rw [Z3,Z3]
   exact i2.take i1 (hl _) hf
  ·have fG:=hf.lt
   rw [rl] at fG
   have fz:∀ f'∈fs,(clrAll Rs fs Rs.length (chg ring)).getD f' 0=0:=fun f' hf'=>by
    obtain ⟨l,hl'⟩:=List.mem_iff_getElem?.mp hf'
    have ll:=(List.getElem?_eq_some_iff.mp hl').1
    have:=rz l (by rw [←i1.n];exact ll)
    rw [show fs.getD l 0=f' by rw [Z0,hl'];rfl] at this
    exact this
   have nf:¬ f∈fs:=fun z=>hf.1 (fz f z)
   have D0:=prodF_ne i1 Rs.length (Nat.le_refl _)
   have wd:=wHead_dot i1 fG (D:=((prodF Rs fs Rs.length:Nat):Int)) nf fun j hj=>Int.natAbs_dvd_natAbs.mp (by rw [Int.natAbs_natCast];exact prodF_dvd Rs fs _ j hj)
   have wr:=head_row i1.n fG ((prodF Rs fs Rs.length:Nat):Int) fz
   have wc:dot G (wHead G Rs fs f ((prodF Rs fs Rs.length:Nat):Int)) (chg ring)≠0:=fun z=>by
    have:=(clrAll_dot i1 (hl ring) _ wd Rs.length (Nat.le_refl _)).mpr z
    rw [wr] at this
    rcases Int.mul_eq_zero.mp this with y | y
    ·lia
    ·exact hf.1 y
   have wp:=(i2.both _).mp wd
   obtain ⟨w,hw⟩:∃ w,w=wHead G Rs fs f ((prodF Rs fs Rs.length:Nat):Int):=⟨_,rfl⟩
   rw [←hw] at wc wp
   intro c hc
   have e:(List.map chg (rings++[ring])).length=(rings.map chg).length+1:=by rw [Z1,Z4,Z1];rfl
   rw [e] at hc ⊢
   have lo:∀ k,k<(rings.map chg).length→∀ i,rowsF (List.map chg (rings++[ring])) k i=rowsF (rings.map chg) k i:=fun k hk i=>by
    have q:(List.map chg (rings++[ring])).getD k []=(rings.map chg).getD k []:=by
     rw [Z3,Z0,List.getElem?_append_left hk,←Z0]
    unfold rowsF
    rw [q]
   have hi:∀ i,rowsF (List.map chg (rings++[ring])) (rings.map chg).length i=(chg ring).getD i 0:=fun i=>by
    have q:(List.map chg (rings++[ring])).getD (rings.map chg).length []=chg ring:=by
     rw [Z3,Z0,List.getElem?_append_right (Nat.le_refl _),Nat.sub_self]
     rfl
    unfold rowsF
    rw [q]
   have cn:c (rings.map chg).length=0:=by
    have s:sumN G (fun i=>w.getD i 0*sumN ((rings.map chg).length+1) fun k=>c k*rowsF (List.map chg (rings++[ring])) k i)=0:=by
     rw [sumN_congr (g:=fun _=>0) fun i _=>by rw [hc i,Z10],sumN_const,Z10]
    have s2:sumN G (fun i=>w.getD i 0*sumN ((rings.map chg).length+1) fun k=>c k*rowsF (List.map chg (rings++[ring])) k i)=sumN G (fun i=>sumN (rings.map chg).length fun k=>w.getD i 0*(c k*rowsF (rings.map chg) k i))+sumN G fun i=>w.getD i 0*(chg ring).getD i 0*c (rings.map chg).length:=by
     rw [←sumN_add]
     refine sumN_congr fun i _=>?_
     rw [sumN_succ,Int.mul_add,hi i,sumN_congr fun k hk=>by rw [lo k hk i]]
     congr 1
     ·rw [Z28,←sumN_mul]
      exact sumN_congr fun k _=>Int.mul_comm ..
     ·grind
    have s3:sumN G (fun i=>sumN (rings.map chg).length fun k=>w.getD i 0*(c k*rowsF (rings.map chg) k i))=0:=by
     rw [sumN_swap,sumN_congr (g:=fun _=>0) fun k hk=>?_,sumN_const,Z10]
     have:=wp ((rings.map chg).getD k []) (by rw [Z0,List.getElem?_eq_getElem hk];exact List.getElem_mem _)
     unfold dot at this
     rw [sumN_congr (g:=fun i=>w.getD i 0*((rings.map chg).getD k []).getD i 0*c k) fun i _=>?_,sumN_mul,this,Z21]
     unfold rowsF
     grind
    rw [s2,s3,sumN_mul,Z8] at s
    rcases Int.mul_eq_zero.mp s with y | y
    ·exact absurd y wc
    ·exact y
   have rest:=i3 c fun i=>by
    have:=hc i
    rw [sumN_succ,cn,Z21,Z20,sumN_congr fun k hk=>by rw [lo k hk i]] at this
    exact this
   intro k hk
   by_cases y:k=(rings.map chg).length
   ·rw [y];exact cn
   ·exact rest k (by lia)
theorem headW_head {G:Nat} {Rs:List (List Int)} {fs:List Nat} (h:RowsOk G Rs fs) {hd:Nat} (hl:hd<G):0<(headW G Rs fs hd).getD hd 0:=by
 obtain ⟨d,d0,e⟩:=simp_ex (wHead G Rs fs hd ((prodF Rs fs Rs.length:Nat):Int))
 have:=e hd
 rw [wHead_head Rs fs hl] at this
 have D0:=prodF_ne h Rs.length (Nat.le_refl _)
 unfold headW
 rcases Int.lt_trichotomy ((simpL (wHead G Rs fs hd ((prodF Rs fs Rs.length:Nat):Int))).getD hd 0) 0 with y | y | y
 ·exfalso
  have:=Int.mul_neg_of_pos_of_neg d0 y
  lia
 ·rw [y,Z10] at this
  lia
 ·exact y
theorem headW_other {G:Nat} {Rs:List (List Int)} {fs:List Nat} (h:RowsOk G Rs fs) {hd i:Nat} (ne:i≠hd) (ni:¬ i∈fs):(headW G Rs fs hd).getD i 0=0:=by
 unfold headW
 rw [simp_zero]
 exact wHead_else h.n _ ne ni
theorem headW_low {G:Nat} {Rs:List (List Int)} {fs:List Nat} (h:RowsOk G Rs fs) {hd i:Nat} (nf:¬ hd∈fs) (hi:i<hd):(headW G Rs fs hd).getD i 0=0:=by
 by_cases c:i∈fs
 ·obtain ⟨j,hj⟩:=List.mem_iff_getElem?.mp c
  have jl:=(List.getElem?_eq_some_iff.mp hj).1
  rw [h.n] at jl
  have e:fs.getD j 0=i:=by rw [Z0,hj];rfl
  have ft:=h.foot j (Rs.getD j []) i (by rw [Z0,List.getElem?_eq_getElem jl];rfl) hj
  have wf:=wHead_foot h ((prodF Rs fs Rs.length:Nat):Int) nf jl
  unfold headW
  rw [simp_zero,←e,wf,e,ft.2 hd hi,Int.neg_zero,Int.zero_mul,Int.zero_ediv]
 ·exact headW_other h (by lia) c
theorem headW_gcd {G:Nat} {Rs:List (List Int)} {fs:List Nat} (h:RowsOk G Rs fs) {hd:Nat} (hl:hd<G):gcdL (headW G Rs fs hd)=1:=by
 have hp:=headW_head h hl
 have pz:PZ (headW G Rs fs hd):=simp_pz _
 rcases pz with p | z
 ·refine p _ fun i=>?_
  by_cases c:i<(headW G Rs fs hd).length
  ·rw [Z0,List.getElem?_eq_getElem c]
   exact (gcdF_dvd _ 0).2 _ (List.getElem_mem c)
  ·rw [Z0,List.getElem?_eq_none (by lia)]
   exact Nat.dvd_zero _
 ·rw [z hd] at hp
  exact absurd hp (by decide)
def hdsL (fs:List Nat) (G:Nat):List Nat:=(List.range G).filter fun h=>decide (¬ h∈fs)
theorem hds_succ (fs:List Nat) (G:Nat):hdsL fs (G+1)=hdsL fs G++if G∈fs then [] else [G]:=by
 unfold hdsL
 rw [List.range_succ,List.filter_append]
 congr 1
 by_cases c:G∈fs
 ·rw [if_pos c,List.filter_cons,if_neg (by simpa using c)];rfl
 ·rw [if_neg c,List.filter_cons,if_pos (by simpa using c)];rfl
theorem hds_mem {fs:List Nat} {G h:Nat}:h∈hdsL fs G↔h<G∧¬ h∈fs:=by
 unfold hdsL
 rw [List.mem_filter,List.mem_range,decide_eq_true_iff]
theorem hds_rise (fs:List Nat) (G:Nat):(hdsL fs G).Pairwise (·<·):=List.Pairwise.filter _ List.pairwise_lt_range
theorem hds_count {fs:List Nat} (nd:fs.Nodup):∀ G,(hdsL fs G).length+(fs.filter fun f=>decide (f<G)).length=G
 | 0=>by
  have:(fs.filter fun f=>decide (f<0))=[]:=List.filter_eq_nil_iff.mpr fun f _=>by simp
  rw [this];rfl
 | G+1=>by
  have ih:=hds_count nd G
  rw [hds_succ,Z4]
  have key:(fs.filter fun f=>decide (f<G+1)).length=(fs.filter fun f=>decide (f<G)).length+if G∈fs then 1 else 0:=by
   have c1:∀ l:List Nat,l.Nodup→(l.filter fun f=>decide (f<G+1)).length=(l.filter fun f=>decide (f<G)).length+if G∈l then 1 else 0:=fun l=>by
    induction l with
    | nil=>intro _;rfl
    | cons x l ih =>
     intro nd
     have nx:=List.nodup_cons.mp nd
     have:=ih nx.2
     rw [List.filter_cons,List.filter_cons]
     by_cases a:x=G
     ·subst a
      have no:¬ x∈l:=nx.1
      rw [if_pos (by simp),if_neg (by simp),List.length_cons,this,if_neg no,if_pos (List.mem_cons_self ..)]
     ·by_cases b:x<G
      ·rw [if_pos (by simp;lia),if_pos (by simpa using b),List.length_cons,List.length_cons,this]
       by_cases d:G∈l
       ·rw [if_pos d,if_pos (List.mem_cons_of_mem _ d)]
       ·rw [if_neg d,if_neg (fun z=>(List.mem_cons.mp z).elim (fun z=>a z.symm) d)]
      ·rw [if_neg (by simp;lia),if_neg (by simpa using b),this]
       by_cases d:G∈l
       ·rw [if_pos d,if_pos (List.mem_cons_of_mem _ d)]
       ·rw [if_neg d,if_neg (fun z=>(List.mem_cons.mp z).elim (fun z=>a z.symm) d)]
   exact c1 fs nd
  rw [key]
  by_cases c:G∈fs
  ·rw [if_pos c,if_pos c,List.length_nil];lia
  ·rw [if_neg c,if_neg c,Z15];lia
theorem hds_len {G:Nat} {Rs:List (List Int)} {fs:List Nat} (h:RowsOk G Rs fs):Rs.length+(hdsL fs G).length=G:=by
 have nd:fs.Nodup:=List.pairwise_iff_getElem.mpr fun i j hi hj hij e=>by
  have:=h.inj (List.getElem?_eq_getElem hi) (by rw [List.getElem?_eq_getElem hj,e])
  lia
 have:=hds_count nd G
 rw [List.filter_eq_self.mpr fun f hf=>by
  obtain ⟨j,hj⟩:=List.mem_iff_getElem?.mp hf
  exact decide_eq_true (h.lt hj),h.n] at this
 lia
theorem rowsF_set (rows:List (List Int)) {k:Nat} (hk:k<rows.length) (r:List Int) (j i:Nat):rowsF (rows.set k r) j i=if j=k then r.getD i 0 else rowsF rows j i:=by
 unfold rowsF
 have e:(rows.set k r).getD j []=if j=k then r else rows.getD j []:=by
  rw [Z0,Z0,List.getElem?_set]
  by_cases c:k=j
  ·rw [if_pos c,if_pos c.symm,if_pos hk];rfl
  ·rw [if_neg c,if_neg (fun z=>c z.symm)]
 rw [e]
 split <;> rfl
structure RkOk (G:Nat) (rows:List (List Int)) (ρ col b:Nat):Prop where
 len:∀ r∈rows,r.length=G
 ind:IndF rows.length (rowsF rows)
 le:ρ≤rows.length
 low:∀ k,ρ≤k→k<rows.length→∀ i,i<col→rowsF rows k i=0
 bits:∀ k i,(rowsF rows k i).natAbs<2^b
theorem RkOk.skip {G:Nat} {rows:List (List Int)} {ρ col b:Nat} (h:RkOk G rows ρ col b) (z:∀ k,ρ≤k→k<rows.length→rowsF rows k col=0):RkOk G rows ρ (col+1) b:=⟨h.len,h.ind,h.le,fun k k1 k2 i hi=>by
 by_cases c:i=col
 ·rw [c];exact z k k1 k2
 ·exact h.low k k1 k2 i (by lia),h.bits⟩
theorem RkOk.swap {G:Nat} {rows:List (List Int)} {ρ col b:Nat} (h:RkOk G rows ρ col b) {a:Nat} (ha:ρ≤a) (al:a<rows.length):RkOk G ((rows.set a (rows.getD ρ [])).set ρ (rows.getD a [])) ρ col b:=by
 have rl:ρ<rows.length:=by lia
 have l1:(rows.set a (rows.getD ρ [])).length=rows.length:=List.length_set ..
 have e:∀ j i,rowsF ((rows.set a (rows.getD ρ [])).set ρ (rows.getD a [])) j i=if j=ρ then rowsF rows a i else if j=a then rowsF rows ρ i else rowsF rows j i:=fun j i=>by
  rw [rowsF_set _ (by rw [l1];exact rl),rowsF_set _ al]
  rfl
 have at':∀ k,k<rows.length→rows.getD k []∈rows:=fun k hk=>by
  rw [Z0,List.getElem?_eq_getElem hk]
  exact List.getElem_mem _
 refine ⟨fun r hr=>?_,?_,by rw [Z11,l1];exact h.le,fun k k1 k2 i hi=>?_,fun k i=>?_⟩
 ·rcases List.mem_or_eq_of_mem_set hr with y | y
  ·rcases List.mem_or_eq_of_mem_set y with w | w
   ·exact h.len r w
   ·rw [w];exact h.len _ (at' ρ rl)
  ·rw [y];exact h.len _ (at' a al)
 ·rw [Z11,l1]
  refine h.ind.swap rl al (fun i=>by rw [e,if_pos rfl]) (fun i=>?_) fun j j1 j2 i=>by rw [e,if_neg j1,if_neg j2]
  rw [e]
  by_cases c:a=ρ
  ·rw [if_pos c,c]
  ·rw [if_neg c,if_pos rfl]
 ·rw [Z11,l1] at k2
  rw [e]
  split
  ·exact h.low a ha al i hi
  ·split
   ·exact h.low ρ (Nat.le_refl _) rl i hi
   ·exact h.low k k1 k2 i hi
 ·rw [e]
  split
  ·exact h.bits ..
  ·split <;> exact h.bits ..
structure ClrOk (G:Nat) (rows:List (List Int)) (ρ col b k:Nat):Prop where
 len:∀ r∈rows,r.length=G
 ind:IndF rows.length (rowsF rows)
 lt:ρ<rows.length
 top:rowsF rows ρ col≠0
 low:∀ j,ρ≤j→j<rows.length→∀ i,i<col→rowsF rows j i=0
 clr:∀ j,ρ<j→j<k→rowsF rows j col=0
 bits:∀ j i,(rowsF rows j i).natAbs<2^(2*b+1)
 bit:∀ j,(j≤ρ∨k≤j)→∀ i,(rowsF rows j i).natAbs<2^b
theorem RkOk.clear {G:Nat} {rows:List (List Int)} {ρ col b:Nat} (h:RkOk G rows ρ col b) (lt:ρ<rows.length) (top:rowsF rows ρ col≠0):ClrOk G rows ρ col b (ρ+1):=⟨h.len,h.ind,lt,top,h.low,fun j h1 h2=>by lia,fun j i=>Nat.lt_of_lt_of_le (h.bits j i) (Nat.pow_le_pow_right (by decide) (by lia)),fun j _ i=>h.bits j i⟩
def mixR (G:Nat) (row top:List Int) (t b:Int):List Int:=(List.range G).map fun i=>row.getD i 0*t - top.getD i 0*b
theorem mixR_at {G:Nat} {row top:List Int} (h1:row.length=G) (h2:top.length=G) (t b:Int) (i:Nat):(mixR G row top t b).getD i 0=row.getD i 0*t - top.getD i 0*b:=by
 unfold mixR
 rw [Z0,Z6]
 by_cases c:i<G
 ·rw [List.getElem?_range c];rfl
 ·rw [List.getElem?_eq_none (by rw [Z2];lia),Z0,Z0,List.getElem?_eq_none (by lia),List.getElem?_eq_none (by lia)]
  show (0:Int)=0*t - 0*b
  rw [Z21,Z21];rfl
theorem ClrOk.step {G:Nat} {rows:List (List Int)} {ρ col b k:Nat} (h:ClrOk G rows ρ col b k) (hk:ρ<k) (kl:k<rows.length):ClrOk G (rows.set k (mixR G (rows.getD k []) (rows.getD ρ []) (rowsF rows ρ col) (rowsF rows k col))) ρ col b (k+1):=by
 have at':∀ k,k<rows.length→rows.getD k []∈rows:=fun k hk=>by
  rw [Z0,List.getElem?_eq_getElem hk]
  exact List.getElem_mem _
 have e:∀ j i,rowsF (rows.set k (mixR G (rows.getD k []) (rows.getD ρ []) (rowsF rows ρ col) (rowsF rows k col))) j i=if j=k then rowsF rows k i*rowsF rows ρ col - rowsF rows ρ i*rowsF rows k col else rowsF rows j i:=fun j i=>by
  rw [rowsF_set _ kl]
  split
  ·exact mixR_at (h.len _ (at' k kl)) (h.len _ (at' ρ h.lt)) _ _ i
  ·rfl
 have lt:=h.lt
 refine ⟨fun r hr=>?_,?_,by rw [Z11];exact lt,?_,fun j j1 j2 i hi=>?_,fun j j1 j2=>?_,fun j i=>?_,fun j hj i=>?_⟩
 ·rcases List.mem_or_eq_of_mem_set hr with y | y
  ·exact h.len r y
  ·rw [y];unfold mixR;rw [Z1,Z2]
 ·rw [Z11]
  exact h.ind.op kl lt (by lia) h.top (fun i=>by rw [e,if_pos rfl]) fun j hj i=>by rw [e,if_neg hj]
 ·rw [e,if_neg (by lia)]
  exact h.top
 ·rw [Z11] at j2
  rw [e]
  split
  ·rw [h.low k (by lia) kl i hi,h.low ρ (Nat.le_refl _) lt i hi,Z21,Z21];rfl
  ·exact h.low j j1 j2 i hi
 ·rw [e]
  split
  ·rw [Z28];exact Int.sub_self _
  ·exact h.clr j j1 (by lia)
 ·rw [e]
  split
  ·have a1:=Nat.mul_lt_mul'' (h.bit k (.inr (Nat.le_refl _)) i) (h.bit ρ (.inl (Nat.le_refl _)) col)
   have a2:=Nat.mul_lt_mul'' (h.bit ρ (.inl (Nat.le_refl _)) i) (h.bit k (.inr (Nat.le_refl _)) col)
   rw [←Nat.pow_add,←Int.natAbs_mul] at a1 a2
   have t:=Int.natAbs_sub_le (rowsF rows k i*rowsF rows ρ col) (rowsF rows ρ i*rowsF rows k col)
   rw [Nat.pow_succ,show 2*b=b+b by lia]
   lia
  ·exact h.bits j i
 ·rw [e,if_neg (by lia)]
  exact h.bit j (by lia) i
theorem ClrOk.done {G:Nat} {rows:List (List Int)} {ρ col b:Nat} (h:ClrOk G rows ρ col b rows.length):RkOk G rows (ρ+1) (col+1) (2*b+1):=⟨h.len,h.ind,h.lt,fun k k1 k2 i hi=>by
 by_cases c:i=col
 ·rw [c];exact h.clr k (by lia) k2
 ·exact h.low k (by lia) k2 i (by lia),h.bits⟩
theorem RkOk.mono {G:Nat} {rows:List (List Int)} {ρ col b c:Nat} (h:RkOk G rows ρ col b) (hb:b≤c):RkOk G rows ρ col c:=⟨h.len,h.ind,h.le,h.low,fun k i=>Nat.lt_of_lt_of_le (h.bits k i) (Nat.pow_le_pow_right (by decide) hb)⟩
theorem RkOk.done {G:Nat} {rows:List (List Int)} {ρ b:Nat} (h:RkOk G rows ρ G b):ρ=rows.length:=h.ind.full h.le fun k k1 k2 i=>by
 by_cases c:i<G
 ·exact h.low k k1 k2 i c
 ·have:(rows.getD k []).length=G:=h.len _ (by
   rw [Z0,List.getElem?_eq_getElem k2]
   exact List.getElem_mem _)
  unfold rowsF
  rw [List.getD_eq_getElem?_getD (l:=rows.getD k []),List.getElem?_eq_none (by lia)]
  rfl
theorem LsV.setRow {H:Hp} {p:Addr} {ps:List Addr} {ws:List (List Int)} (h:LsV H p ps ws) (k:Nat) {q:Addr} {w:List Int} (w1:∀ u∈ws,1≤u.length) (h1:1≤w.length) (hq:H q=some (.lst (w.map V.int))):LsV (upd H p (.lst ((ps.set k q).map V.ref))) p (ps.set k q) (ws.set k w):=⟨by rw [upd_same],by rw [Z11,Z11,h.n],fun j q' u hj hu=>by
 have hn:=h.n
 rw [List.getElem?_set] at hj hu
 by_cases c:k=j
 ·rw [if_pos c] at hj hu
  by_cases kl:k<ps.length
  ·rw [if_pos kl] at hj
   rw [if_pos (by lia)] at hu
   cases hj
   cases hu
   rw [upd_ne (kind_ne hq h1 h.l)]
   exact hq
  ·rw [if_neg kl] at hj
   cases hj
 ·rw [if_neg c] at hj hu
  have a:=h.e j q' u hj hu
  rw [upd_ne (kind_ne a (w1 u (List.mem_of_getElem? hu)) h.l)]
  exact a⟩
theorem chg_low {g:Int} (lo:Int) (g2:2≤g) {tab:List Int} (hb:∀ n∈tab,0≤n∧n<g) {m:Nat} (m1:1≤m) {ring:List Int} (hr:∀ x∈ring,0≤x∧x<g) (n1:1≤ring.length):chgL g lo tab m ring=chgL g 0 tab m ring:=by
 refine list_eq_getD (by rw [chgL_len,chgL_len]) fun s hs=>?_
 rw [chgL_len] at hs
 have d:=dot_low lo g2 hb m1 ((List.range g.toNat).map fun i=>if i=s then (1:Int) else 0) hr n1
 have u:∀ c:List Int,dot g.toNat ((List.range g.toNat).map fun i=>if i=s then (1:Int) else 0) c=c.getD s 0:=fun c=>by
  unfold dot
  rw [sumN_congr (g:=fun i=>if i=s then c.getD s 0 else 0) fun i hi=>?_,sum_only hs]
  rw [getD_map_range hi]
  by_cases y:i=s
  ·rw [if_pos y,if_pos y,y,Z23]
  ·rw [if_neg y,if_neg y,Z21]
 rw [u,u] at d
 exact d
theorem led_one (g:Int) (tab:List Int) {m:Nat} (m1:1≤m) {w:List Int} (wl:w.length=m):ledL g tab m w=[tab.getD (num g w).toNat 0]:=by
 unfold ledL
 rw [show w.length+1 - m=1 by lia]
 show [winS g tab m w 0]=_
 unfold winS
 rw [List.drop_zero,List.take_of_length_le (by lia)]
theorem gain_one {g:Int} (g2:2≤g) {tab:List Int} {m:Nat} (m1:1≤m) (tl:(tab.length:Int)=g^m) {ws:List Int} (wl:(ws.length:Int)=g) {n:Nat} (hn:n<tab.length):(gainL g tab m ws 1).getD n 0=ws.getD (tab.getD n 0).toNat 0 - ws.getD (n / (g^(m - 1)).toNat) 0:=by
 have gp:=RW.pow_pos g2 (m - 1)
 have e:(((g^(m - 1)).toNat*ws.length:Nat):Int)=g^m:=by rw [Z12,Int.toNat_of_nonneg (by lia),wl,←Z7,show (m - 1).succ=m by lia]
 unfold gainL
 rw [getD_map_range (by lia),show m+1 - 1=m by lia,led_one g tab m1 (wordL_len ..),num_wordL g2 (by lia) (by lia),Z5,num_one]
def datL (ws:List (List Int)):PyData:=.list (ws.map fun w=>.list (w.map PyData.int))
theorem dat_lists {K:PySem.W.Frag} {H:Hp}:∀ (ps:List Addr) (ws:List (List Int)),ps.length=ws.length→(∀ (i:Nat) (q:Addr) (w:List Int),ps[i]?=some q→ws[i]?=some w→H q=some (.lst (w.map V.int)))→DatAll K H (ps.map V.ref) (ws.map fun w=>.list (w.map PyData.int))
 | [],[],_,_=>.nil
 | [],w::ws,h,_=>by cases h
 | p::ps,[],h,_=>by cases h
 | p::ps,w::ws,h,e=>.cons (.lst (SqL.of (e 0 p w rfl rfl)) (dat_ints w)) (dat_lists ps ws (Nat.succ.inj h) fun i q u h1 h2=>e (i+1) q u h1 h2)
theorem LsV.dat {K:PySem.W.Frag} {H:Hp} {p:Addr} {ps:List Addr} {ws:List (List Int)} (h:LsV H p ps ws):DatV K H (.ref p) (datL ws):=.lst (SqL.of h.l) (dat_lists ps ws h.n h.e)
theorem lists_lay:∀ ws:List (List Int),PyData.canLayAll0 (ws.map fun w=>PyData.list (w.map PyData.int))=true
 | []=>by simp only [List.map_nil,PyData.canLayAll0]
 | w::ws=>by simp only [List.map_cons,PyData.canLayAll0,PyData.canLay0,lay_ints,lists_lay ws,Bool.and_self]
theorem datL_lay (ws:List (List Int)):(datL ws).canLay0=true:=by
 unfold datL
 simp only [PyData.canLay0,lists_lay]
theorem lists_depth:∀ ws:List (List Int),PyData.depthAll (ws.map fun w=>PyData.list (w.map PyData.int))≤1
 | []=>by simp only [List.map_nil,PyData.depthAll,Nat.zero_le]
 | w::ws=>by
  have:=lists_depth ws
  simp only [List.map_cons,PyData.depthAll,PyData.depth,ints_depth]
  lia
theorem datL_depth (ws:List (List Int)):(datL ws).depth≤60:=by
 have:=lists_depth ws
 unfold datL
 simp only [PyData.depth]
 lia
theorem datL_eqv (ws:List (List Int)):PyData.eqv (datL ws) (datL ws)=true:=SeqAt.eqvAll_refl _ (datL_lay ws)
theorem getRefAt {ps:List Addr} {k:Nat} {q:Addr} (h:ps[k]?=some q):atI (ps.map V.ref) ((k:Nat):Int)=some (.ref q):=by
 refine atI_nat ?_
 rw [Z6,h]
 rfl
theorem call_list_ofK {X:Cx} {K:PySem.W.Frag} (h:X.K=K):CallR X (.type "list") (fun xs H Q=>∃ p ys,xs=[.ref p]∧(SqL K H p ys∨SqT K H p ys)∧∀ l,H l=none→Q (.ref l) (upd H l (.lst ys))):=by
 subst h
 exact call_list_of
theorem kept_hds (G:Nat) (Rs:List (List Int)) (fs:List Nat) (k:Nat):keptL G Rs fs k=(hdsL fs k).map (headW G Rs fs):=rfl
end L2
local macro_rules | `(tactic| walk_at "rd")=>`(tactic| simp only [L2.cxOf_K,L2.tr_K,L2.hdl_K,L2.tSeq,L2.tNext,L2.tIfS,L2.tTry,L2.tTest,L2.tOp,L2.tUn,L2.tVar,L2.tC,L2.tRaise,L2.tCons,L2.tNil,L2.tLst,L2.tTup,L2.tAsg,L2.gName,L2.tDrop,L2.tBM,L2.tyV,L2.rAppend,L2.tRet,L2.tRetN,L2.tLRev,L2.tLRevT,L2.cxB_K,L2.tAll,L2.fvs,Option.join_some,L2.tTryR,L2.trN_K,L2.tCB,L2.tCall,L2.tCallX,L2.tModComp,L2.tRaiseI,L2.tNewX,L2.tXat,L2.sXat,L2.tLRange,L2.rIsiT,L2.isI,L2.rEqL,L2.rNeL,
 L2.tNot,L2.tAnd,L2.tOr,L2.tB,L2.tAndV,L2.tOrV,L2.tNotV,L2.rI,L2.rI0,L2.rU,L2.rIsi,L2.clsV,L2.tSl,L2.tPart,L2.tNoPart,L2.start,L2.CDiv,L2.CMul,L2.CPow,L2.rEq,L2.rNe,L2.scal,
 List.map_cons,List.map_nil,List.length_cons,List.length_nil,List.cons_append,List.nil_append,List.replicate,List.getElem?_cons_zero,List.getElem?_cons_succ,List.set_cons_zero,List.set_cons_succ,Nat.reduceAdd,Nat.reduceSub,
 Option.some.injEq,L2.V.int.injEq,L2.V.bl.injEq,L2.V.ref.injEq,L2.V.str.injEq,List.cons.injEq,and_true,true_and,exists_eq_left',exists_eq_left,exists_eq_right,exists_and_left,exists_and_right,exists_eq,and_assoc,if_true,if_false,reduceIte,reduceCtorEq,not_true_eq_false,not_false_eq_true,Bool.false_eq_true,Bool.not_true,Bool.not_false,decide_eq_true_eq,Bool.not_eq_true',decide_eq_false_iff_not])
local macro_rules | `(tactic| walk_at "st0")=>`(tactic| simp only [L2.cxOf_K,L2.tr_K,L2.hdl_K,L2.tNext,L2.tTest,L2.tOp,L2.tUn,L2.tVar,L2.tC,L2.tRaise,L2.tCons,L2.tNil,L2.tLst,L2.tTup,L2.tAsg,L2.gName,L2.tDrop,L2.tBM,L2.tyV,L2.rAppend,L2.tRet,L2.tRetN,L2.tLRev,L2.tLRevT,L2.cxB_K,L2.tAll,L2.fvs,Option.join_some,L2.trN_K,L2.tCB,L2.tCall,L2.tCallX,L2.tModComp,L2.tRaiseI,L2.tNewX,L2.tXat,L2.sXat,L2.tLRange,L2.rIsiT,L2.isI,L2.rEqL,L2.rNeL,
 L2.tNot,L2.tAnd,L2.tOr,L2.tB,L2.tAndV,L2.tOrV,L2.tNotV,L2.rI,L2.rI0,L2.rU,L2.rIsi,L2.clsV,L2.tSl,L2.tPart,L2.tNoPart,L2.start,L2.CDiv,L2.CMul,L2.CPow,L2.rEq,L2.rNe,L2.scal,
 List.map_cons,List.map_nil,List.length_cons,List.length_nil,List.cons_append,List.nil_append,List.replicate,List.getElem?_cons_zero,List.getElem?_cons_succ,List.set_cons_zero,List.set_cons_succ,Nat.reduceAdd,Nat.reduceSub,
 Option.some.injEq,L2.V.int.injEq,L2.V.bl.injEq,L2.V.ref.injEq,L2.V.str.injEq,List.cons.injEq,and_true,true_and,exists_eq_left',exists_eq_left,exists_eq_right,exists_and_left,exists_and_right,exists_eq,and_assoc,if_true,if_false,reduceIte,reduceCtorEq,not_true_eq_false,not_false_eq_true,Bool.false_eq_true,Bool.not_true,Bool.not_false,decide_eq_true_eq,Bool.not_eq_true',decide_eq_false_iff_not])
local macro_rules | `(tactic| walk_at "st")=>`(tactic| ((try dsimp only);rw [L2.tSeq_step];simp only [L2.cxOf_K,L2.tr_K,L2.hdl_K,L2.tNext,L2.tTest,L2.tOp,L2.tUn,L2.tVar,L2.tC,L2.tRaise,L2.tCons,L2.tNil,L2.tLst,L2.tTup,L2.tAsg,L2.gName,L2.tDrop,L2.tBM,L2.tyV,L2.rAppend,L2.tRet,L2.tRetN,L2.tLRev,L2.tLRevT,L2.cxB_K,L2.tAll,L2.fvs,Option.join_some,L2.trN_K,L2.tCB,L2.tCall,L2.tCallX,L2.tModComp,L2.tRaiseI,L2.tNewX,L2.tXat,L2.sXat,L2.tLRange,L2.rIsiT,L2.isI,L2.rEqL,L2.rNeL,
 L2.tNot,L2.tAnd,L2.tOr,L2.tB,L2.tAndV,L2.tOrV,L2.tNotV,L2.rI,L2.rI0,L2.rU,L2.rIsi,L2.clsV,L2.tSl,L2.tPart,L2.tNoPart,L2.start,L2.CDiv,L2.CMul,L2.CPow,L2.rEq,L2.rNe,L2.scal,
 List.map_cons,List.map_nil,List.length_cons,List.length_nil,List.cons_append,List.nil_append,List.replicate,List.getElem?_cons_zero,List.getElem?_cons_succ,List.set_cons_zero,List.set_cons_succ,Nat.reduceAdd,Nat.reduceSub,
 Option.some.injEq,L2.V.int.injEq,L2.V.bl.injEq,L2.V.ref.injEq,L2.V.str.injEq,List.cons.injEq,and_true,true_and,exists_eq_left',exists_eq_left,exists_eq_right,exists_and_left,exists_and_right,exists_eq,and_assoc,if_true,if_false,reduceIte,reduceCtorEq,not_true_eq_false,not_false_eq_true,Bool.false_eq_true,Bool.not_true,Bool.not_false,decide_eq_true_eq,Bool.not_eq_true',decide_eq_false_iff_not]))
namespace K65
open PySem L2 RW
def top (i:Nat):Stmt:=PySem.Challenge.pw_rowrules_k65_all_that_is_kept.main.body.getD i (.Pass ⟨0,0,0,0⟩)
abbrev s_4:Stmt:=inClass (top 3) 0
abbrev s_46:Stmt:=top 9
abbrev s_51:Stmt:=top 10
abbrev s_27:Stmt:=top 11
abbrev s_9:Stmt:=top 12
abbrev s_39:Stmt:=top 13
abbrev s_53:Stmt:=top 14
abbrev s_26:Stmt:=top 17
abbrev s_29:Stmt:=top 18
abbrev s_11:Stmt:=top 19
abbrev s_15:Stmt:=top 20
abbrev s_65:Stmt:=top 21
abbrev s_58:Stmt:=top 22
abbrev s_38:Stmt:=top 23
abbrev s_62:Stmt:=top 24
abbrev s_56:Stmt:=top 26
abbrev s_43:Stmt:=top 27
abbrev s_3:Stmt:=top 28
abbrev s_35:Stmt:=top 29
abbrev s_57:Stmt:=top 30
abbrev s_52:Stmt:=top 31
abbrev s_61:Stmt:=top 34
abbrev s_64:Stmt:=top 36
abbrev s_37:Stmt:=top 37
abbrev s_36:Stmt:=top 39
abbrev s_10:Stmt:=top 40
abbrev s_1:Stmt:=top 41
abbrev s_47:Stmt:=top 42
abbrev s_63:Stmt:=top 43
abbrev s_50:Stmt:=top 44
abbrev s_2:Stmt:=top 45
abbrev s_0:Stmt:=top 46
abbrev s_42:Stmt:=top 47
abbrev s_49:Stmt:=top 48
abbrev s_5:Stmt:=top 51
abbrev s_17:Stmt:=top 52
abbrev s_28:Stmt:=top 53
abbrev s_45:Stmt:=top 54
abbrev s_6:Stmt:=top 55
abbrev s_44:Stmt:=top 56
abbrev s_16:Stmt:=top 57
abbrev s_60:Stmt:=top 58
abbrev s_25:Stmt:=top 60
abbrev s_7:Stmt:=top 61
abbrev s_14:Stmt:=top 62
abbrev s_22:Stmt:=top 63
abbrev s_20:Stmt:=top 64
abbrev s_24:Stmt:=top 65
abbrev s_34:Stmt:=top 66
abbrev s_19:Stmt:=top 67
abbrev s_32:Stmt:=top 68
abbrev s_31:Stmt:=top 69
abbrev s_13:Stmt:=top 70
abbrev s_21:Stmt:=top 71
abbrev s_18:Stmt:=top 72
abbrev s_12:Stmt:=top 73
abbrev s_33:Stmt:=top 74
abbrev s_23:Stmt:=top 75
abbrev s_8:Stmt:=top 76
abbrev s_66:Stmt:=top 77
structure Adr where
 (c_41 c_54 c_59 c_55 c_40 c_48 c_30:Addr)
 (f_4 f_46 f_51 f_27 f_9 f_39 f_53 f_26 f_29 f_11 f_15 f_65 f_58 f_38 f_62 f_56 f_43 f_3 f_35 f_57 f_52 f_61 f_64 f_37 f_36 f_10 f_1 f_47 f_63 f_50 f_2 f_0 f_42 f_49 f_5 f_17 f_28 f_45 f_6 f_44 f_16 f_60 f_25 f_7 f_14 f_22 f_20 f_24 f_34 f_19 f_32 f_31 f_13 f_21 f_18 f_12 f_33 f_23 f_8 f_66:Addr)
structure Txt (K:PySem.W.Frag) (mg:Str→Option Value) (t:Adr):Prop where
 m_41:mg "RowError"=some (.ref t.c_41)
 m_54:mg "NoRule"=some (.ref t.c_54)
 m_59:mg "NoRow"=some (.ref t.c_59)
 m_55:mg "NoSuch"=some (.ref t.c_55)
 m_40:mg "NoWindow"=some (.ref t.c_40)
 m_48:mg "TooWide"=some (.ref t.c_48)
 m_30:mg "NoWeights"=some (.ref t.c_30)
 d_4:∃ fd,Fun K "__init__" "NoRow.__init__" s_4 t.f_4 fd
 m_46:mg "is_whole"=some (.ref t.f_46)
 d_46:∃ fd,Fun K "is_whole" "is_whole" s_46 t.f_46 fd
 m_51:mg "is_sign"=some (.ref t.f_51)
 d_51:∃ fd,Fun K "is_sign" "is_sign" s_51 t.f_51 fd
 m_27:mg "check_word"=some (.ref t.f_27)
 d_27:∃ fd,Fun K "check_word" "check_word" s_27 t.f_27 fd
 m_9:mg "check_length"=some (.ref t.f_9)
 d_9:∃ fd,Fun K "check_length" "check_length" s_9 t.f_9 fd
 m_39:mg "number_of"=some (.ref t.f_39)
 d_39:∃ fd,Fun K "number_of" "number_of" s_39 t.f_39 fd
 m_53:mg "word_of"=some (.ref t.f_53)
 d_53:∃ fd,Fun K "word_of" "word_of" s_53 t.f_53 fd
 m_26:mg "check_head"=some (.ref t.f_26)
 d_26:∃ fd,Fun K "check_head" "check_head" s_26 t.f_26 fd
 m_29:mg "places_for"=some (.ref t.f_29)
 d_29:∃ fd,Fun K "places_for" "places_for" s_29 t.f_29 fd
 m_11:mg "table_length"=some (.ref t.f_11)
 d_11:∃ fd,Fun K "table_length" "table_length" s_11 t.f_11 fd
 m_15:mg "check_table"=some (.ref t.f_15)
 d_15:∃ fd,Fun K "check_table" "check_table" s_15 t.f_15 fd
 m_65:mg "rule"=some (.ref t.f_65)
 d_65:∃ fd,Fun K "rule" "rule" s_65 t.f_65 fd
 m_58:mg "places"=some (.ref t.f_58)
 d_58:∃ fd,Fun K "places" "places" s_58 t.f_58 fd
 m_38:mg "next_sign"=some (.ref t.f_38)
 d_38:∃ fd,Fun K "next_sign" "next_sign" s_38 t.f_38 fd
 m_62:mg "heads"=some (.ref t.f_62)
 d_62:∃ fd,Fun K "heads" "heads" s_62 t.f_62 fd
 m_56:mg "counts"=some (.ref t.f_56)
 d_56:∃ fd,Fun K "counts" "counts" s_56 t.f_56 fd
 m_43:mg "counting"=some (.ref t.f_43)
 d_43:∃ fd,Fun K "counting" "counting" s_43 t.f_43 fd
 m_3:mg "sign_or_nought"=some (.ref t.f_3)
 d_3:∃ fd,Fun K "sign_or_nought" "sign_or_nought" s_3 t.f_3 fd
 m_35:mg "by_window"=some (.ref t.f_35)
 d_35:∃ fd,Fun K "by_window" "by_window" s_35 t.f_35 fd
 m_57:mg "narrow"=some (.ref t.f_57)
 d_57:∃ fd,Fun K "narrow" "narrow" s_57 t.f_57 fd
 m_52:mg "widened"=some (.ref t.f_52)
 d_52:∃ fd,Fun K "widened" "widened" s_52 t.f_52 fd
 m_61:mg "frame"=some (.ref t.f_61)
 d_61:∃ fd,Fun K "frame" "frame" s_61 t.f_61 fd
 m_64:mg "lead"=some (.ref t.f_64)
 d_64:∃ fd,Fun K "lead" "lead" s_64 t.f_64 fd
 m_37:mg "lead_ring"=some (.ref t.f_37)
 d_37:∃ fd,Fun K "lead_ring" "lead_ring" s_37 t.f_37 fd
 m_36:mg "change_of"=some (.ref t.f_36)
 d_36:∃ fd,Fun K "change_of" "change_of" s_36 t.f_36 fd
 m_10:mg "rings_to_ask"=some (.ref t.f_10)
 d_10:∃ fd,Fun K "rings_to_ask" "rings_to_ask" s_10 t.f_10 fd
 m_1:mg "common_divisor"=some (.ref t.f_1)
 d_1:∃ fd,Fun K "common_divisor" "common_divisor" s_1 t.f_1 fd
 m_47:mg "simplest"=some (.ref t.f_47)
 d_47:∃ fd,Fun K "simplest" "simplest" s_47 t.f_47 fd
 m_63:mg "foot"=some (.ref t.f_63)
 d_63:∃ fd,Fun K "foot" "foot" s_63 t.f_63 fd
 m_50:mg "cleared"=some (.ref t.f_50)
 d_50:∃ fd,Fun K "cleared" "cleared" s_50 t.f_50 fd
 m_2:mg "rings_and_rows"=some (.ref t.f_2)
 d_2:∃ fd,Fun K "rings_and_rows" "rings_and_rows" s_2 t.f_2 fd
 m_0:mg "weights_with_head"=some (.ref t.f_0)
 d_0:∃ fd,Fun K "weights_with_head" "weights_with_head" s_0 t.f_0 fd
 m_42:mg "all_kept"=some (.ref t.f_42)
 d_42:∃ fd,Fun K "all_kept" "all_kept" s_42 t.f_42 fd
 m_49:mg "changes"=some (.ref t.f_49)
 d_49:∃ fd,Fun K "changes" "changes" s_49 t.f_49 fd
 m_5:mg "check_weights"=some (.ref t.f_5)
 d_5:∃ fd,Fun K "check_weights" "check_weights" s_5 t.f_5 fd
 m_17:mg "gain_places"=some (.ref t.f_17)
 d_17:∃ fd,Fun K "gain_places" "gain_places" s_17 t.f_17 fd
 m_28:mg "many_gains"=some (.ref t.f_28)
 d_28:∃ fd,Fun K "many_gains" "many_gains" s_28 t.f_28 fd
 m_45:mg "gains_by"=some (.ref t.f_45)
 d_45:∃ fd,Fun K "gains_by" "gains_by" s_45 t.f_45 fd
 m_6:mg "checked_gains"=some (.ref t.f_6)
 d_6:∃ fd,Fun K "checked_gains" "checked_gains" s_6 t.f_6 fd
 m_44:mg "flows_by"=some (.ref t.f_44)
 d_44:∃ fd,Fun K "flows_by" "flows_by" s_44 t.f_44 fd
 m_16:mg "first_wrong"=some (.ref t.f_16)
 d_16:∃ fd,Fun K "first_wrong" "first_wrong" s_16 t.f_16 fd
 m_60:mg "flows"=some (.ref t.f_60)
 d_60:∃ fd,Fun K "flows" "flows" s_60 t.f_60 fd
 m_25:mg "_law_whole"=some (.ref t.f_25)
 d_25:∃ fd,Fun K "_law_whole" "_law_whole" s_25 t.f_25 fd
 m_7:mg "_law_cell_at"=some (.ref t.f_7)
 d_7:∃ fd,Fun K "_law_cell_at" "_law_cell_at" s_7 t.f_7 fd
 m_14:mg "_law_stream"=some (.ref t.f_14)
 d_14:∃ fd,Fun K "_law_stream" "_law_stream" s_14 t.f_14 fd
 m_22:mg "_law_power"=some (.ref t.f_22)
 d_22:∃ fd,Fun K "_law_power" "_law_power" s_22 t.f_22 fd
 m_20:mg "_law_going"=some (.ref t.f_20)
 d_20:∃ fd,Fun K "_law_going" "_law_going" s_20 t.f_20 fd
 m_24:mg "_law_table"=some (.ref t.f_24)
 d_24:∃ fd,Fun K "_law_table" "_law_table" s_24 t.f_24 fd
 m_34:mg "_law_rule"=some (.ref t.f_34)
 d_34:∃ fd,Fun K "_law_rule" "_law_rule" s_34 t.f_34 fd
 m_19:mg "_law_frame"=some (.ref t.f_19)
 d_19:∃ fd,Fun K "_law_frame" "_law_frame" s_19 t.f_19 fd
 m_32:mg "_law_list"=some (.ref t.f_32)
 d_32:∃ fd,Fun K "_law_list" "_law_list" s_32 t.f_32 fd
 m_31:mg "_law_head"=some (.ref t.f_31)
 d_31:∃ fd,Fun K "_law_head" "_law_head" s_31 t.f_31 fd
 m_13:mg "_law_simple"=some (.ref t.f_13)
 d_13:∃ fd,Fun K "_law_simple" "_law_simple" s_13 t.f_13 fd
 m_21:mg "_law_heads"=some (.ref t.f_21)
 d_21:∃ fd,Fun K "_law_heads" "_law_heads" s_21 t.f_21 fd
 m_18:mg "_law_flows"=some (.ref t.f_18)
 d_18:∃ fd,Fun K "_law_flows" "_law_flows" s_18 t.f_18 fd
 m_12:mg "_law_change"=some (.ref t.f_12)
 d_12:∃ fd,Fun K "_law_change" "_law_change" s_12 t.f_12 fd
 m_33:mg "_law_rank"=some (.ref t.f_33)
 d_33:∃ fd,Fun K "_law_rank" "_law_rank" s_33 t.f_33 fd
 m_23:mg "_law_rings"=some (.ref t.f_23)
 d_23:∃ fd,Fun K "_law_rings" "_law_rings" s_23 t.f_23 fd
 m_8:mg "_law_refused"=some (.ref t.f_8)
 d_8:∃ fd,Fun K "_law_refused" "_law_refused" s_8 t.f_8 fd
 m_66:mg "law"=some (.ref t.f_66)
 d_66:∃ fd,Fun K "law" "law" s_66 t.f_66 fd
 z_len:mg "len"=none
 z_list:mg "list"=none
 z_reversed:mg "reversed"=none
 z_isinstance:mg "isinstance"=none
 z_range:mg "range"=none
 z_int:mg "int"=none
 z_bool:mg "bool"=none
 z_ValueError:mg "ValueError"=none
 z_tuple:mg "tuple"=none
 z_enumerate:mg "enumerate"=none
 z_min:mg "min"=none
 z_max:mg "max"=none
 z_sum:mg "sum"=none
 z_abs:mg "abs"=none
 z_any:mg "any"=none
 z_zip:mg "zip"=none
 g_LONGEST_TABLE:∃ k,mg "LONGEST_TABLE"=some (.int 256 k)
 g_MOST_NODES:∃ k,mg "MOST_NODES"=some (.int 9 k)
 g_MOST_GAINS:∃ k,mg "MOST_GAINS"=some (.int 729 k)
 x_54:PySem.W.excIn K t.c_54 bmVE "ValueError.__new__"=true
 x_55:PySem.W.excIn K t.c_55 bmVE "ValueError.__new__"=true
 x_40:PySem.W.excIn K t.c_40 bmVE "ValueError.__new__"=true
 x_48:PySem.W.excIn K t.c_48 bmVE "ValueError.__new__"=true
 x_30:PySem.W.excIn K t.c_30 bmVE "ValueError.__new__"=true
 xm_59:XMk K t.c_59 t.f_4
 ek_59:ExcK K t.c_59
 ek_48:ExcK K t.c_48
 xa_NoRow_at:XA K t.c_59 t.c_41 "at"
 kt_48_48:PySem.W.kitOne K (.ref t.c_48) (.ref t.c_48)=some true
 kt_TooWide_ValueError:PySem.W.kitOne K (.ref t.c_48) (.type "ValueError")=some true
 kt_48_54:PySem.W.kitOne K (.ref t.c_48) (.ref t.c_54)=some false
 kt_48_30:PySem.W.kitOne K (.ref t.c_48) (.ref t.c_30)=some false
 em_48_41:PySem.W.exmOne K (.ref t.c_48) (.ref t.c_41)=some true
theorem pow_ge2 {g:Int} (hg:2≤g):∀ k:Nat,(2:Int)^k≤g^k
 | 0=>by rw [Z13,Z13];exact Int.le_refl _
 | k+1=>by
  have a:=pow_ge2 hg k
  have b:=Int.mul_le_mul a hg (by decide) (Int.le_of_lt (RW.pow_pos hg k))
  rw [Z7,Z7]
  exact b
theorem go66 {g:Int} (g2:2≤g) {G:Nat} (hG:(G:Int)=g) {gl:List Int} (gb:∀ j,j<G*G→0≤gl.getD j 0∧gl.getD j 0≤((j / G:Nat):Int)∧gl.getD j 0≤g - 1 - ((j%G:Nat):Int)) {tab:List Int} (ht:tab=(List.range (G*G*G)).map fun k:Nat=>((k / G%G:Nat):Int) - gl.getD (k%(G*G)) 0+gl.getD (k / G) 0) :
  (tab.length:Int)=g^3∧(∀ n∈tab,0≤n∧n<g):=by
 have G0:0<G:=by lia
 have g3:g^3=((G*G*G:Nat):Int):=by
  rw [show (3:Nat)=0+1+1+1 from rfl,Z7,Z7,Z7,Z13,Z23,←hG,Z12,Z12]
 refine ⟨by rw [ht,Z1,Z2,g3],fun n hn=>?_⟩
 ·rw [ht] at hn
  obtain ⟨k,hk,rfl⟩:=List.mem_map.mp hn
  have kl:=List.mem_range.mp hk
  have m1:k%(G*G)<G*G:=Nat.mod_lt _ (Nat.mul_pos G0 G0)
  have m2:k / G<G*G:=Nat.div_lt_of_lt_mul (by rw [Nat.mul_comm];exact kl)
  have p:=gb _ m1
  have r:=gb _ m2
  have e:k%(G*G) / G=k / G%G:=Nat.mod_mul_right_div_self ..
  rw [e] at p
  have bl:k / G%G<G:=Nat.mod_lt _ G0
  lia
def spGoing66:Sp:=fun vs H Q _=>∃ (g:Int) (px:Addr) (xs:List Int),vs=[.int g,.ref px]∧2≤g∧g≤3∧H px=some (.lst (xs.map V.int))∧g*g≤(xs.length:Int)∧∀ p H' tab,NewL H H' p tab→(tab.length:Int)=g^3→(∀ n∈tab,0≤n∧n<g)→Q (.ref p) H'
def low62 (g:Int):Int:=([0,0,0,0,2,0,3,0,4,3]:List Int).getD g.toNat 0
def in62 (g:Int):Prop:=g=4∨g=6∨g=8∨g=9
theorem low62_is {g:Int} (h:in62 g):2≤low62 g∧low62 g≤4∧low62 g*(g / low62 g)=g∧g / low62 g≤3∧2≤g∧g≤9:=by
 obtain rfl | rfl | rfl | rfl:=h
 all_goals exact ⟨by decide,by decide,by decide,by decide,by decide,by decide⟩
def TrP (g:Int) (tab:List Int):Prop:=∀ a b:Int,0≤a→a<g→0≤b→b<g→tab.getD (num g [a,b]).toNat 0=b / low62 g*low62 g+a%low62 g
theorem tr_ok {g:Int} (h:in62 g) {tab:List Int} (ht:tab=(List.range (g*g).toNat).map fun k:Nat=>(k:Int)%g / low62 g*low62 g+(k:Int) / g%low62 g) :
  (tab.length:Int)=g^2∧(∀ n∈tab,0≤n∧n<g)∧TrP g tab:=by
 obtain ⟨l2,l4,lg,q3,g2,g9⟩:=low62_is h
 have gg:0≤g*g:=Int.mul_nonneg (by lia) (by lia)
 have bd:∀ a b:Int,0≤b→b<g→0≤b / low62 g*low62 g+a%low62 g∧b / low62 g*low62 g+a%low62 g<g:=fun a b b0 b1=>by
  have a0:=Int.emod_nonneg a (show low62 g≠0 by lia)
  have a1:=Int.emod_lt_of_pos a (show 0<low62 g by lia)
  have d0:=Int.ediv_nonneg b0 (show 0≤low62 g by lia)
  have d1:b / low62 g<g / low62 g:=by
   refine Int.ediv_lt_of_lt_mul (by lia) ?_
   rw [Z28,lg]
   exact b1
  have m1:=Int.mul_le_mul_of_nonneg_right (show b / low62 g+1≤g / low62 g by lia) (show 0≤low62 g by lia)
  have m0:=Int.mul_nonneg d0 (show 0≤low62 g by lia)
  rw [Int.add_mul,Z23,Int.mul_comm (g / low62 g),lg] at m1
  lia
 refine ⟨?_,fun n hn=>?_,fun a b a0 a1 b0 b1=>?_⟩
 ·rw [ht,Z1,Z2,show (2:Nat)=0+1+1 from rfl,Z7,Z7,Z13,Z23]
  omega
 ·rw [ht] at hn
  obtain ⟨k,hk,rfl⟩:=List.mem_map.mp hn
  exact bd _ _ (Int.emod_nonneg _ (by lia)) (Int.emod_lt_of_pos _ (by lia))
 ·have e:num g [a,b]=a*g+b:=by
   show (0*g+a)*g+b=_
   rw [Z21,Z8]
  have m0:=Int.mul_nonneg a0 (show 0≤g by lia)
  have m1:=Int.mul_le_mul_of_nonneg_right (show a+1≤g by lia) (show 0≤g by lia)
  rw [Int.add_mul,Z23] at m1
  rw [ht,getD_map_range (by lia),e,Int.toNat_of_nonneg (by lia)]
  have x1:(a*g+b)%g=b:=by rw [Int.add_comm,Int.add_mul_emod_self_right,Int.emod_eq_of_lt b0 b1]
  have x2:(a*g+b) / g=a:=by rw [Int.add_comm,Int.add_mul_ediv_right _ _ (by lia),Int.ediv_eq_zero_of_lt b0 b1,Z8]
  rw [x1,x2]
theorem in62_dec {g:Int} (g2:2≤g) (g9:g≤9):inV (V.int g) [V.int 4,V.int 6,V.int 8,V.int 9]=true↔in62 g:=by
 obtain rfl | rfl | rfl | rfl | rfl | rfl | rfl | rfl:g=2∨g=3∨g=4∨g=5∨g=6∨g=7∨g=8∨g=9:=by lia
 all_goals
  constructor
  ·intro h
   first | exact absurd h (by decide) | exact .inl rfl | exact .inr (.inl rfl) | exact .inr (.inr (.inl rfl)) | exact .inr (.inr (.inr rfl))
  ·intro h
   first | rfl | (exfalso;unfold in62 at h;lia)
theorem lowat {g:Int} (h:in62 g):atI [V.int 0,V.int 0,V.int 0,V.int 0,V.int 2,V.int 0,V.int 3,V.int 0,V.int 4,V.int 3] g=some (V.int (low62 g)):=by
 obtain rfl | rfl | rfl | rfl:=h
 all_goals rfl
theorem cut62 {xs:List Int} {z:Int} (z0:0≤z) (h:1+z≤(xs.length:Int)):((cutI xs (some 1) (some (1+z))).length:Int)=z:=by
 have ea:HT.sIx xs.length 0 (some 1)=min 1 xs.length:=rfl
 have eb:HT.sIx xs.length xs.length (some (1+z))=min (1+z).toNat xs.length:=if_neg (by lia)
 unfold cutI
 rw [ea,eb,Z16,Z25]
 lia
def cntD (G:Nat) (A B:List Int):List Int:=(List.range G).map fun s:Nat=>((A.count (s:Int):Nat):Int) - ((B.count (s:Int):Nat):Int)
theorem cntD_len (G:Nat) (A B:List Int):(cntD G A B).length=G:=by unfold cntD;rw [Z1,Z2]
theorem cntD_at {G:Nat} (A B:List Int) {s:Nat} (h:s<G):(cntD G A B).getD s 0=((A.count (s:Int):Nat):Int) - ((B.count (s:Int):Nat):Int):=by
 unfold cntD
 rw [Z0,Z6,List.getElem?_range h]
 rfl
theorem getD_ext66 {a b:List Int} (hl:a.length=b.length) (h:∀ i,i<a.length→a.getD i 0=b.getD i 0):a=b:=by
 refine List.ext_getElem hl fun i h1 h2=>?_
 have:=h i h1
 rw [Z0,List.getElem?_eq_getElem h1,Z0,List.getElem?_eq_getElem h2] at this
 exact this
theorem count_snoc66 (A:List Int) (t s:Nat):(A++[(t:Int)]).count (s:Int)=A.count (s:Int)+if s=t then 1 else 0:=by
 rw [List.count_append,List.count_cons,List.count_nil,Nat.zero_add]
 by_cases c:s=t
 ·rw [if_pos c,if_pos (by rw [c];exact beq_self_eq_true _)]
 ·rw [if_neg c,if_neg (by rw [beq_iff_eq];lia)]
theorem cntD_step {G:Nat} (A B:List Int) {t u:Nat} (ht:t<G) (hu:u<G) {x y:Int} (hx:x=(cntD G A B).getD t 0+1) (hy:y=((cntD G A B).set t x).getD u 0 - 1):((cntD G A B).set t x).set u y=cntD G (A++[(t:Int)]) (B++[(u:Int)]):=by
 have l0:=cntD_len G A B
 have l1:((cntD G A B).set t x).length=G:=by rw [Z11];exact l0
 refine getD_ext66 (by rw [Z11,l1,cntD_len]) fun i hi=>?_
 rw [Z11,l1] at hi
 rw [cntD_at _ _ hi,count_snoc66,count_snoc66,getD_set _ _ _ _ (by lia),hy,getD_set _ _ _ _ (by lia),getD_set _ _ _ _ (by lia),hx]
 by_cases c:i=u
 ·by_cases d:u=t
  ·rw [if_pos c,if_pos d,if_pos c,if_pos (by lia),cntD_at _ _ ht,c,d]
   lia
  ·rw [if_pos c,if_neg d,if_pos c,if_neg (by lia),cntD_at _ _ hu,c]
   lia
 ·rw [if_neg c,if_neg c]
  by_cases d:i=t
  ·rw [if_pos d,if_pos d,cntD_at _ _ ht,d]
   lia
  ·rw [if_neg d,if_neg d,cntD_at _ _ hi]
   lia
def spStreamB:Sp:=fun vs H Q _=>∃ c m:Int,vs=[.int c,.int m]∧0≤m∧m≤300∧∀ (r:Addr) (H':Hp) (l:List Int),l.length=m.toNat→(∀ x∈l,0≤x∧x<2147483647)→Same H H'→H r=none→H' r=some (.lst (l.map V.int))→Q (.ref r) H'
def spFlowsN (CT CW:Addr):Sp:=fun vs H Q E=>∃ (r:Addr) (g lo:Int) (tab:List Int) (m:Nat) (lf:Int) (tf:List Int) (mf:Nat) (z:V),vs=[.ref r,z]∧RuleOk H r g lo tab m∧FrameW g lo tab m lf tf mf∧TabKd H z∧ChkW CT CW g mf z H E fun w ws mw=>(rightW g.toNat (gainL g tf mf ws mw) (flowsL g.toNat (gainL g tf mf ws mw))→∀ p H',NewL H H' p (flowsL g.toNat (gainL g tf mf ws mw))→Q (.ref p) H')∧(¬ rightW g.toNat (gainL g tf mf ws mw) (flowsL g.toNat (gainL g tf mf ws mw))→∀ H',Same H H'→Q .non H')
theorem m62 {g:Int} (g2:2≤g) (z:g<4):∃ x:Int,atI [V.int 0,V.int 0,V.int 4,V.int 3] g=some (V.int x)∧1≤x∧∀ M:Nat,1≤M→(M:Int)≤x→g^M≤81∧g^(max 2 M - 1)≤9∧M≤4:=by
 obtain rfl | rfl:g=2∨g=3:=by lia
 ·refine ⟨4,rfl,by decide,fun M h1 h2=>?_⟩
  obtain rfl | rfl | rfl | rfl:M=1∨M=2∨M=3∨M=4:=by lia
  all_goals exact ⟨by decide,by decide,by decide⟩
 ·refine ⟨3,rfl,by decide,fun M h1 h2=>?_⟩
  obtain rfl | rfl | rfl:M=1∨M=2∨M=3:=by lia
  all_goals exact ⟨by decide,by decide,by decide⟩
theorem wide_first {g:Int} (g2:2≤g) (lo:Int) {tab:List Int} {m:Nat} (tl:(tab.length:Int)=g^m):(((List.replicate g.toNat tab).flatten.length:Nat):Int)=g^(m+1)∧AlikeR g lo (List.replicate g.toNat tab).flatten (m+1) (lo+1) tab m:=by
 have gn:((g.toNat:Nat):Int)=g:=by lia
 have L:(List.replicate g.toNat tab).flatten.length=tab.length*g.toNat:=by rw [rep_len,Nat.mul_comm]
 have hl:(((List.replicate g.toNat tab).flatten.length:Nat):Int)=g^(m+1):=by rw [L,Z12,tl,gn,Z7]
 have tk:(List.replicate g.toNat tab).flatten.take tab.length=tab:=by
  obtain ⟨k,hk⟩:∃ k,g.toNat=k+1:=⟨g.toNat - 1,by lia⟩
  rw [hk,Z24,List.flatten_cons,List.take_left]
 have a:=cut_first g2 lo hl tl ((first_rep L (by lia)).mp (by rw [tk]))
 rw [tk] at a
 exact ⟨hl,a.symm⟩
theorem FrameW.congr {g:Int} (hg:2≤g) {lo:Int} {tab:List Int} {m:Nat} (hl:(tab.length:Int)=g^m) {lo0:Int} {tab0:List Int} {m0:Nat} (hl0:(tab0.length:Int)=g^m0) (al:AlikeR g lo tab m lo0 tab0 m0) {lf:Int} {tf:List Int} {mf:Nat} (fw:FrameW g lo0 tab0 m0 lf tf mf):FrameW g lo tab m lf tf mf:=by
 obtain ⟨low0,M0,n0,rfl,z⟩:=fw
 obtain ⟨low,M,n⟩:=nar_ex g lo tab m
 obtain ⟨rfl,rfl,e⟩:=nar_alike27 hg hl hl0 al n n0
 refine ⟨_,_,n,rfl,?_⟩
 rcases z with ⟨rfl,rfl,rfl⟩ | ⟨h2,rfl,rfl⟩
 ·exact .inl ⟨rfl,rfl,by rw [e]⟩
 ·exact .inr ⟨h2,rfl,e.symm⟩
def spTable65:Sp:=fun vs H Q _=>∃ (g way:Int) (px:Addr) (xs:List Int),vs=[.int g,.int way,.ref px]∧2≤g∧g≤9∧H px=some (.lst (xs.map V.int))∧xs.length=90∧∀ p H' tab (m:Nat),NewL H H' p tab→(tab.length:Int)=g^m→1≤m→m≤4→g^m≤81→g^(max 2 m - 1)≤9→(∀ n∈tab,0≤n∧n<g)→Q (.ref p) H'
def spRule65 (K:PySem.W.Frag):Sp:=fun vs H Q _=>∃ (a:Addr) (ns:List Int),vs=[.ref a]∧SqL K H a (ns.map V.int)∧ns.length≤63∧∀ (r:Addr) (H':Hp) (g lo:Int) (tab:List Int) (m:Nat),Same H H'→RuleOk H' r g lo tab m→(∀ lf tf mf,FrameW g lo tab m lf tf mf→g^(mf - 1)≤9)→Q (.ref r) H'
def spFrame65:Sp:=fun vs H Q _=>∃ (r:Addr) (g lo:Int) (tab:List Int) (m:Nat),vs=[.ref r]∧RuleOk H r g lo tab m∧∀ (p:Addr) (lf:Int) (tf:List Int) (mf:Nat) (H':Hp),Same H H'→FrameW g lo tab m lf tf mf→H' p=some (.lst (tf.map V.int))→(tf.length:Int)=g^mf→mf≤8→Q (.ref p) H'
def spList65:Sp:=fun vs H Q _=>∃ (p:Addr) (ns:List Int) (n:Int),vs=[.ref p,.int n]∧H p=some (.lst (ns.map V.int))∧(ns.length:Int)=n∧Q (.bl true) H
def spHead65:Sp:=fun vs H Q _=>∃ (p:Addr) (ns:List Int) (k:Nat),vs=[.ref p]∧H p=some (.lst (ns.map V.int))∧ns.length≤100∧ns.getD k 0≠0∧(∀ j,j<k→ns.getD j 0=0)∧Q (.int ((k:Nat):Int)) H
def spSimple65:Sp:=fun vs H Q _=>∃ (p:Addr) (ns:List Int),vs=[.ref p]∧H p=some (.lst (ns.map V.int))∧gcdL ns=1∧Q (.bl true) H
def spHeads65:Sp:=fun vs H Q _=>∃ (pf:Addr) (ps:List Addr) (G:Nat) (Rs:List (List Int)) (fs:List Nat),vs=[.ref pf,.int ((G:Nat):Int)]∧LsV H pf ps (keptL G Rs fs G)∧RowsOk G Rs fs∧G≤9∧∀ H',Same H H'→Q (.bl true) H'
def spFlows65:Sp:=fun vs H Q _=>∃ (r b a:Addr) (g lo:Int) (tab:List Int) (m:Nat) (lf:Int) (tf:List Int) (mf:Nat) (ws:List Int),vs=[.ref r,.ref b,.ref a]∧RuleOk H r g lo tab m∧FrameW g lo tab m lf tf mf∧g^(mf - 1)≤9∧mf≤8∧H b=some (.lst (ws.map V.int))∧ws.length=g.toNat∧H a=some (.lst (tf.map V.int))∧(tf.length:Int)=g^mf∧rightW g.toNat (gainL g tf mf ws 1) (flowsL g.toNat (gainL g tf mf ws 1))∧∀ H',Same H H'→Q (.bl true) H'
def spChange65:Sp:=fun vs H Q _=>∃ (pr pt:Addr) (g:Int) (tab:List Int) (m:Nat) (ring:List Int),vs=[.ref pr,.int g,.ref pt]∧2≤g∧g≤9∧H pt=some (.lst (tab.map V.int))∧(tab.length:Int)=g^m∧m≤8∧(∀ n∈tab,0≤n∧n<g)∧H pr=some (.lst (ring.map V.int))∧(∀ x∈ring,0≤x∧x<g)∧1≤ring.length∧ring.length≤800∧∀ p H',NewL H H' p (chgL g 0 tab m ring)→Q (.ref p) H'
def spRank65:Sp:=fun vs H Q _=>∃ (p:Addr) (ps:List Addr) (g:Int) (rows:List (List Int)),vs=[.ref p,.int g]∧2≤g∧g≤9∧LsV H p ps rows∧rows.length≤9∧(∀ r∈rows,r.length=g.toNat∧BitsB r 10)∧IndF rows.length (rowsF rows)∧∀ H',(∀ H2,Same H2 H→H2 p=none→Same H2 H')→Q (.int ((rows.length:Nat):Int)) H'
def spRings65:Sp:=fun vs H Q _=>∃ (pr pf pt:Addr) (rs ps:List Addr) (g lf:Int) (tf:List Int) (mf:Nat) (rings Rs:List (List Int)) (fs:List Nat) (rings' Rs':List (List Int)) (fs':List Nat),vs=[.ref pr,.ref pf,.int g,.ref pt]∧2≤g∧g≤9∧LsV H pr rs rings∧LsV H pf ps (keptL g.toNat Rs' fs' g.toNat)∧BasisOk g lf tf mf rings Rs fs∧BasisOk g lf tf mf rings' Rs' fs'∧H pt=some (.lst (tf.map V.int))∧(tf.length:Int)=g^mf∧2≤mf∧mf≤8∧(∀ n∈tf,0≤n∧n<g)∧∀ H',Same H H'→Q (.bl true) H'
def spRefused65:Sp:=fun vs H Q _=>∃ c:Int,vs=[.int c]∧∀ H',Same H H'→Q (.bl true) H'
theorem great_ok {g:Int} (g2:2≤g) (g6:g≤6) (c:Int):∃ m:Nat,atI [V.int (5+c%4),V.int (4+c%2),V.int (3+c%2),V.int 3,V.int 3] (g - 2)=some (V.int ((m:Nat):Int))∧3≤m∧m≤8∧g^m≤256∧9<g^(m - 1):=by
 obtain rfl | rfl | rfl | rfl | rfl:g=2∨g=3∨g=4∨g=5∨g=6:=by lia
 ·obtain z | z | z | z:c%4=0∨c%4=1∨c%4=2∨c%4=3:=by lia
  ·exact ⟨5,by rw [z];rfl,by decide,by decide,by decide,by decide⟩
  ·exact ⟨6,by rw [z];rfl,by decide,by decide,by decide,by decide⟩
  ·exact ⟨7,by rw [z];rfl,by decide,by decide,by decide,by decide⟩
  ·exact ⟨8,by rw [z];rfl,by decide,by decide,by decide,by decide⟩
 ·obtain z | z:c%2=0∨c%2=1:=by lia
  ·exact ⟨4,by rw [z];rfl,by decide,by decide,by decide,by decide⟩
  ·exact ⟨5,by rw [z];rfl,by decide,by decide,by decide,by decide⟩
 ·obtain z | z:c%2=0∨c%2=1:=by lia
  ·exact ⟨3,by rw [z];rfl,by decide,by decide,by decide,by decide⟩
  ·exact ⟨4,by rw [z];rfl,by decide,by decide,by decide,by decide⟩
 ·exact ⟨3,rfl,by decide,by decide,by decide,by decide⟩
 ·exact ⟨3,rfl,by decide,by decide,by decide,by decide⟩
def greatT (g:Int) (m:Nat):List Int:=(List.range (g^m).toNat).map fun k:Nat=>((k / (g^(m - 1)).toNat+k:Nat):Int)%g
theorem great_frame {g:Int} (g2:2≤g) (lo:Int) {m:Nat} (m2:2≤m):((greatT g m).length:Int)=g^m∧FrameW g lo (greatT g m) m lo (greatT g m) m:=by
 have gp:=RW.pow_pos g2 m
 have pp:=RW.pow_pos g2 (m - 1)
 have gg:g^m=g^(m - 1)*g:=by rw [←Z7,show (m - 1).succ=m by lia]
 have pg:g≤g^(m - 1):=by
  have:=pow_mono g2 (show 1≤m - 1 by lia)
  rw [Z7,Z13,Z23] at this
  exact this
 have p2:g^(m - 1)*2≤g^m:=by rw [gg];exact Int.mul_le_mul_of_nonneg_left g2 (Int.le_of_lt pp)
 have hl:((greatT g m).length:Int)=g^m:=by unfold greatT;rw [Z1,Z2];lia
 have at':∀ k:Nat,(k:Int)<g^m→(greatT g m).getD k 0=((k / (g^(m - 1)).toNat+k:Nat):Int)%g:=fun k hk=>by unfold greatT;rw [getD_map_range (by lia)]
 have P0:0<(g^(m - 1)).toNat:=by lia
 have t0:(greatT g m).getD 0 0=0:=by rw [at' 0 (by lia),Nat.zero_div];rfl
 have t1:(greatT g m).getD 1 0=1:=by
  rw [at' 1 (by lia),Nat.div_eq_of_lt (by lia)]
  exact Int.emod_eq_of_lt (by decide) (by lia)
 have tP:(greatT g m).getD (g^(m - 1)).toNat 0=1:=by
  rw [at' _ (by lia),Nat.div_self P0,Int.natCast_add,Int.toNat_of_nonneg (by lia)]
  have e:g^(m - 1)=g*g^(m - 2):=by rw [Z28,←Z7,show (m - 2).succ=m - 1 by lia]
  rw [e,Int.add_mul_emod_self_left]
  exact Int.emod_eq_of_lt (by decide) (by lia)
 have c0:cntB g (greatT g m) (g^(m - 1))=true:=by
  cases z:cntB g (greatT g m) (g^(m - 1)) with
  | true=>rfl
  | false =>
   have y:=(first_free g2 (m:=m - 1) (h:=(g^(m - 1)).toNat) (by rw [hl,show m - 1+1=m by lia]) (by lia)).mp z (g^(m - 1)).toNat (by lia)
   rw [Nat.mod_self,tP,t0] at y
   cases y
 have c1:cntB g (greatT g m) 1=true:=by
  cases z:cntB g (greatT g m) 1 with
  | true=>rfl
  | false =>
   have y:=(last_free (show ((g.toNat:Nat):Int)=g by lia)).mp z 1 (by lia)
   rw [Nat.mod_eq_of_lt (by lia),Nat.sub_self,t1,t0] at y
   cases y
 exact ⟨hl,frame_wide g2 hl hl (fun _ _=>rfl) m2 c0 c1⟩
theorem greatT_lt {g:Int} (g2:2≤g) (m:Nat):∀ n∈greatT g m,0≤n∧n<g:=fun n hn=>by
 unfold greatT at hn
 obtain ⟨k,_,rfl⟩:=List.mem_map.mp hn
 exact ⟨Int.emod_nonneg _ (by lia),Int.emod_lt_of_pos _ (by lia)⟩
def RF65 (H:Hp) (r:Addr):Prop:=∃ (g lo:Int) (tab:List Int) (m:Nat) (lf:Int) (tf:List Int) (mf:Nat),RuleOk H r g lo tab m∧FrameW g lo tab m lf tf mf∧9<g^(mf - 1)
theorem RF65.same {H H':Hp} {r:Addr} (e:Same H H') (h:RF65 H r):RF65 H' r:=by
 obtain ⟨g,lo,tab,m,lf,tf,mf,a,b,c⟩:=h
 exact ⟨g,lo,tab,m,lf,tf,mf,a.same e,b,c⟩
def bR (ρ:Nat):Nat:=11*2^ρ - 1
theorem bR_succ (ρ:Nat):bR (ρ+1)=2*bR ρ+1:=by
 unfold bR
 have:=Nat.one_le_two_pow (n:=ρ)
 rw [Nat.pow_succ]
 lia
theorem bR_le {ρ:Nat} (h:ρ≤9):bR ρ≤6000:=by
 unfold bR
 have:=Nat.pow_le_pow_right (n:=2) (by decide) h
 lia
def Some65 (R:Nat→Int) (ρ n:Nat) (ks:List Int):Prop:=(ks=[]∧∀ k,ρ≤k→k<n→R k=0)∨(∃ (a:Nat) (l:List Int),ks=(a:Int)::l∧ρ≤a∧a<n∧R a≠0)
theorem Some65.nil (R:Nat→Int) (ρ:Nat):Some65 R ρ ρ []:=.inl ⟨rfl,fun k h1 h2=>by lia⟩
theorem Some65.no {R:Nat→Int} {ρ n:Nat} {ks:List Int} (h:Some65 R ρ n ks) (z:R n=0):Some65 R ρ (n+1) ks:=by
 rcases h with ⟨h1,h2⟩ | ⟨a,l,h1,h2,h3,h4⟩
 ·refine .inl ⟨h1,fun k k1 k2=>?_⟩
  by_cases c:k=n
  ·rw [c];exact z
  ·exact h2 k k1 (by lia)
 ·exact .inr ⟨a,l,h1,h2,by lia,h4⟩
theorem Some65.yes {R:Nat→Int} {ρ n:Nat} {ks:List Int} (h:Some65 R ρ n ks) (hn:ρ≤n) (z:R n≠0):Some65 R ρ (n+1) (ks++[(n:Int)]):=by
 rcases h with ⟨h1,h2⟩ | ⟨a,l,h1,h2,h3,h4⟩
 ·exact .inr ⟨n,[],by rw [h1];rfl,hn,by lia,z⟩
 ·exact .inr ⟨a,l++[(n:Int)],by rw [h1];rfl,h2,by lia,h4⟩
structure Old65 (H0 H:Hp) (r:Addr) (g lo:Int) (tab:List Int) (m:Nat) (p8 D D2:Addr) (q1 q2:List Addr) (found rings:List (List Int)):Prop where
 ok:RuleOk H r g lo tab m
 l:H p8=some (.lst [.ref D,.ref D2])
 v1:LsV H D q1 found
 v2:LsV H D2 q2 rings
 n8:H0 p8=none
 nD:H0 D=none
 nD2:H0 D2=none
 n1:∀ q∈q1,H0 q=none
 n2:∀ q∈q2,H0 q=none
theorem Old65.same {H0 H H':Hp} {r:Addr} {g lo:Int} {tab:List Int} {m:Nat} {p8 D D2:Addr} {q1 q2:List Addr} {found rings:List (List Int)} (h:Old65 H0 H r g lo tab m p8 D D2 q1 q2 found rings) (e:Same H H'):Old65 H0 H' r g lo tab m p8 D D2 q1 q2 found rings:=⟨h.ok.same e,e _ _ h.l,h.v1.same e,h.v2.same e,h.n8,h.nD,h.nD2,h.n1,h.n2⟩
theorem keep65 {H:Hp} {p:Addr} {ps:List Addr} {ws:List (List Int)} (h:LsV H p ps ws) {o:Addr} (x:HO) (ne:p≠o) (hq:∀ q∈ps,q≠o):LsV (upd H o x) p ps ws:=⟨by rw [upd_ne ne];exact h.l,h.n,fun i q w h1 h2=>by
 rw [upd_ne (hq q (List.mem_of_getElem? h1))]
 exact h.e i q w h1 h2⟩
theorem Old65.upd {H0 H:Hp} {r:Addr} {g lo:Int} {tab:List Int} {m:Nat} {p8 D D2:Addr} {q1 q2:List Addr} {found rings:List (List Int)} (h:Old65 H0 H r g lo tab m p8 D D2 q1 q2 found rings) {o:Addr} (x:HO) (ho:H0 o≠none) {xs:List V} (hx:H o=some (.lst xs)):Old65 H0 (L2.upd H o x) r g lo tab m p8 D D2 q1 q2 found rings:=by
 have ne:∀ {p:Addr},H0 p=none→p≠o:=fun hp e=>ho (by rw [←e];exact hp)
 have k:=h.ok
 obtain ⟨tb,h1,h2⟩:=k.v
 have r1:r≠o:=fun e=>by rw [e,hx] at h1;cases h1
 have r2:tb≠o:=fun e=>by rw [e,hx] at h2;cases h2
 exact ⟨⟨⟨tb,by rw [upd_ne r1];exact h1,by rw [upd_ne r2];exact h2⟩,k.g2,k.g9,k.m1,k.m8,k.len,k.sz,k.tb⟩,by rw [upd_ne (ne h.n8)];exact h.l,keep65 h.v1 x (ne h.nD) fun q hq=>ne (h.n1 q hq),keep65 h.v2 x (ne h.nD2) fun q hq=>ne (h.n2 q hq),h.n8,h.nD,h.nD2,h.n1,h.n2⟩
section
variable {P:Program} {w:World} {K:PySem.W.Frag} {mg:Str→Option Value} {base:Heap} {t:Adr}
theorem sc_4:FnScope ["self","at"] ["self","at"] (defScope s_4):=⟨rfl,rfl,rfl,by decide +kernel,rfl,by decide +kernel,by decide +kernel⟩
theorem ok_4 (T:Txt K mg t) :Has P w K mg base 1 t.f_4 ["self","at"] (spInit K t.c_59 t.c_41):=by
 refine has_mk0 T.d_4 sc_4 (fun _ _ _ _ _ _ us hl=>match us,hl with | [_,_],_=>rfl) (fun vs H Q E h=>?_) (fun cdv A outer s H vs Q E hr h=>?_)
 ·obtain ⟨a,n,y,rfl,ea,q⟩:=h
  rfl
 obtain ⟨a,n,y,rfl,ea,q⟩:=h
 refine ⟨_,(pss_one (ps_xat (pv 0) (pv 1))),?_⟩
 walk_at "rd"
 exact ⟨_,_,n,ea,T.xa_NoRow_at,q⟩
theorem sc_46:FnScope ["thing"] ["thing"] (defScope s_46):=⟨rfl,rfl,rfl,by decide +kernel,rfl,by decide +kernel,by decide +kernel⟩
theorem ok_46 (T:Txt K mg t) :Has P w K mg base 1 t.f_46 ["thing"] (spWhole):=by
 refine has_mk0 T.d_46 sc_46 (fun _ _ _ _ _ _ us hl=>match us,hl with | [_],_=>rfl) (fun vs H Q E h=>?_) (fun cdv A outer s H vs Q E hr h=>?_)
 ·obtain ⟨x,rfl,kd,q⟩:=h
  rfl
 obtain ⟨x,rfl,kd,q⟩:=h
 refine ⟨_,(pss_one (ps_ret (pe_and (pe_isi rfl T.z_isinstance (pv 0) (pe_ty rfl T.z_int PyProof.Rows.boot_int)) (pe_one (pe_not (pe_isi rfl T.z_isinstance (pv 0) (pe_ty rfl T.z_bool PyProof.Rows.boot_bool))))))),?_⟩
 walk_at "rd"
 cases x with
 | int i =>
  refine ⟨_,.of (.int i),_,ki_ii,?_⟩
  rw [if_pos rfl]
  exact ⟨_,.of (.int i),_,ki_ib,q⟩
 | bl b =>
  refine ⟨_,.of (.bl b),_,ki_bi,?_⟩
  rw [if_pos rfl]
  exact ⟨_,.of (.bl b),_,ki_bb,q⟩
 | non =>
  refine ⟨_,.of .non,_,ki_ni,?_⟩
  rw [if_neg (by decide)]
  exact q
 | str y =>
  refine ⟨_,.of (.str y),_,ki_si,?_⟩
  rw [if_neg (by decide)]
  exact q
 | ref a =>
  obtain ⟨xs,z | z⟩:=kd
  ·refine ⟨_,.of (.lst z),_,ki_li,?_⟩
   rw [if_neg (by decide)]
   exact q
  ·refine ⟨_,.of (.tup z),_,ki_ti,?_⟩
   rw [if_neg (by decide)]
   exact q
 | byt _=>exact kd.elim
 | flt _=>exact kd.elim
 | ty _=>exact kd.elim
theorem sc_51:FnScope ["thing","signs"] ["thing","signs"] (defScope s_51):=⟨rfl,rfl,rfl,by decide +kernel,rfl,by decide +kernel,by decide +kernel⟩
theorem ok_51 (T:Txt K mg t) (G_46:Has P w K mg base 1 t.f_46 ["thing"] (spWhole)):Has P w K mg base 2 t.f_51 ["thing","signs"] (spSign):=by
 refine has_mk0 T.d_51 sc_51 (fun _ _ _ _ _ _ us hl=>match us,hl with | [_,_],_=>rfl) (fun vs H Q E h=>?_) (fun cdv A outer s H vs Q E hr h=>?_)
 ·obtain ⟨x,g,rfl,kd,q⟩:=h
  rfl
 obtain ⟨x,g,rfl,kd,q⟩:=h
 refine ⟨_,(pss_one (ps_ret (pe_and (pe_callH G_46 (hr.mono (by decide)) rfl T.m_46 passF (pa_cons (pv 0) pa_nil)) (pe_and (pe_cmpR op_le pe_int (pv 0) (nomark _)) (pe_one (pe_cmpR op_lt (pv 0) (pv 1) (nomark _))))))),?_⟩
 walk_at "rd"
 refine ⟨x,rfl,kd,?_⟩
 cases x with
 | int i =>
  walk_at "rd"
  simp only [sgn] at q
  by_cases h:0≤i
  ·rw [decide_eq_true h,Bool.true_and] at q
   rw [if_pos h]
   exact q
  ·rw [decide_eq_false h,Bool.false_and] at q
   rw [if_neg h]
   exact q
 | _=>exact ⟨false,rfl,iteF q⟩
theorem sc_27:FnScope ["word","signs","at","thing"] ["word","signs"] (defScope s_27):=⟨rfl,rfl,rfl,by decide +kernel,rfl,by decide +kernel,by decide +kernel⟩
theorem ok_27 (T:Txt K mg t) (G_51:Has P w K mg base 2 t.f_51 ["thing","signs"] (spSign)) (G_4:Has P w K mg base 1 t.f_4 ["self","at"] (spInit K t.c_59 t.c_41)):Has P w K mg base 3 t.f_27 ["word","signs"] (spCheck K t.c_59):=by
 refine has_mkX T.d_27 sc_27 (fun _ _ _ _ _ _ us hl=>match us,hl with | [_,_],_=>rfl) (fun vs H Q E h=>?_) (fun cdv A outer s H vs Q E hr h=>?_)
 ·obtain ⟨a,xs,g,rfl,hS,kd,h⟩:=h
  rfl
 obtain ⟨a,xs,g,rfl,hS,kd,h⟩:=h
 refine ⟨_,(pss_one (ps_for PassesOwn.leaving rfl (pi_enum rfl T.z_enumerate (pa_cons (pv 0) pa_nil)) (pg_tup rfl (pgs_cons (pg_name (i:=2) sc_27.nd rfl (Or.inl rfl)) (pgs_cons (pg_name (i:=3) sc_27.nd rfl (Or.inl rfl)) pgs_nil))) (pss_one (ps_if (pt_not (pt_val (pe_callH G_51 (hr.mono (by decide)) rfl T.m_51 passF (pa_cons (pv 3) (pa_cons (pv 1) pa_nil))))) (pss_one (ps_raiseH rfl T.xm_59 G_4 (hr.mono (by decide)) rfl T.m_59 raisesI_body (pa_cons (pv 2) pa_nil))) pss_nil)))),?_⟩
 refine ⟨_,rfl,a,xs,rfl,hS,?_⟩
 refine for_enum (xs:=xs) (fun i σ H1=>badIx g (xs.take i)=none∧(∃ x2 x3,σ=[some (.ref a),some (.int g),x2,x3])∧Same H H1) ⟨rfl,⟨none,none,rfl⟩,Same.refl _⟩ (fun i σ H1 _ z=>z.2.2.seq hS) ?_ ?_
 ·rintro i x p σ H1 hx ⟨hb,⟨x2,x3,rfl⟩,e⟩ hp
  have e2:Same H (upd H1 p (.tup [.int ((i:Nat):Int),x])):=e.trans (Same.new hp _)
  refine ⟨p,_,rfl,SqT.of upd_same,rfl,_,_,rfl,_,_,rfl,rfl,?_⟩
  walk_at "rd"
  refine ⟨x,g,rfl,(kd x (List.mem_of_getElem? hx)).same e2,?_⟩
  cases hs:sgn g x with
  | true =>
   walk_at "rd"
   exact ⟨badIx_step hb hx hs,⟨_,rfl⟩,e2⟩
  | false =>
   walk_at "rd"
   refine ⟨by decide,fun ea hea=>⟨ea,true,_,rfl,upd_same,fun dx hdx=>⟨rfl,some dx,?_,?_⟩⟩⟩
   ·rw [upd_ne (Ne.symm (upd_none hdx).1),upd_same]
   ·rw [badIx_here hb hx hs] at h
    exact h _ dx (same_raise e2 hea hdx) (by rw [drop_ne (upd_none hdx).1,upd_same])
 ·rintro σ H1 ⟨hb,_,e⟩
  rw [Z14] at hb
  rw [hb] at h
  exact h H1 e
theorem sc_9:FnScope ["word","signs","many"] ["word","signs","many"] (defScope s_9):=⟨rfl,rfl,rfl,by decide +kernel,rfl,by decide +kernel,by decide +kernel⟩
theorem ok_9 (T:Txt K mg t) (G_27:Has P w K mg base 3 t.f_27 ["word","signs"] (spCheck K t.c_59)) (G_4:Has P w K mg base 1 t.f_4 ["self","at"] (spInit K t.c_59 t.c_41)):Has P w K mg base 4 t.f_9 ["word","signs","many"] (spCheckLen K t.c_59):=by
 refine has_mkX T.d_9 sc_9 (fun _ _ _ _ _ _ us hl=>match us,hl with | [_,_,_],_=>rfl) (fun vs H Q E h=>?_) (fun cdv A outer s H vs Q E hr h=>?_)
 ·obtain ⟨a,xs,g,m,rfl,hS,kd,h⟩:=h
  rfl
 obtain ⟨a,xs,g,m,rfl,hS,kd,h⟩:=h
 refine ⟨_,(pss_cons (ps_expr (pe_callH G_27 (hr.mono (by decide)) rfl T.m_27 passes_body (pa_cons (pe_slice sl_list (pv 0) po_none (po_some (pv 2))) (pa_cons (pv 1) pa_nil))))
  (pss_one (ps_if (pt_cmpR op_ne (pe_callB call_len_seq rfl T.z_len PySem.boot_len (pa_cons (pv 0) pa_nil)) (pv 2) (nomark _)) (pss_one (ps_raiseH rfl T.xm_59 G_4 (hr.mono (by decide)) rfl T.m_59 raisesI_body (pa_cons (pe_callB (call_min2 rfl) rfl T.z_min PyProof.Rows.boot_min (pa_cons (pe_callB call_len_seq rfl T.z_len PySem.boot_len (pa_cons (pv 0) pa_nil)) (pa_cons (pv 2) pa_nil))) pa_nil))) pss_nil))),?_⟩
 walk_at "rd"
 refine sl_new hS fun p H1 e1 _ h1=>?_
 rw [cutV_to] at h1
 refine ⟨p,_,g,rfl,SqL.of h1,fun x hx=>(kd x (List.mem_of_mem_take hx)).same e1,?_⟩
 unfold badLen at h
 cases hb:badIx g (xs.take m) with
 | some i =>
  rw [hb] at h
  exact Bad.same e1 h
 | none =>
  rw [hb] at h
  dsimp only at h
  intro H2 e2
  refine ⟨xs,.inl ((e1.trans e2).seq hS),?_⟩
  by_cases hl:xs.length=m
  ·rw [if_pos hl] at h
   rw [if_neg (by lia)]
   exact h _ (e1.trans e2)
  ·rw [if_neg hl] at h
   rw [if_pos (by lia)]
   refine ⟨xs,.inl ((e1.trans e2).seq hS),by decide,fun ea hea=>⟨ea,true,_,rfl,upd_same,fun dx hdx=>⟨rfl,some dx,?_,?_⟩⟩⟩
   ·rw [upd_ne (Ne.symm (upd_none hdx).1),upd_same]
   ·refine h _ dx (same_raise (e1.trans e2) hea hdx) ?_
    rw [drop_ne (upd_none hdx).1,upd_same]
    have e:(if (m:Int)<(xs.length:Int) then (m:Int) else (xs.length:Int))=((min xs.length m:Nat):Int):=by split <;> lia
    rw [e]
theorem sc_39:FnScope ["word","signs","number","sign"] ["word","signs"] (defScope s_39):=⟨rfl,rfl,rfl,by decide +kernel,rfl,by decide +kernel,by decide +kernel⟩
theorem ok_39 (T:Txt K mg t) (G_27:Has P w K mg base 3 t.f_27 ["word","signs"] (spCheck K t.c_59)):Has P w K mg base 4 t.f_39 ["word","signs"] (spNumber K t.c_59):=by
 refine has_mkX T.d_39 sc_39 (fun _ _ _ _ _ _ us hl=>match us,hl with | [_,_],_=>rfl) (fun vs H Q E h=>?_) (fun cdv A outer s H vs Q E hr h=>?_)
 ·obtain ⟨a,xs,g,rfl,g2,g9,hS,kd,h⟩:=h
  rfl
 obtain ⟨a,xs,g,rfl,g2,g9,hS,kd,h⟩:=h
 refine ⟨_,(pss_cons (ps_expr (pe_callH G_27 (hr.mono (by decide)) rfl T.m_27 passes_body (pa_cons (pv 0) (pa_cons (pv 1) pa_nil))))
  (pss_cons (ps_set (i:=2) sc_39.nd rfl (Or.inl rfl) pe_int)
  (pss_cons (PS.nox (ps_for PassesOwn.never rfl (pi_list (pv 0)) (pg_name (i:=3) sc_39.nd rfl (Or.inl rfl)) (pss_one (ps_set (i:=2) sc_39.nd rfl (Or.inl rfl) (pe_op op_add (pe_op op_mul (pv 2) (pv 1)) (pv 3))))))
  (pss_one (ps_ret (pv 2)))))),?_⟩
 walk_at "rd"
 refine ⟨a,xs,g,rfl,hS,kd,?_⟩
 cases hb:badIx g xs with
 | some i =>
  rw [hb] at h
  exact h
 | none =>
  rw [hb] at h
  obtain ⟨ns,rfl,hns⟩:=badIx_none hb
  intro H1 e
  refine ⟨_,rfl,a,rfl,⟨_,e.seq hS⟩,?_⟩
  refine for_list (xs:=ns.map V.int) (fun i σ H2=>(∃ x3,σ=[some (.ref a),some (.int g),some (.int (num g (ns.take i))),x3])∧H2=H1) ⟨⟨none,rfl⟩,rfl⟩ (fun i σ H2 _ z=>by rw [z.2];exact e.seq hS) ?_ ?_
  ·rintro i x σ H2 hx ⟨⟨x3,rfl⟩,rfl⟩
   obtain ⟨n,hn,rfl⟩:=getInt hx
   walk_at "rd"
   refine ⟨.inr ⟨by lia,by lia⟩,?_⟩
   rw [num_take hn]
   exact ⟨rfl,_,rfl⟩
  ·rintro σ H2 ⟨⟨x3,rfl⟩,rfl⟩
   walk_at "rd"
   rw [Z1,Z14]
   exact h ns rfl _ e
theorem sc_53:FnScope ["number","signs","many","backwards","rest"] ["number","signs","many"] (defScope s_53):=⟨rfl,rfl,rfl,by decide +kernel,rfl,by decide +kernel,by decide +kernel⟩
theorem ok_53 (T:Txt K mg t) :HasN P w K mg base 1 t.f_53 ["number","signs","many"] (spWord t.c_55):=by
 refine has_mkN T.d_53 sc_53 (fun _ _ _ _ _ _ us hl=>match us,hl with | [_,_,_],_=>rfl) (fun vs H Q E h=>?_) (fun cdv A outer s H vs Q E hr h=>?_)
 ·obtain ⟨n,g,m,rfl,g2,g9,m0,m3,hbad,hgood⟩:=h
  rfl
 obtain ⟨n,g,m,rfl,g2,g9,m0,m3,hbad,hgood⟩:=h
 refine ⟨_,(pss_cons (ps_if (pt_cmpR op_lt (pv 0) pe_int (nomark _)) (pss_one (ps_raise rfl T.x_55 rfl T.m_55 raises_body (pa_cons pe_str pa_nil))) pss_nil)
  (pss_cons (ps_set (i:=3) sc_53.nd rfl (Or.inl rfl) (pe_lst pa_nil))
  (pss_cons (ps_set (i:=4) sc_53.nd rfl (Or.inl rfl) (pv 0))
  (pss_cons (PS.nox (ps_while PassesOwn.never (pt_cmpR op_lt (pe_callB call_len_seq rfl T.z_len PySem.boot_len (pa_cons (pv 3) pa_nil)) (pv 2) (nomark _)) (pss_cons (ps_expr (pe_bm PySem.F.plainAttrs_list PySem.F.slot_list_append PySem.F.type_list_append mt_append (pv 3) (pa_cons (pe_op op_mod (pv 4) (pv 1)) pa_nil)))
  (pss_one (ps_set (i:=4) sc_53.nd rfl (Or.inl rfl) (pe_op op_fdiv (pv 4) (pv 1)))))))
  (pss_cons (ps_if (pt_cmpR op_gt (pv 4) pe_int (nomark _)) (pss_one (ps_raise rfl T.x_55 rfl T.m_55 raises_body (pa_cons pe_str pa_nil))) pss_nil)
  (pss_one (ps_ret (pe_lrev rfl rfl T.z_reversed rfl T.z_list (pa_cons (pv 3) pa_nil))))))))),?_⟩
 walk_at "rd"
 by_cases hn:n<0
 ·rw [if_pos hn]
  exact ⟨by decide,hbad (.inl hn) H (Same.refl H)⟩
 rw [if_neg hn]
 refine ⟨Nat.zero_le _,fun p hp=>?_⟩
 refine while_by (fun σ H1=>∃ i:Nat,i≤m.toNat∧σ=[some (.int n),some (.int g),some (.int m),some (.ref p),some (.int (dr g n i))]∧H1=upd H p (.lst ((lows g n i).map V.int)))
  (fun σ H1=>match H1 p with | some (.lst xs)=>m.toNat - xs.length | _=>0) ⟨0,Nat.zero_le _,rfl,rfl⟩ ?_ ?_
 ·rintro σ H1 ⟨i,hi,rfl,rfl⟩
  walk_at "rd"
  have hl:((lows g n i).map V.int).length=i:=by rw [Z1,lows_length]
  refine ⟨_,.inl (SqL.of upd_same),?_⟩
  rw [hl]
  by_cases hlt:(i:Int)<m
  ·rw [if_pos hlt]
   refine ⟨.inl ⟨_,SqL.of upd_same⟩,by lia,_,upd_same,by rw [hl];exact small1000 (by lia),by lia,by lia,⟨i+1,by lia,rfl,?_⟩,?_⟩
   ·rw [upd_upd,lows,Z3];rfl
   ·rw [upd_same,upd_same]
    show m.toNat - (List.map V.int (lows g n i)++[V.int (dr g n i%g)]).length<m.toNat - (List.map V.int (lows g n i)).length
    rw [Z4,hl]
    simp only [List.length_cons,List.length_nil]
    lia
  ·rw [if_neg hlt]
   have ei:i=m.toNat:=by lia
   by_cases hd:0<dr g n i
   ·rw [if_pos hd]
    refine ⟨by decide,hbad (.inr (Int.not_lt.mp fun z=>?_)) _ (Same.new hp _)⟩
    rw [ei,dr_zero g2 (by lia) z] at hd
    lia
   ·rw [if_neg hd]
    refine ⟨_,SqL.of upd_same,fun r hr'=>hgood (by lia) (Int.not_le.mp fun z=>?_) r _ ⟨(Same.new hp _).trans (Same.new hr' _),(upd_none hr').2,?_⟩⟩
    ·rw [ei] at hd
     exact hd (dr_pos g2 z)
    ·rw [upd_same,ei,List.map_reverse]
 ·intro σ H1 Q1 Q2 hq
  walk_at "rd"
  rintro ⟨v,h1,p,h2,x,h3,v2,h4,x1,h5,h6⟩
  exact ⟨v,h1,p,h2,x,h3,v2,h4,x1,h5,hq _ _ h6⟩
theorem sc_26:FnScope ["signs","low"] ["signs","low"] (defScope s_26):=⟨rfl,rfl,rfl,by decide +kernel,rfl,by decide +kernel,by decide +kernel⟩
theorem ok_26 (T:Txt K mg t) (G_46:Has P w K mg base 1 t.f_46 ["thing"] (spWhole)):Has P w K mg base 2 t.f_26 ["signs","low"] (spHead t.c_54):=by
 refine has_mkX T.d_26 sc_26 (fun _ _ _ _ _ _ us hl=>match us,hl with | [_,_],_=>rfl) (fun vs H Q E h=>?_) (fun cdv A outer s H vs Q E hr h=>?_)
 ·obtain ⟨x,y,rfl,kx,ky,hg,hbad⟩:=h
  rfl
 obtain ⟨x,y,rfl,kx,ky,hg,hbad⟩:=h
 refine ⟨_,(pss_cons (ps_if (PW.pt (pw_or (pt_not (pt_val (pe_callH G_46 (hr.mono (by decide)) rfl T.m_46 passF (pa_cons (pv 0) pa_nil)))) (pw_or (pt_cmpR op_lt (pv 0) pe_int (nomark _)) (pw_or1 (pt_cmpR op_gt (pv 0) pe_int (nomark _)))))) (pss_one (ps_raise rfl T.x_54 rfl T.m_54 raises_body (pa_cons pe_str pa_nil))) pss_nil)
  (pss_one (ps_if (pt_not (pt_val (pe_callH G_46 (hr.mono (by decide)) rfl T.m_46 passF (pa_cons (pv 1) pa_nil)))) (pss_one (ps_raise rfl T.x_54 rfl T.m_54 raises_body (pa_cons pe_str pa_nil))) pss_nil))),?_⟩
 walk_at "rd"
 refine ⟨x,rfl,kx,isI x,rfl,?_⟩
 cases x with
 | int g =>
  show if true=false then _ else _
  rw [if_neg (by decide)]
  refine ⟨g,rfl,?_⟩
  by_cases h2:g<2
  ·rw [if_pos h2]
   exact ⟨by decide,hbad (by show ((decide (2≤g) && decide (g≤9)) && isI y)=false;rw [decide_eq_false (p:=2≤g) (by lia)];rfl)⟩
  rw [if_neg h2]
  refine ⟨g,rfl,?_⟩
  by_cases h9:9<g
  ·rw [if_pos h9]
   exact ⟨by decide,hbad (by show ((decide (2≤g) && decide (g≤9)) && isI y)=false;rw [decide_eq_false (p:=g≤9) (by lia),Bool.and_false];rfl)⟩
  rw [if_neg h9]
  have e:goodHead (.int g) y=isI y:=by
   show ((decide (2≤g) && decide (g≤9)) && isI y)=isI y
   rw [decide_eq_true (p:=2≤g) (by lia),decide_eq_true (p:=g≤9) (by lia)]
   rfl
  rw [e] at hg hbad
  refine ⟨y,rfl,ky,isI y,rfl,?_⟩
  cases hy:isI y with
  | false =>
   rw [if_pos rfl]
   exact ⟨by decide,hbad hy⟩
  | true =>
   rw [if_neg (by decide)]
   exact hg hy
 | _ =>
  show if false=false then _ else _
  rw [if_pos rfl]
  exact ⟨by decide,hbad rfl⟩
theorem sc_29:FnScope ["signs","length","many","words"] ["signs","length"] (defScope s_29):=⟨rfl,rfl,rfl,by decide +kernel,rfl,by decide +kernel,by decide +kernel⟩
theorem ok_29 (T:Txt K mg t) :Has P w K mg base 1 t.f_29 ["signs","length"] (spPlacesFor):=by
 refine has_mk0 T.d_29 sc_29 (fun _ _ _ _ _ _ us hl=>match us,hl with | [_,_],_=>rfl) (fun vs H Q E h=>?_) (fun cdv A outer s H vs Q E hr h=>?_)
 ·obtain ⟨g,n,rfl,g2,g9,hy,hn⟩:=h
  rfl
 obtain ⟨g,n,rfl,g2,g9,hy,hn⟩:=h
 refine ⟨_,(pss_cons (ps_set (i:=2) sc_29.nd rfl (Or.inl rfl) pe_int)
  (pss_cons (ps_set (i:=3) sc_29.nd rfl (Or.inl rfl) pe_int)
  (pss_cons (ps_while PassesOwn.never (pt_cmpR op_lt (pv 3) (pv 1) (nomark _)) (pss_cons (ps_set (i:=3) sc_29.nd rfl (Or.inl rfl) (pe_op op_mul (pv 3) (pv 0)))
  (pss_one (ps_set (i:=2) sc_29.nd rfl (Or.inl rfl) (pe_op op_add (pv 2) pe_int)))))
  (pss_cons (ps_if (pt_cmpR op_eq (pv 3) (pv 1) (nomark _)) (pss_one (ps_ret (pv 2))) pss_nil)
  (pss_one (ps_ret pe_int)))))),?_⟩
 walk_at "rd"
 refine while_by (fun σ H1=>∃ i:Nat,σ=[some (.int g),some (.int n),some (.int ((i:Nat):Int)),some (.int (g^i))]∧H1=H∧∀ j,j<i→g^j<n)
  (fun (σ:St) (H1:Hp)=>match σ[3]? with | some (some (V.int x))=>(n - x).toNat | _=>0) ⟨0,by rw [Z13];rfl,rfl,fun j hj=>absurd hj (Nat.not_lt_zero _)⟩ ?_ ?_
 ·rintro σ H1 ⟨i,rfl,rfl,hj⟩
  have gp:=RW.pow_pos g2 i
  walk_at "rd"
  by_cases hlt:g^i<n
  ·rw [if_pos hlt]
   refine ⟨.inr ⟨by lia,by lia⟩,⟨i+1,rfl,?_,fun j hj2=>?_⟩,?_⟩
   ·rw [Z7]
   ·by_cases z:j=i
    ·rw [z];exact hlt
    ·exact hj j (by lia)
   ·have:g^i<g^i*g:=by
     have:=Int.mul_le_mul_of_nonneg_left g2 (Int.le_of_lt gp)
     lia
    lia
  ·rw [if_neg hlt]
   by_cases he:g^i=n
   ·rw [if_pos he]
    exact hy i he.symm
   ·rw [if_neg he]
    refine hn fun m z=>?_
    by_cases hm:m<i
    ·have:=hj m hm
     lia
    ·have:=pow_mono g2 (Nat.le_of_not_lt hm)
     lia
 ·intro σ H1 Q1 Q2 hq
  walk_at "rd"
  rintro ⟨v,h1,v2,h2,i,h3,x,h4,h5⟩
  exact ⟨v,h1,v2,h2,i,h3,x,h4,hq _ _ h5⟩
theorem sc_11:FnScope ["signs","many","length","done"] ["signs","many"] (defScope s_11):=⟨rfl,rfl,rfl,by decide +kernel,rfl,by decide +kernel,by decide +kernel⟩
theorem ok_11 (T:Txt K mg t) :Has P w K mg base 1 t.f_11 ["signs","many"] (spTLen):=by
 refine has_mk0 T.d_11 sc_11 (fun _ _ _ _ _ _ us hl=>match us,hl with | [_,_],_=>rfl) (fun vs H Q E h=>?_) (fun cdv A outer s H vs Q E hr h=>?_)
 ·obtain ⟨g,m,rfl,g2,g9,m1,hy,hn⟩:=h
  rfl
 obtain ⟨g,m,rfl,g2,g9,m1,hy,hn⟩:=h
 refine ⟨_,(pss_cons (ps_set (i:=2) sc_11.nd rfl (Or.inl rfl) pe_int)
  (pss_cons (ps_set (i:=3) sc_11.nd rfl (Or.inl rfl) pe_int)
  (pss_cons (ps_while PassesOwn.never (PW.pt (pw_and (pt_cmpR op_lt (pv 3) (pv 1) (nomark _)) (pw_and1 (pt_cmpR op_le (pv 2) (pe_constE rfl T.g_LONGEST_TABLE) (nomark _))))) (pss_cons (ps_set (i:=2) sc_11.nd rfl (Or.inl rfl) (pe_op op_mul (pv 2) (pv 0)))
  (pss_one (ps_set (i:=3) sc_11.nd rfl (Or.inl rfl) (pe_op op_add (pv 3) pe_int)))))
  (pss_one (ps_ret (pv 2)))))),?_⟩
 walk_at "rd"
 refine while_by (fun σ H1=>∃ i:Nat,i≤m.toNat∧σ=[some (.int g),some (.int m),some (.int (g^i)),some (.int ((i:Nat):Int))]∧H1=H)
  (fun (σ:St) (H1:Hp)=>match σ[3]? with | some (some (V.int x))=>(m - x).toNat | _=>0) ⟨0,Nat.zero_le _,by rw [Z13];rfl,rfl⟩ ?_ ?_
 ·rintro σ H1 ⟨i,hi,rfl,rfl⟩
  have gp:=RW.pow_pos g2 i
  walk_at "rd"
  by_cases hlt:(i:Int)<m
  ·rw [if_pos hlt]
   by_cases hle:g^i≤256
   ·rw [if_pos hle]
    exact ⟨.inr ⟨by lia,by lia⟩,⟨i+1,by lia,by rw [Z7],by lia⟩,by lia⟩
   ·rw [if_neg hle]
    have:=pow_mono g2 hi
    exact hn (by lia) _ (by lia)
  ·rw [if_neg hlt]
   have ei:i=m.toNat:=by lia
   subst ei
   by_cases hle:g^m.toNat≤256
   ·exact hy hle
   ·exact hn (by lia) _ (by lia)
 ·intro σ H1 Q1 Q2 hq
  walk_at "rd"
  rintro ⟨v,h1,v2,h2,i,h3,x,h4,h5⟩
  refine ⟨v,h1,v2,h2,i,h3,x,h4,?_⟩
  by_cases z:i<x
  ·rw [if_pos z] at h5 ⊢
   obtain ⟨v3,h6,j,h7,h8⟩:=h5
   exact ⟨v3,h6,j,h7,hq _ _ h8⟩
  ·rw [if_neg z] at h5 ⊢
   exact hq _ _ h5
theorem sc_15:FnScope ["signs","table","told"] ["signs","table"] (defScope s_15):=⟨rfl,rfl,rfl,by decide +kernel,rfl,by decide +kernel,by decide +kernel⟩
theorem ok_15 (T:Txt K mg t) (G_29:Has P w K mg base 1 t.f_29 ["signs","length"] (spPlacesFor)) (G_51:Has P w K mg base 2 t.f_51 ["thing","signs"] (spSign)):Has P w K mg base 3 t.f_15 ["signs","table"] (spTable t.c_54):=by
 refine has_mkX T.d_15 sc_15 (fun _ _ _ _ _ _ us hl=>match us,hl with | [_,_],_=>rfl) (fun vs H Q E h=>?_) (fun cdv A outer s H vs Q E hr h=>?_)
 ·obtain ⟨g,z,rfl,g2,g9,kz,hg,hbad⟩:=h
  rfl
 obtain ⟨g,z,rfl,g2,g9,kz,hg,hbad⟩:=h
 refine ⟨_,(pss_cons (ps_if (pt_not (pt_val (pe_isiT rfl T.z_isinstance (pv 1) (pa_cons (pe_ty rfl T.z_list PyProof.Rows.boot_list) (pa_cons (pe_ty rfl T.z_tuple PyProof.Rows.boot_tuple) pa_nil))))) (pss_one (ps_raise rfl T.x_54 rfl T.m_54 raises_body (pa_cons pe_str pa_nil))) pss_nil)
  (pss_cons (ps_if (PW.pt (pw_or (pt_cmpR op_gt (pe_callB call_len_seq rfl T.z_len PySem.boot_len (pa_cons (pv 1) pa_nil)) (pe_constE rfl T.g_LONGEST_TABLE) (nomark _)) (pw_or1 (pt_cmpR op_eq (pe_callH G_29 (hr.mono (by decide)) rfl T.m_29 passF (pa_cons (pv 0) (pa_cons (pe_callB call_len_seq rfl T.z_len PySem.boot_len (pa_cons (pv 1) pa_nil)) pa_nil))) pe_int (nomark _))))) (pss_one (ps_raise rfl T.x_54 rfl T.m_54 raises_body (pa_cons pe_str pa_nil))) pss_nil)
  (pss_one (ps_for PassesOwn.leaving rfl (pi_or (pi_list (pv 1)) (pi_tup (pv 1))) (pg_name (i:=2) sc_15.nd rfl (Or.inl rfl)) (pss_one (ps_if (pt_not (pt_val (pe_callH G_51 (hr.mono (by decide)) rfl T.m_51 passF (pa_cons (pv 2) (pa_cons (pv 0) pa_nil))))) (pss_one (ps_raise rfl T.x_54 rfl T.m_54 raises_body (pa_cons pe_str pa_nil))) pss_nil)))))),?_⟩
 walk_at "rd"
 refine ⟨by decide,fun p hp=>?_⟩
 have e1:=Same.new hp (.tup [V.ty "list",V.ty "tuple"])
 have h1:upd H p (.tup [V.ty "list",V.ty "tuple"]) p=some (.tup [V.ty "list",V.ty "tuple"]):=upd_same
 generalize upd H p (HO.tup [V.ty "list",V.ty "tuple"])=H1 at e1 h1 ⊢
 cases z with
 | ref a =>
  obtain ⟨xs,hs,kx⟩:=kz
  have hs1:=hs.same e1
  have notk:¬ TabOk g xs→¬ tabGood H g (.ref a):=by
   rintro h ⟨b,ys,e,hs2,ok⟩
   cases e
   have:=hs.inj hs2
   subst this
   exact h ok
  obtain ⟨tt,ty,hk⟩:∃ tt,TyE K H1 (.ref a) tt∧PySem.W.kitAny K tt [.type "list",.type "tuple"]=some true:=hs1.elim (fun q=>⟨_,.of (.lst q),kiA ki_ll _⟩) fun q=>⟨_,.of (.tup q),kiB ki_tl (kiA ki_tt _)⟩
  refine ⟨tt,ty,_,h1,[.type "list",.type "tuple"],rfl,true,hk,?_⟩
  rw [if_neg (by decide)]
  refine ⟨a,rfl,xs,hs1.sq,?_⟩
  by_cases h256:(256:Int)<xs.length
  ·rw [if_pos h256]
   exact ⟨by decide,hbad (notk fun ok=>by have:=ok.1;lia) _ e1⟩
  rw [if_neg h256]
  refine ⟨a,rfl,xs,hs1.sq,g,_,rfl,g2,g9,fun m hm=>⟨rfl,?_⟩,fun hno=>⟨rfl,?_⟩⟩
  ·by_cases hm0:m=0
   ·subst hm0
    rw [if_pos (show V.int ((0:Nat):Int)=V.int 0 from rfl)]
    refine ⟨by decide,hbad (notk fun ok=>?_) _ e1⟩
    obtain ⟨m',hm1,hl⟩:=ok.2.1
    have:=pow_inj g2 (hm.symm.trans hl)
    lia
   rw [if_neg (by intro z;injection z with z;lia)]
   rcases hs1 with hL | hT
   ·refine Or.inl ⟨_,rfl,a,rfl,⟨_,SqL.of hL⟩,?_⟩
    refine for_list (xs:=xs) (fun i σ H2=>badIx g (xs.take i)=none∧(∃ x2,σ=[some (.int g),some (.ref a),x2])∧H2=H1) ⟨rfl,⟨none,rfl⟩,rfl⟩ (fun i σ H2 _ z=>by rw [z.2.2];exact SqL.of hL) ?_ ?_
    ·rintro i x σ H2 hx ⟨hb,⟨x2,rfl⟩,rfl⟩
     walk_at "rd"
     refine ⟨x,g,rfl,(kx x (List.mem_of_getElem? hx)).same e1,?_⟩
     cases hsg:sgn g x with
     | true =>
      walk_at "rd"
      exact ⟨badIx_step hb hx hsg,_,rfl⟩
     | false =>
      walk_at "rd"
      exact ⟨by decide,hbad (notk fun ok=>by have z:=ok.2.2;rw [badIx_here hb hx hsg] at z;cases z) _ e1⟩
    ·rintro σ H2 ⟨hb,_,rfl⟩
     rw [Z14] at hb
     exact hg ⟨a,xs,rfl,hs,by lia,⟨m,by lia,hm⟩,hb⟩ _ e1
   ·refine Or.inr ⟨_,rfl,a,rfl,⟨_,SqT.of hT⟩,?_⟩
    refine for_tup (xs:=xs) (fun i σ H2=>badIx g (xs.take i)=none∧(∃ x2,σ=[some (.int g),some (.ref a),x2])∧H2=H1) ⟨rfl,⟨none,rfl⟩,rfl⟩ (fun i σ H2 _ z=>by rw [z.2.2];exact SqT.of hT) ?_ ?_
    ·rintro i x σ H2 hx ⟨hb,⟨x2,rfl⟩,rfl⟩
     walk_at "rd"
     refine ⟨x,g,rfl,(kx x (List.mem_of_getElem? hx)).same e1,?_⟩
     cases hsg:sgn g x with
     | true =>
      walk_at "rd"
      exact ⟨badIx_step hb hx hsg,_,rfl⟩
     | false =>
      walk_at "rd"
      exact ⟨by decide,hbad (notk fun ok=>by have z:=ok.2.2;rw [badIx_here hb hx hsg] at z;cases z) _ e1⟩
    ·rintro σ H2 ⟨hb,_,rfl⟩
     rw [Z14] at hb
     exact hg ⟨a,xs,rfl,hs,by lia,⟨m,by lia,hm⟩,hb⟩ _ e1
  ·rw [if_pos rfl]
   refine ⟨by decide,hbad (notk fun ok=>?_) _ e1⟩
   obtain ⟨m',_,hl⟩:=ok.2.1
   exact hno m' hl
 | non =>
  refine ⟨_,.of .non,_,h1,[.type "list",.type "tuple"],rfl,false,kiB ki_nl (kiB ki_nt rfl),?_⟩
  rw [if_pos rfl]
  exact ⟨by decide,hbad (fun ⟨_,_,e,_⟩=>nomatch e) _ e1⟩
 | str y =>
  refine ⟨_,.of (.str y),_,h1,[.type "list",.type "tuple"],rfl,false,kiB ki_sl (kiB ki_st rfl),?_⟩
  rw [if_pos rfl]
  exact ⟨by decide,hbad (fun ⟨_,_,e,_⟩=>nomatch e) _ e1⟩
 | int y =>
  refine ⟨_,.of (.int y),_,h1,[.type "list",.type "tuple"],rfl,false,kiB ki_il (kiB ki_it rfl),?_⟩
  rw [if_pos rfl]
  exact ⟨by decide,hbad (fun ⟨_,_,e,_⟩=>nomatch e) _ e1⟩
 | bl y =>
  refine ⟨_,.of (.bl y),_,h1,[.type "list",.type "tuple"],rfl,false,kiB ki_bl (kiB ki_bt rfl),?_⟩
  rw [if_pos rfl]
  exact ⟨by decide,hbad (fun ⟨_,_,e,_⟩=>nomatch e) _ e1⟩
 | byt _=>exact kz.elim
 | flt _=>exact kz.elim
 | ty _=>exact kz.elim
theorem sc_65:FnScope ["signs","low","table"] ["signs","low","table"] (defScope s_65):=⟨rfl,rfl,rfl,by decide +kernel,rfl,by decide +kernel,by decide +kernel⟩
theorem ok_65 (T:Txt K mg t) (G_26:Has P w K mg base 2 t.f_26 ["signs","low"] (spHead t.c_54)) (G_15:Has P w K mg base 3 t.f_15 ["signs","table"] (spTable t.c_54)):Has P w K mg base 4 t.f_65 ["signs","low","table"] (spRule t.c_54):=by
 refine has_mkX T.d_65 sc_65 (fun _ _ _ _ _ _ us hl=>match us,hl with | [_,_,_],_=>rfl) (fun vs H Q E h=>?_) (fun cdv A outer s H vs Q E hr h=>?_)
 ·obtain ⟨x,y,z,rfl,kx,ky,kz,hg,hbad⟩:=h
  rfl
 obtain ⟨x,y,z,rfl,kx,ky,kz,hg,hbad⟩:=h
 refine ⟨_,(pss_cons (ps_expr (pe_callH G_26 (hr.mono (by decide)) rfl T.m_26 passes_body (pa_cons (pv 0) (pa_cons (pv 1) pa_nil))))
  (pss_cons (ps_expr (pe_callH G_15 (hr.mono (by decide)) rfl T.m_15 passes_body (pa_cons (pv 0) (pa_cons (pv 2) pa_nil))))
  (pss_one (ps_ret (pe_tup (pa_cons (pv 0) (pa_cons (pv 1) (pa_cons (pe_callTy call_tuple_of rfl T.z_tuple PyProof.Rows.boot_tuple (pa_cons (pv 2) pa_nil)) pa_nil)))))))),?_⟩
 walk_at "rd"
 refine ⟨x,y,rfl,kx,ky,fun hgood=>?_,fun hb=>hbad (fun h=>by rw [h.1] at hb;cases hb) _ (Same.refl _)⟩
 obtain ⟨g,lo,rfl,rfl,g2,g9⟩:=goodHead_inv hgood
 refine ⟨g,z,rfl,g2,g9,kz,fun ok H1 e1=>?_,fun nok H1 e1=>hbad (fun h=>?_) _ e1⟩
 ·obtain ⟨a,xs,rfl,hs,ok⟩:=ok
  obtain ⟨tab,rfl,htab⟩:=badIx_none ok.2.2
  refine ⟨a,rfl,tab.map V.int,?_⟩
  rcases hs with hL | hT
  ·refine .inl ⟨SqL.of (e1 _ _ hL),fun l hl=>⟨by decide,fun p hp=>?_⟩⟩
   have e2:=Same.new hl (.tup (tab.map V.int))
   have e3:=Same.new hp (.tup [.int g,.int lo,.ref l])
   exact hg g lo tab a rfl rfl rfl (.inl hL) g2 g9 ok htab p _ ((e1.trans e2).trans e3) ⟨l,upd_same,e3 _ _ upd_same⟩
  ·refine .inr ⟨SqT.of (e1 _ _ hT),by decide,fun p hp=>?_⟩
   have e3:=Same.new hp (.tup [.int g,.int lo,.ref a])
   exact hg g lo tab a rfl rfl rfl (.inr hT) g2 g9 ok htab p _ (e1.trans e3) ⟨a,upd_same,e3 _ _ (e1 _ _ hT)⟩
 ·obtain ⟨_,g',e,h'⟩:=h
  cases e
  exact nok h'
theorem sc_58:FnScope ["one"] ["one"] (defScope s_58):=⟨rfl,rfl,rfl,by decide +kernel,rfl,by decide +kernel,by decide +kernel⟩
theorem ok_58 (T:Txt K mg t) (G_29:Has P w K mg base 1 t.f_29 ["signs","length"] (spPlacesFor)):Has P w K mg base 2 t.f_58 ["one"] (spPlaces):=by
 refine has_mk0 T.d_58 sc_58 (fun _ _ _ _ _ _ us hl=>match us,hl with | [_],_=>rfl) (fun vs H Q E h=>?_) (fun cdv A outer s H vs Q E hr h=>?_)
 ·obtain ⟨r,g,lo,tab,m,rfl,g2,g9,⟨tb,h1,h2⟩,hl,q⟩:=h
  rfl
 obtain ⟨r,g,lo,tab,m,rfl,g2,g9,⟨tb,h1,h2⟩,hl,q⟩:=h
 refine ⟨_,(pss_one (ps_ret (pe_callH G_29 (hr.mono (by decide)) rfl T.m_29 passF (pa_cons (pe_ix ix_tup (pv 0) pe_int (fun _ _=>rfl)) (pa_cons (pe_callB call_len_seq rfl T.z_len PySem.boot_len (pa_cons (pe_ix ix_tup (pv 0) pe_int (fun _ _=>rfl)) pa_nil)) pa_nil))))),?_⟩
 walk_at "rd"
 refine ⟨r,_,0,.int g,rfl,rfl,SqT.of h1,atI_nat rfl,r,_,2,.ref tb,rfl,rfl,SqT.of h1,atI_nat rfl,?_⟩
 walk_at "rd"
 refine ⟨_,.inr (SqT.of h2),g,_,rfl,g2,g9,fun m' e=>?_,fun z=>?_⟩
 ·rw [Z1,hl] at e
  rw [←pow_inj g2 e]
  exact q
 ·exact absurd (by rw [Z1,hl]) (z m)
theorem sc_38:FnScope ["one","word"] ["one","word"] (defScope s_38):=⟨rfl,rfl,rfl,by decide +kernel,rfl,by decide +kernel,by decide +kernel⟩
theorem ok_38 (T:Txt K mg t) (G_9:Has P w K mg base 4 t.f_9 ["word","signs","many"] (spCheckLen K t.c_59)) (G_58:Has P w K mg base 2 t.f_58 ["one"] (spPlaces)) (G_39:Has P w K mg base 4 t.f_39 ["word","signs"] (spNumber K t.c_59)):Has P w K mg base 5 t.f_38 ["one","word"] (spNext K t.c_59):=by
 refine has_mkX T.d_38 sc_38 (fun _ _ _ _ _ _ us hl=>match us,hl with | [_,_],_=>rfl) (fun vs H Q E h=>?_) (fun cdv A outer s H vs Q E hr h=>?_)
 ·obtain ⟨r,a,g,lo,tab,m,xs,rfl,g2,g9,hR,hl,hS,kd,h⟩:=h
  rfl
 obtain ⟨r,a,g,lo,tab,m,xs,rfl,g2,g9,hR,hl,hS,kd,h⟩:=h
 refine ⟨_,(pss_cons (ps_expr (pe_callH G_9 (hr.mono (by decide)) rfl T.m_9 passes_body (pa_cons (pv 1) (pa_cons (pe_ix ix_tup (pv 0) pe_int (fun _ _=>rfl)) (pa_cons (pe_callH G_58 (hr.mono (by decide)) rfl T.m_58 passF (pa_cons (pv 0) pa_nil)) pa_nil)))))
  (pss_one (ps_ret (pe_ix ix_tup (pe_ix ix_tup (pv 0) pe_int (fun _ _=>rfl)) (pe_callH G_39 (hr.mono (by decide)) rfl T.m_39 passes_body (pa_cons (pv 1) (pa_cons (pe_ix ix_tup (pv 0) pe_int (fun _ _=>rfl)) pa_nil))) (fun _ _=>rfl))))),?_⟩
 obtain ⟨tb,h1,h2⟩:=id hR
 walk_at "rd"
 refine ⟨r,_,0,_,rfl,rfl,SqT.of h1,rfl,r,g,lo,tab,m,rfl,g2,g9,hR,hl,a,xs,g,m,rfl,hS,kd,?_⟩
 cases hb:badLen g m xs with
 | some i =>
  rw [hb] at h
  exact h
 | none =>
  rw [hb] at h
  obtain ⟨hlen,hbi⟩:=badLen_none hb
  obtain ⟨ns,rfl,hns⟩:=badIx_none hbi
  rw [Z1] at hlen
  intro H1 e1
  refine ⟨r,_,2,_,rfl,rfl,SqT.of (e1 _ _ h1),rfl,r,_,0,_,rfl,rfl,SqT.of (e1 _ _ h1),rfl,a,_,g,rfl,g2,g9,e1.seq hS,kd_ints,?_⟩
  rw [hbi]
  intro ms hms H2 e2
  have:=ints_inj hms
  subst this
  have nb:=num_lt g2 hns
  rw [hlen,←hl] at nb
  refine ⟨tb,_,_,.int (tab.getD (num g ns).toNat 0),rfl,rfl,SqT.of (e2 _ _ (e1 _ _ h2)),?_,h ns rfl _ (e1.trans e2)⟩
  have z:=getAt (ns:=tab) (k:=(num g ns).toNat) (by lia)
  rw [show (((num g ns).toNat:Nat):Int)=num g ns by lia] at z
  exact z
theorem sc_62:FnScope ["one"] ["one"] (defScope s_62):=⟨rfl,rfl,rfl,by decide +kernel,rfl,by decide +kernel,by decide +kernel⟩
theorem ok_62 (T:Txt K mg t) :Has P w K mg base 1 t.f_62 ["one"] (spHeads):=by
 refine has_mk0 T.d_62 sc_62 (fun _ _ _ _ _ _ us hl=>match us,hl with | [_],_=>rfl) (fun vs H Q E h=>?_) (fun cdv A outer s H vs Q E hr h=>?_)
 ·obtain ⟨r,g,lo,tab,m,rfl,ok,q⟩:=h
  rfl
 obtain ⟨r,g,lo,tab,m,rfl,ok,q⟩:=h
 refine ⟨_,(pss_one (ps_ret (pe_op op_fdiv (pe_callB call_len_seq rfl T.z_len PySem.boot_len (pa_cons (pe_ix ix_tup (pv 0) pe_int (fun _ _=>rfl)) pa_nil)) (pe_ix ix_tup (pv 0) pe_int (fun _ _=>rfl))))),?_⟩
 obtain ⟨tb,h1,h2⟩:=id ok.v
 have g2:=ok.g2
 have g9:=ok.g9
 have m1:=ok.m1
 have m8:=ok.m8
 have hl:=ok.len
 have sz:=ok.sz
 have hlm:(tab.map V.int).length=tab.length:=List.length_map ..
 walk_at "rd"
 refine ⟨r,_,2,_,rfl,rfl,SqT.of h1,rfl,?_⟩
 walk_at "rd"
 refine ⟨_,.inr (SqT.of h2),r,_,0,_,rfl,rfl,SqT.of h1,rfl,g,rfl,by lia,by lia,?_⟩
 have e:(((tab.map V.int).length:Nat):Int) / g=((tab.length / g.toNat:Nat):Int):=by
  rw [hlm,Z18,Int.toNat_of_nonneg (by lia)]
 rw [e]
 exact q
theorem sc_56:FnScope ["one","weight","table","number","told","there"] ["one","weight"] (defScope s_56):=⟨rfl,rfl,rfl,by decide +kernel,rfl,by decide +kernel,by decide +kernel⟩
theorem ok_56 (T:Txt K mg t) :Has P w K mg base 1 t.f_56 ["one","weight"] (spCounts):=by
 refine has_mk0 T.d_56 sc_56 (fun _ _ _ _ _ _ us hl=>match us,hl with | [_,_],_=>rfl) (fun vs H Q E h=>?_) (fun cdv A outer s H vs Q E hr h=>?_)
 ·obtain ⟨r,g,lo,tab,wt,rfl,g2,g9,hR,w0,w3,tl,q⟩:=h
  rfl
 obtain ⟨r,g,lo,tab,wt,rfl,g2,g9,hR,w0,w3,tl,q⟩:=h
 refine ⟨_,(pss_cons (ps_set (i:=2) sc_56.nd rfl (Or.inl rfl) (pe_ix ix_tup (pv 0) pe_int (fun _ _=>rfl)))
  (pss_cons (ps_for PassesOwn.never rfl (pi_enumT rfl T.z_enumerate (pa_cons (pv 2) pa_nil)) (pg_tup rfl (pgs_cons (pg_name (i:=3) sc_56.nd rfl (Or.inl rfl)) (pgs_cons (pg_name (i:=4) sc_56.nd rfl (Or.inl rfl)) pgs_nil))) (pss_cons (ps_set (i:=5) sc_56.nd rfl (Or.inl rfl) (pe_op op_mod (pe_op op_fdiv (pv 3) (pv 1)) (pe_ix ix_tup (pv 0) pe_int (fun _ _=>rfl))))
  (pss_one (ps_if (pt_cmpR op_ne (pv 4) (pe_ix ix_tup (pv 2) (pe_op op_sub (pv 3) (pe_op op_mul (pv 5) (pv 1))) (fun _ _=>rfl)) (nomark _)) (pss_one (ps_ret pe_bl)) pss_nil))))
  (pss_one (ps_ret pe_bl)))),?_⟩
 obtain ⟨tb,h1,h2⟩:=id hR
 walk_at "rd"
 refine ⟨r,_,2,_,rfl,rfl,SqT.of h1,rfl,?_⟩
 walk_at "rd"
 refine ⟨_,rfl,tb,_,rfl,SqT.of h2,?_⟩
 refine for_enumT (xs:=tab.map V.int) (fun i σ H1=>(∃ x3 x4 x5,σ=[some (.ref r),some (.int wt),some (.ref tb),x3,x4,x5])∧Same H H1∧∀ k,k<i→tab.getD k 0=tab.getD ((k:Int) - (k:Int) / wt%g*wt).toNat 0) ⟨⟨none,none,none,rfl⟩,Same.refl _,fun k hk=>absurd hk (Nat.not_lt_zero _)⟩ (fun i σ H1 _ z=>SqT.of (z.2.1 _ _ h2)) ?_ ?_
 ·rintro i x p2 σ H1 hx ⟨⟨x3,x4,x5,rfl⟩,e,hall⟩ hp2
  obtain ⟨n,hn,rfl⟩:=getInt hx
  have hi:i<tab.length:=(List.getElem?_eq_some_iff.mp hn).1
  have e2:Same H (upd H1 p2 (.tup [.int ((i:Nat):Int),.int n])):=e.trans (Same.new hp2 _)
  refine ⟨p2,_,rfl,SqT.of upd_same,rfl,_,_,rfl,_,_,rfl,rfl,?_⟩
  walk_at "rd"
  have ix:=cnt_ix (k:=(i:Int)) (w:=wt) (g:=g) (by lia) w0 g2
  have gA:=getAtZ (ns:=tab) ix.1 (by lia)
  have ng:n=tab.getD i 0:=by rw [Z0,hn];rfl
  refine ⟨w0,by lia,r,_,0,_,rfl,rfl,SqT.of (e2 _ _ h1),rfl,g,rfl,by lia,.inr ⟨by lia,by lia⟩,tb,_,_,_,rfl,rfl,SqT.of (e2 _ _ h2),gA,rfl,?_⟩
  by_cases hd:V.int n=V.int (tab.getD ((i:Int) - (i:Int) / wt%g*wt).toNat 0)
  ·rw [if_neg (fun z=>z hd)]
   refine ⟨⟨_,rfl⟩,e2,fun k hk=>?_⟩
   by_cases z:k=i
   ·subst z
    rw [←ng]
    exact V.int.inj hd
   ·exact hall k (by lia)
  ·rw [if_pos hd]
   have z:cntB g tab wt=true:=cntB_true.mpr ⟨i,hi,fun y=>hd (by rw [ng,y])⟩
   rw [z] at q
   exact q _ e2
 ·rintro σ H1 ⟨⟨x3,x4,x5,rfl⟩,e,hall⟩
  walk_at "rd"
  rw [Z1] at hall
  have z:cntB g tab wt=false:=by
   cases z:cntB g tab wt with
   | false=>rfl
   | true =>
    obtain ⟨k,hk,h⟩:=cntB_true.mp z
    exact absurd (hall k hk) h
  rw [z] at q
  exact q H1 e
theorem sc_43:FnScope ["one","found","weight","at"] ["one"] (defScope s_43):=⟨rfl,rfl,rfl,by decide +kernel,rfl,by decide +kernel,by decide +kernel⟩
theorem ok_43 (T:Txt K mg t) (G_58:Has P w K mg base 2 t.f_58 ["one"] (spPlaces)) (G_56:Has P w K mg base 1 t.f_56 ["one","weight"] (spCounts)):Has P w K mg base 3 t.f_43 ["one"] (spCounting):=by
 refine has_mk0 T.d_43 sc_43 (fun _ _ _ _ _ _ us hl=>match us,hl with | [_],_=>rfl) (fun vs H Q E h=>?_) (fun cdv A outer s H vs Q E hr h=>?_)
 ·obtain ⟨r,g,lo,tab,m,rfl,g2,g9,hR,hl,m1,m8,gm,q⟩:=h
  rfl
 obtain ⟨r,g,lo,tab,m,rfl,g2,g9,hR,hl,m1,m8,gm,q⟩:=h
 refine ⟨_,(pss_cons (ps_set (i:=1) sc_43.nd rfl (Or.inl rfl) (pe_lst pa_nil))
  (pss_cons (ps_set (i:=2) sc_43.nd rfl (Or.inl rfl) (pe_callB call_len_seq rfl T.z_len PySem.boot_len (pa_cons (pe_ix ix_tup (pv 0) pe_int (fun _ _=>rfl)) pa_nil)))
  (pss_cons (ps_for PassesOwn.never rfl (pi_range1 rfl T.z_range (pa_cons (pe_callH G_58 (hr.mono (by decide)) rfl T.m_58 passF (pa_cons (pv 0) pa_nil)) pa_nil)) (pg_name (i:=3) sc_43.nd rfl (Or.inl rfl)) (pss_cons (ps_set (i:=2) sc_43.nd rfl (Or.inl rfl) (pe_op op_fdiv (pv 2) (pe_ix ix_tup (pv 0) pe_int (fun _ _=>rfl))))
  (pss_one (ps_if (pt_val (pe_callH G_56 (hr.mono (by decide)) rfl T.m_56 passF (pa_cons (pv 0) (pa_cons (pv 2) pa_nil)))) (pss_one (ps_expr (pe_bm PySem.F.plainAttrs_list PySem.F.slot_list_append PySem.F.type_list_append mt_append (pv 1) (pa_cons (pe_op op_add (pe_ix ix_tup (pv 0) pe_int (fun _ _=>rfl)) (pv 3)) pa_nil)))) pss_nil))))
  (pss_one (ps_ret (pv 1)))))),?_⟩
 obtain ⟨tb,h1,h2⟩:=id hR
 walk_at "rd"
 refine ⟨Nat.zero_le _,fun p hp=>?_⟩
 have e0:=Same.new hp (.lst [])
 refine ⟨r,_,2,_,rfl,rfl,SqT.of (e0 _ _ h1),rfl,?_⟩
 walk_at "rd"
 refine ⟨_,.inr (SqT.of (e0 _ _ h2)),?_⟩
 rw [Z1]
 refine ⟨_,rfl,r,g,lo,tab,m,rfl,g2,g9,hR.same e0,hl,_,rfl,by lia,by lia,?_⟩
 refine for_range (n:=m) (fun i σ H1=>∃ x3,σ=[some (.ref r),some (.ref p),some (.int (g^(m - i))),x3]∧Same H H1∧H1 p=some (.lst ((((List.range i).filter fun j=>cntB g tab (g^(m - 1 - j))).map fun j:Nat=>lo+(j:Int)).map V.int))) ⟨none,by rw [hl,Nat.sub_zero],e0,upd_same⟩ ?_ ?_
 ·rintro i σ H1 hi ⟨x3,rfl,e,hp1⟩
  have dv:g^(m - i) / g=g^(m - 1 - i):=by
   rw [show m - i=(m - 1 - i)+1 by lia,Z7,Int.mul_ediv_cancel _ (by lia)]
  have gp:=RW.pow_pos g2 (m - 1 - i)
  have gb:=pow_mono g2 (show m - 1 - i≤m by lia)
  walk_at "rd"
  refine ⟨r,_,0,_,rfl,rfl,SqT.of (e _ _ h1),rfl,?_⟩
  walk_at "rd"
  rw [dv]
  refine ⟨by lia,by lia,r,g,lo,tab,_,rfl,g2,g9,hR.same e,gp,by lia,by lia,fun H2 e2=>?_⟩
  have e3:=e.trans e2
  refine ⟨_,rfl,?_⟩
  cases hc:cntB g tab (g^(m - 1 - i)) with
  | true =>
   rw [if_pos rfl]
   refine ⟨.inl ⟨_,SqL.of (e2 _ _ hp1)⟩,r,_,1,_,rfl,rfl,SqT.of (e3 _ _ h1),rfl,lo,rfl,_,e2 _ _ hp1,?_,by rw [show m - (i+1)=m - 1 - i by lia],e3.into hp,?_⟩
   ·rw [Z1,Z1]
    have:=List.length_filter_le (fun j=>cntB g tab (g^(m - 1 - j))) (List.range i)
    rw [Z2] at this
    exact small1000 (by lia)
   ·rw [upd_same,List.range_succ,List.filter_append,Z3,Z3,Z8]
    simp [List.filter,hc]
  | false =>
   rw [if_neg (by decide)]
   refine ⟨by rw [show m - (i+1)=m - 1 - i by lia],e3,?_⟩
   rw [e2 _ _ hp1,List.range_succ,List.filter_append]
   simp [List.filter,hc]
 ·rintro σ H1 ⟨x3,rfl,e,hp1⟩
  walk_at "rd"
  exact q p H1 ⟨e,hp,hp1⟩
theorem sc_3:FnScope ["word","at"] ["word","at"] (defScope s_3):=⟨rfl,rfl,rfl,by decide +kernel,rfl,by decide +kernel,by decide +kernel⟩
theorem ok_3 (T:Txt K mg t) :Has P w K mg base 1 t.f_3 ["word","at"] (spSignOr K):=by
 refine has_mk0 T.d_3 sc_3 (fun _ _ _ _ _ _ us hl=>match us,hl with | [_,_],_=>rfl) (fun vs H Q E h=>?_) (fun cdv A outer s H vs Q E hr h=>?_)
 ·obtain ⟨a,v,z,rfl,hS,q⟩:=h
  rfl
 obtain ⟨a,v,z,rfl,hS,q⟩:=h
 refine ⟨_,(pss_cons (ps_if (PW.pt (pw_or (pt_cmpR op_lt (pv 1) pe_int (nomark _)) (pw_or1 (pt_cmpR op_ge (pv 1) (pe_callB call_len_seq rfl T.z_len PySem.boot_len (pa_cons (pv 0) pa_nil)) (nomark _))))) (pss_one (ps_ret pe_int)) pss_nil)
  (pss_one (ps_ret (pe_ix ix_list (pv 0) (pv 1) (fun _ _=>rfl))))),?_⟩
 have hlm:(v.map V.int).length=v.length:=List.length_map ..
 unfold sn at q
 walk_at "rd"
 by_cases h0:z<0
 ·rw [if_pos (.inl h0)] at q
  rw [if_pos h0]
  exact q
 rw [if_neg h0]
 refine ⟨_,.inl hS,?_⟩
 rw [hlm]
 by_cases h1:(v.length:Int)≤z
 ·rw [if_pos (.inr h1)] at q
  rw [if_pos h1]
  exact q
 rw [if_neg h1]
 rw [if_neg (by lia)] at q
 exact ⟨a,_,_,_,rfl,rfl,hS,getAtZ (by lia) (by lia),q⟩
theorem sc_35:FnScope ["one","low","many","ahead","table","number","word"] ["one","low","many"] (defScope s_35):=⟨rfl,rfl,rfl,by decide +kernel,rfl,by decide +kernel,by decide +kernel⟩
theorem ok_35 (T:Txt K mg t) (G_65:Has P w K mg base 4 t.f_65 ["signs","low","table"] (spRule t.c_54)) (G_11:Has P w K mg base 1 t.f_11 ["signs","many"] (spTLen)) (G_53:HasN P w K mg base 1 t.f_53 ["number","signs","many"] (spWord t.c_55)) (G_38:Has P w K mg base 5 t.f_38 ["one","word"] (spNext K t.c_59)) (G_3:Has P w K mg base 1 t.f_3 ["word","at"] (spSignOr K)) (G_58:Has P w K mg base 2 t.f_58 ["one"] (spPlaces)):Has P w K mg base 6 t.f_35 ["one","low","many"] (spByWin):=by
 refine has_mk0 T.d_35 sc_35 (fun _ _ _ _ _ _ us hl=>match us,hl with | [_,_,_],_=>rfl) (fun vs H Q E h=>?_) (fun cdv A outer s H vs Q E hr h=>?_)
 ·obtain ⟨r,g,lo,tab,m,low,M,rfl,ok,M1,gM,q⟩:=h
  rfl
 obtain ⟨r,g,lo,tab,m,low,M,rfl,ok,M1,gM,q⟩:=h
 refine ⟨_,(pss_cons (ps_set (i:=3) sc_35.nd rfl (Or.inr rfl) (pe_op op_sub (pe_ix ix_tup (pv 0) pe_int (fun _ _=>rfl)) (pv 1)))
  (pss_cons (ps_set (i:=4) sc_35.nd rfl (Or.inl rfl) (pe_lst pa_nil))
  (pss_cons (ps_for PassesOwn.never rfl (pi_range1 rfl T.z_range (pa_cons (pe_callH G_11 (hr.mono (by decide)) rfl T.m_11 passF (pa_cons (pe_ix ix_tup (pv 0) pe_int (fun _ _=>rfl)) (pa_cons (pv 2) pa_nil))) pa_nil)) (pg_name (i:=5) sc_35.nd rfl (Or.inl rfl)) (pss_cons (ps_set (i:=6) sc_35.nd rfl (Or.inr rfl) (pe_callN G_53 (hr.mono (by decide)) rfl T.m_53 passFN (pa_cons (pv 5) (pa_cons (pe_ix ix_tup (pv 0) pe_int (fun _ _=>rfl)) (pa_cons (pv 2) pa_nil)))))
  (pss_one (ps_expr (pe_bm PySem.F.plainAttrs_list PySem.F.slot_list_append PySem.F.type_list_append mt_append (pv 4) (pa_cons (pe_callH G_38 (hr.mono (by decide)) rfl T.m_38 passF (pa_cons (pv 0) (pa_cons (pe_comp (fv:=[(6,"word"),(3,"ahead")]) (cl:=[("word",_),("ahead",_)]) rfl (pi_range1 rfl T.z_range (pa_cons (pe_callH G_58 (hr.mono (by decide)) rfl T.m_58 passF (pa_cons (pv 0) pa_nil)) pa_nil)) (by with_unfolding_all rfl) (by decide +kernel) rfl (by decide +kernel) rfl ⟨(by with_unfolding_all rfl),⟨(by with_unfolding_all rfl),trivial⟩⟩ (by with_unfolding_all rfl) ⟨⟨rfl,rfl,(by with_unfolding_all rfl),rfl⟩,⟨⟨rfl,rfl,(by with_unfolding_all rfl),rfl⟩,trivial⟩⟩ (by decide) (fun _ _ _ _=>pf_nil) (fun _ _ _ _=>(pe_callH G_3 (hr.mono (by decide)) rfl T.m_3 passF (pa_cons (pv 1) (pa_cons (pe_op op_add (pv 2) (pv 0)) pa_nil))))) pa_nil))) pa_nil))))))
  (pss_one (ps_ret (pe_callH G_65 (hr.mono (by decide)) rfl T.m_65 passF (pa_cons (pe_ix ix_tup (pv 0) pe_int (fun _ _=>rfl)) (pa_cons (pv 1) (pa_cons (pv 4) pa_nil))))))))),?_⟩
 obtain ⟨tb,h1,h2⟩:=id ok.v
 have g2:=ok.g2
 have g9:=ok.g9
 have m8:=ok.m8
 have hl:=ok.len
 have gp:=RW.pow_pos g2 M
 have M8:=pow_le_eight g2 gM
 walk_at "rd"
 refine ⟨r,_,1,_,rfl,rfl,SqT.of h1,rfl,lo,rfl,Nat.zero_le _,fun p hp=>?_⟩
 have e0:=Same.new hp (.lst [])
 refine ⟨_,rfl,r,_,0,_,rfl,rfl,SqT.of (e0 _ _ h1),rfl,_,rfl,?_⟩
 refine ⟨g,_,rfl,g2,g9,by lia,fun _=>?_,fun z=>absurd z (by rw [Z5];lia)⟩
 rw [Z5]
 refine ⟨_,rfl,by lia,by lia,?_⟩
 refine for_range (n:=(g^M).toNat) (fun i σ H1=>∃ x5 x6,σ=[some (.ref r),some (.int low),some (.int ((M:Nat):Int)),some (.int (lo - low)),some (.ref p),x5,x6]∧Same H H1∧H1 p=some (.lst (((List.range i).map fun n:Nat=>tab.getD (num g (bwW (wordL g (n:Int) M) (lo - low) m)).toNat 0).map V.int))) ⟨none,none,rfl,e0,upd_same⟩ ?_ ?_
 ·rintro i σ H1 hi ⟨x5,x6,rfl,e,hp1⟩
  walk_at "rd"
  refine ⟨r,_,0,_,rfl,rfl,SqT.of (e _ _ h1),rfl,_,g,_,rfl,g2,g9,by lia,by lia,fun z=>absurd z (by rw [Z5];lia),fun _ _ pw H2 hN2=>?_⟩
  rw [Z5,Z8] at hN2
  have e2:=e.trans hN2.1
  have hp2:=hN2.1 _ _ hp1
  refine ⟨.inl ⟨_,SqL.of hp2⟩,?_⟩
  refine ⟨_,rfl,r,g,lo,tab,m,rfl,g2,g9,ok.v.same e2,hl,_,rfl,by lia,by lia,fun D hD=>?_⟩
  rw [Z5]
  have hw2:H2 pw=some (.lst ((wordL g (i:Int) M).map V.int)):=hN2.2.2
  refine comp_range (n:=m) (fun j acc Hx=>acc=((List.range j).map fun k:Nat=>sn (wordL g (i:Int) M) (lo - low+(k:Int))).map V.int∧Hx=upd H2 D (.lst acc)) ⟨rfl,rfl⟩ ?_ ?_
  ·rintro j acc Hx hj ⟨rfl,rfl⟩
   walk_at "rd"
   rw [Z8]
   refine ⟨pw,_,_,rfl,SqL.of (Same.new hD _ _ _ hw2),upd_same,?_,?_,by rw [upd_upd]⟩
   ·rw [Z1,Z1,Z2]
    exact small1000 (by lia)
   ·rw [range_succ_map,Z3]
    rfl
  ·rintro acc Hx ⟨rfl,rfl⟩
   have en:=Same.new hD (.lst ((bwW (wordL g (i:Int) M) (lo - low) m).map V.int))
   have bb:=bwW_lt g2 (wordL_lt g2 (i:Int) M) (lo - low) m
   have bl:=badLen_ints bb
   rw [bwW_len] at bl
   refine ⟨r,D,g,lo,tab,m,(bwW (wordL g (i:Int) M) (lo - low) m).map V.int,rfl,g2,g9,(ok.v.same e2).same en,hl,SqL.of upd_same,kd_ints,?_⟩
   rw [bl]
   intro ms hms H4 e4
   have:=ints_inj hms
   subst this
   have e24:=en.trans e4
   refine ⟨_,e24 _ _ hp2,?_,(e2.trans e24).into hp,?_⟩
   ·rw [Z1,Z1,Z2]
    exact small1000 (by lia)
   ·rw [upd_same,range_succ_map,Z3]
    rfl
 ·rintro σ H1 ⟨x5,x6,rfl,e,hp1⟩
  walk_at "rd"
  refine ⟨r,_,0,_,rfl,rfl,SqT.of (e _ _ h1),rfl,?_⟩
  exact rule_call (tab:=bwT g lo tab m low M) g2 g9 M1 (bwT_len g2 _ _ _ _ _) gM (bwT_lt g2 _ ok.tb _ _ _) (.inl hp1) fun r' H' e' hR=>q r' H' (e.trans e') (ok.bw M1 gM hR)
theorem sc_57:FnScope ["one","found"] ["one"] (defScope s_57):=⟨rfl,rfl,rfl,by decide +kernel,rfl,by decide +kernel,by decide +kernel⟩
theorem ok_57 (T:Txt K mg t) (G_43:Has P w K mg base 3 t.f_43 ["one"] (spCounting)) (G_35:Has P w K mg base 6 t.f_35 ["one","low","many"] (spByWin)):Has P w K mg base 7 t.f_57 ["one"] (spNarrow):=by
 refine has_mk0 T.d_57 sc_57 (fun _ _ _ _ _ _ us hl=>match us,hl with | [_],_=>rfl) (fun vs H Q E h=>?_) (fun cdv A outer s H vs Q E hr h=>?_)
 ·obtain ⟨r,g,lo,tab,m,rfl,ok,q⟩:=h
  rfl
 obtain ⟨r,g,lo,tab,m,rfl,ok,q⟩:=h
 refine ⟨_,(pss_cons (ps_set (i:=1) sc_57.nd rfl (Or.inl rfl) (pe_callH G_43 (hr.mono (by decide)) rfl T.m_43 passF (pa_cons (pv 0) pa_nil)))
  (pss_cons (ps_if (pt_cmpR op_eq (pe_callB call_len_seq rfl T.z_len PySem.boot_len (pa_cons (pv 1) pa_nil)) pe_int (nomark _)) (pss_one (ps_ret (pe_callH G_35 (hr.mono (by decide)) rfl T.m_35 passF (pa_cons (pv 0) (pa_consC (pa_consC pa_nil)))))) pss_nil)
  (pss_one (ps_ret (pe_callH G_35 (hr.mono (by decide)) rfl T.m_35 passF (pa_cons (pv 0) (pa_cons (pe_ix ix_list (pv 1) pe_int (fun _ _=>rfl)) (pa_cons (pe_op op_add (pe_op op_sub (pe_ix ix_list (pv 1) (pe_un un_neg pe_int) (fun _ _=>rfl)) (pe_ix ix_list (pv 1) pe_int (fun _ _=>rfl))) pe_int) pa_nil)))))))),?_⟩
 have g2:=ok.g2
 have g9:=ok.g9
 have m1:=ok.m1
 have m8:=ok.m8
 have sz:=ok.sz
 walk_at "rd"
 refine ⟨r,g,lo,tab,m,rfl,g2,g9,ok.v,ok.len,m1,m8,sz,fun p H1 hN1=>?_⟩
 have hcl:((countL g lo tab m).map V.int).length=(countL g lo tab m).length:=List.length_map ..
 walk_at "rd"
 refine ⟨_,.inl (SqL.of hN1.2.2),?_⟩
 rw [hcl]
 by_cases hc:countL g lo tab m=[]
 ·rw [if_pos (by rw [hc];rfl)]
  have g1:g^1=g:=by rw [Z7,Z13,Z23]
  exact ⟨r,g,lo,tab,m,0,1,rfl,ok.same hN1.1,Nat.le_refl _,by lia,fun r' H' e' ok'=>q 0 1 (narW_nil hc) r' H' (hN1.1.trans e') ok'⟩
 ·obtain ⟨M,hM,hMm,hW⟩:=narW_some hc
  have hp0:0<(countL g lo tab m).length:=List.length_pos_iff.mpr hc
  rw [if_neg (by lia)]
  have gM:=pow_mono g2 hMm
  refine ⟨p,_,0,_,rfl,rfl,SqL.of hN1.2.2,getAtZ (by decide) (by show 0<_;lia),p,_,_,_,rfl,rfl,SqL.of hN1.2.2,atI_lastI hp0,p,_,0,_,rfl,rfl,SqL.of hN1.2.2,getAtZ (by decide) (by show 0<_;lia),_,rfl,_,rfl,?_⟩
  refine ⟨r,g,lo,tab,m,(countL g lo tab m).getD 0 0,M,?_,ok.same hN1.1,hW.one,by lia,fun r' H' e' ok'=>q _ M hW r' H' (hN1.1.trans e') ok'⟩
  rw [hM]
  rfl
theorem sc_52:FnScope ["one","low","high","place"] ["one","low","high"] (defScope s_52):=⟨rfl,rfl,rfl,by decide +kernel,rfl,by decide +kernel,by decide +kernel⟩
theorem ok_52 (T:Txt K mg t) (G_43:Has P w K mg base 3 t.f_43 ["one"] (spCounting)) (G_35:Has P w K mg base 6 t.f_35 ["one","low","many"] (spByWin)) (G_11:Has P w K mg base 1 t.f_11 ["signs","many"] (spTLen)):Has P w K mg base 7 t.f_52 ["one","low","high"] (spWidened t.c_40 t.c_48):=by
 refine has_mkX T.d_52 sc_52 (fun _ _ _ _ _ _ us hl=>match us,hl with | [_,_,_],_=>rfl) (fun vs H Q E h=>?_) (fun cdv A outer s H vs Q E hr h=>?_)
 ·obtain ⟨r,g,lo,tab,m,low,high,rfl,ok,hout,hwide,hok⟩:=h
  rfl
 obtain ⟨r,g,lo,tab,m,low,high,rfl,ok,hout,hwide,hok⟩:=h
 refine ⟨_,(pss_cons (ps_if (pt_cmpR op_gt (pv 1) (pv 2) (nomark _)) (pss_one (ps_raise rfl T.x_40 rfl T.m_40 raises_body (pa_cons pe_str pa_nil))) pss_nil)
  (pss_cons (ps_for PassesOwn.leaving rfl (pi_list (pe_callH G_43 (hr.mono (by decide)) rfl T.m_43 passF (pa_cons (pv 0) pa_nil))) (pg_name (i:=3) sc_52.nd rfl (Or.inl rfl)) (pss_one (ps_if (PW.pt (pw_or (pt_cmpR op_lt (pv 3) (pv 1) (nomark _)) (pw_or1 (pt_cmpR op_gt (pv 3) (pv 2) (nomark _))))) (pss_one (ps_raise rfl T.x_40 rfl T.m_40 raises_body (pa_cons pe_str pa_nil))) pss_nil)))
  (pss_cons (ps_if (pt_cmpR op_gt (pe_callH G_11 (hr.mono (by decide)) rfl T.m_11 passF (pa_cons (pe_ix ix_tup (pv 0) pe_int (fun _ _=>rfl)) (pa_cons (pe_op op_add (pe_op op_sub (pv 2) (pv 1)) pe_int) pa_nil))) (pe_constE rfl T.g_LONGEST_TABLE) (nomark _)) (pss_one (ps_raise rfl T.x_48 rfl T.m_48 raises_body (pa_cons pe_str pa_nil))) pss_nil)
  (pss_one (ps_ret (pe_callH G_35 (hr.mono (by decide)) rfl T.m_35 passF (pa_cons (pv 0) (pa_cons (pv 1) (pa_cons (pe_op op_add (pe_op op_sub (pv 2) (pv 1)) pe_int) pa_nil))))))))),?_⟩
 obtain ⟨tb,h1,h2⟩:=id ok.v
 have g2:=ok.g2
 have g9:=ok.g9
 have m1:=ok.m1
 have m8:=ok.m8
 walk_at "rd"
 by_cases hlh:high<low
 ·rw [if_pos hlh]
  exact ⟨by decide,hout (.inl hlh) _ (Same.refl _)⟩
 rw [if_neg hlh]
 refine ⟨_,rfl,r,g,lo,tab,m,rfl,g2,g9,ok.v,ok.len,m1,m8,ok.sz,fun p H1 hN1=>?_⟩
 refine ⟨p,rfl,⟨_,SqL.of hN1.2.2⟩,?_⟩
 refine for_list (xs:=(countL g lo tab m).map V.int) (fun i σ H2=>(∃ x3,σ=[some (.ref r),some (.int low),some (.int high),x3])∧H2=H1∧∀ z∈(countL g lo tab m).take i,low≤z∧z≤high) ⟨⟨none,rfl⟩,rfl,fun z hz=>absurd hz (by simp)⟩ (fun i σ H2 _ z=>by rw [z.2.1];exact SqL.of hN1.2.2) ?_ ?_
 ·rintro i x σ H2 hx ⟨⟨x3,rfl⟩,rfl,hall⟩
  obtain ⟨n,hn,rfl⟩:=getInt hx
  have nm:=List.mem_of_getElem? hn
  walk_at "rd"
  by_cases c1:n<low
  ·rw [if_pos c1]
   exact ⟨by decide,hout (.inr ⟨n,nm,.inl c1⟩) _ hN1.1⟩
  rw [if_neg c1]
  by_cases c2:high<n
  ·rw [if_pos c2]
   exact ⟨by decide,hout (.inr ⟨n,nm,.inr c2⟩) _ hN1.1⟩
  rw [if_neg c2]
  refine ⟨⟨_,rfl⟩,fun z hz=>?_⟩
  rw [Z22,hn] at hz
  rcases List.mem_append.mp hz with y | y
  ·exact hall z y
  ·have:z=n:=by simpa using y
   lia
 ·rintro σ H2 ⟨⟨x3,rfl⟩,rfl,hall⟩
  rw [Z1,Z14] at hall
  have nout:¬ outW g lo tab m low high:=by
   rintro (z | ⟨z,hz,y⟩)
   ·exact hlh z
   ·have:=hall z hz
    lia
  walk_at "rd"
  refine ⟨r,_,0,_,rfl,rfl,SqT.of (hN1.1 _ _ h1),rfl,g,_,rfl,g2,g9,by lia,fun hle=>?_,fun hgt rr hrr=>?_⟩
  ·refine ⟨_,rfl,?_⟩
   rw [if_neg (by lia)]
   exact ⟨r,g,lo,tab,m,low,(high - low+1).toNat,by rw [show (((high - low+1).toNat:Nat):Int)=high - low+1 by lia],ok.same hN1.1,by lia,hle,fun r' H' e' ok'=>hok nout hle r' H' (hN1.1.trans e') ok'⟩
  ·refine ⟨_,rfl,?_⟩
   rw [if_pos hrr]
   exact ⟨by decide,hwide nout hgt _ hN1.1⟩
theorem sc_61:FnScope ["one","least"] ["one"] (defScope s_61):=⟨rfl,rfl,rfl,by decide +kernel,rfl,by decide +kernel,by decide +kernel⟩
theorem ok_61 (T:Txt K mg t) (G_57:Has P w K mg base 7 t.f_57 ["one"] (spNarrow)) (G_58:Has P w K mg base 2 t.f_58 ["one"] (spPlaces)) (G_52:Has P w K mg base 7 t.f_52 ["one","low","high"] (spWidened t.c_40 t.c_48)) (G_62:Has P w K mg base 1 t.f_62 ["one"] (spHeads)):Has P w K mg base 8 t.f_61 ["one"] (spFrame t.c_48):=by
 refine has_mkX T.d_61 sc_61 (fun _ _ _ _ _ _ us hl=>match us,hl with | [_],_=>rfl) (fun vs H Q E h=>?_) (fun cdv A outer s H vs Q E hr h=>?_)
 ·obtain ⟨r,g,lo,tab,m,lf,tf,mf,rfl,ok,fw,hok,hex⟩:=h
  rfl
 obtain ⟨r,g,lo,tab,m,lf,tf,mf,rfl,ok,fw,hok,hex⟩:=h
 refine ⟨_,(pss_cons (ps_set (i:=1) sc_61.nd rfl (Or.inl rfl) (pe_callH G_57 (hr.mono (by decide)) rfl T.m_57 passF (pa_cons (pv 0) pa_nil)))
  (pss_cons (ps_if (pt_cmpR op_eq (pe_callH G_58 (hr.mono (by decide)) rfl T.m_58 passF (pa_cons (pv 1) pa_nil)) pe_int (nomark _)) (pss_one (ps_ret (pe_callH G_52 (hr.mono (by decide)) rfl T.m_52 passes_body (pa_cons (pv 1) (pa_cons (pe_ix ix_tup (pv 1) pe_int (fun _ _=>rfl)) (pa_cons (pe_op op_add (pe_ix ix_tup (pv 1) pe_int (fun _ _=>rfl)) pe_int) pa_nil)))))) pss_nil)
  (pss_cons (ps_if (pt_cmpR op_gt (pe_callH G_62 (hr.mono (by decide)) rfl T.m_62 passF (pa_cons (pv 1) pa_nil)) (pe_constE rfl T.g_MOST_NODES) (nomark _)) (pss_one (ps_raise rfl T.x_48 rfl T.m_48 raises_body (pa_cons pe_str pa_nil))) pss_nil)
  (pss_one (ps_ret (pv 1)))))),?_⟩
 have g2:=ok.g2
 have g9:=ok.g9
 refine hide fun N hN=>?_
 walk_at "rd"
 refine ⟨r,g,lo,tab,m,rfl,ok,fun low M hW r1 H1 e1 ok1=>hN _ _ ?_⟩
 clear hN N
 walk_at "rd"
 refine ⟨r1,g,low,_,M,rfl,g2,g9,ok1.v,ok1.len,rfl,?_⟩
 obtain ⟨low',M',hW',elf,hc⟩:=id fw
 obtain ⟨rfl,rfl⟩:=nar_uniq g2 ok.len hW hW'
 subst elf
 obtain ⟨tb,h1,h2⟩:=id ok1.v
 rcases hc with ⟨rfl,rfl,rfl⟩ | ⟨hM,rfl,rfl⟩
 ·rw [if_pos (show V.int ((1:Nat):Int)=V.int 1 from rfl)]
  have g1:g^(2 - 1)=g:=by show g^(0+1)=g;rw [Z7,Z13,Z23]
  have e2:(lf+1 - lf+1).toNat=2:=by lia
  refine ⟨r1,_,1,_,rfl,rfl,SqT.of h1,rfl,r1,_,1,_,rfl,rfl,SqT.of h1,rfl,lf,rfl,?_⟩
  refine ⟨r1,g,lf,_,1,lf,lf+1,rfl,ok1,fun ho=>?_,fun _ hw=>?_,fun _ _ r2 H2 f2 ok2=>?_⟩
  ·exfalso
   rcases ho with z | ⟨z,hz,y⟩
   ·lia
   ·unfold countL at hz
    obtain ⟨j,hj,rfl⟩:=List.mem_map.mp hz
    have:=List.mem_range.mp (List.mem_filter.mp hj).1
    lia
  ·exfalso
   rw [e2] at hw
   have:g^2≤9*9:=by
    rw [show (2:Nat)=(2 - 1)+1 from rfl,Z7,g1]
    exact Int.mul_le_mul g9 g9 (by lia) (by lia)
   lia
  ·rw [e2] at ok2
   exact hok (by lia) r2 H2 (e1.trans f2) ok2
 ·rw [if_neg (fun z=>by have:=V.int.inj z;lia)]
  refine ⟨r1,g,lf,_,mf,rfl,ok1,_,rfl,?_⟩
  rw [(heads_is g2 ok1.len ok1.m1).1]
  by_cases h9:9<g^(mf - 1)
  ·rw [if_pos h9]
   exact ⟨by decide,hex h9 _ e1⟩
  ·rw [if_neg h9]
   exact hok (by lia) r1 H1 e1 ok1
theorem sc_64:FnScope ["one","row","signs","table","short","number","told","at","sign"] ["one","row"] (defScope s_64):=⟨rfl,rfl,rfl,by decide +kernel,rfl,by decide +kernel,by decide +kernel⟩
theorem ok_64 (T:Txt K mg t) (G_58:Has P w K mg base 2 t.f_58 ["one"] (spPlaces)):Has P w K mg base 3 t.f_64 ["one","row"] (spLead K):=by
 refine has_mk0 T.d_64 sc_64 (fun _ _ _ _ _ _ us hl=>match us,hl with | [_,_],_=>rfl) (fun vs H Q E h=>?_) (fun cdv A outer s H vs Q E hr h=>?_)
 ·obtain ⟨r,a,g,lo,tab,m,ns,rfl,g2,g9,hR,hl,m1,hS,hb,hn,q⟩:=h
  rfl
 obtain ⟨r,a,g,lo,tab,m,ns,rfl,g2,g9,hR,hl,m1,hS,hb,hn,q⟩:=h
 refine ⟨_,(pss_cons (ps_set (i:=2) sc_64.nd rfl (Or.inl rfl) (pe_ix ix_tup (pv 0) pe_int (fun _ _=>rfl)))
  (pss_cons (ps_set (i:=3) sc_64.nd rfl (Or.inl rfl) (pe_ix ix_tup (pv 0) pe_int (fun _ _=>rfl)))
  (pss_cons (ps_set (i:=4) sc_64.nd rfl (Or.inl rfl) (pe_op op_sub (pe_callH G_58 (hr.mono (by decide)) rfl T.m_58 passF (pa_cons (pv 0) pa_nil)) pe_int))
  (pss_cons (ps_set (i:=5) sc_64.nd rfl (Or.inl rfl) pe_int)
  (pss_cons (ps_set (i:=6) sc_64.nd rfl (Or.inl rfl) (pe_lst pa_nil))
  (pss_cons (ps_for PassesOwn.never rfl (pi_enum rfl T.z_enumerate (pa_cons (pv 1) pa_nil)) (pg_tup rfl (pgs_cons (pg_name (i:=7) sc_64.nd rfl (Or.inl rfl)) (pgs_cons (pg_name (i:=8) sc_64.nd rfl (Or.inl rfl)) pgs_nil))) (pss_cons (ps_set (i:=5) sc_64.nd rfl (Or.inl rfl) (pe_op op_mod (pe_op op_add (pe_op op_mul (pv 5) (pv 2)) (pv 8)) (pe_callB call_len_seq rfl T.z_len PySem.boot_len (pa_cons (pv 3) pa_nil))))
  (pss_one (ps_if (pt_cmpR op_ge (pv 7) (pv 4) (nomark _)) (pss_one (ps_expr (pe_bm PySem.F.plainAttrs_list PySem.F.slot_list_append PySem.F.type_list_append mt_append (pv 6) (pa_cons (pe_ix ix_tup (pv 3) (pv 5) (fun _ _=>rfl)) pa_nil)))) pss_nil))))
  (pss_one (ps_ret (pv 6))))))))),?_⟩
 obtain ⟨tb,h1,h2⟩:=id hR
 walk_at "rd"
 refine ⟨r,_,0,_,rfl,rfl,SqT.of h1,rfl,?_⟩
 walk_at "rd"
 refine ⟨r,_,2,_,rfl,rfl,SqT.of h1,rfl,?_⟩
 walk_at "rd"
 refine ⟨r,g,lo,tab,m,rfl,g2,g9,hR,hl,?_⟩
 walk_at "rd"
 refine ⟨Nat.zero_le _,fun p hp=>?_⟩
 have gp:=RW.pow_pos g2 m
 refine ⟨_,rfl,a,_,rfl,(Same.new hp _).seq hS,?_⟩
 refine for_enum (xs:=ns.map V.int) (fun i σ H1=>(∃ x7 x8,σ=[some (.ref r),some (.ref a),some (.int g),some (.ref tb),some (.int ((m:Int) - 1)),some (.int (num g (ns.take i)%g^m)),some (.ref p),x7,x8])∧Same H H1∧H1 p=some (.lst (((List.range (i+1 - m)).map (winS g tab m ns)).map V.int))) ⟨⟨none,none,by rw [List.take_zero];rfl⟩,Same.new hp _,by rw [upd_same,show 0+1 - m=0 by lia];rfl⟩ (fun i σ H1 _ z=>z.2.1.seq hS) ?_ ?_
 ·rintro i x p2 σ H1 hx ⟨⟨x7,x8,rfl⟩,e,hp1⟩ hp2
  obtain ⟨n,hn1,rfl⟩:=getInt hx
  have hi:i<ns.length:=(List.getElem?_eq_some_iff.mp hn1).1
  have e2:Same H (upd H1 p2 (.tup [.int ((i:Nat):Int),.int n])):=e.trans (Same.new hp2 _)
  have hp3:=Same.new hp2 (.tup [.int ((i:Nat):Int),.int n]) _ _ hp1
  refine ⟨p2,_,rfl,SqT.of upd_same,rfl,_,_,rfl,_,_,rfl,rfl,?_⟩
  walk_at "rd"
  have htl:((tab.map V.int).length:Int)=g^m:=by rw [Z1,hl]
  have hst:(num g (ns.take i)%g^m*g+n)%g^m=num g (ns.take (i+1))%g^m:=by rw [mod_step,num_take hn1]
  refine ⟨.inr ⟨by lia,by lia⟩,_,.inr (SqT.of (e2 _ _ h2)),by lia,?_⟩
  rw [htl,hst]
  by_cases hge:(m:Int) - 1≤(i:Int)
  ·rw [if_pos hge]
   have hw:=num_win g2 hb (k:=i+1 - m) (m:=m) (by lia)
   rw [show i+1 - m+m=i+1 by lia] at hw
   have wi:=win_in g2 hb hl (k:=i+1 - m) (by lia)
   rw [hw]
   refine ⟨.inl ⟨_,SqL.of hp3⟩,tb,_,_,_,rfl,rfl,SqT.of (e2 _ _ h2),getAtZ wi.1 wi.2,_,hp3,?_,rfl,⟨_,rfl⟩,e2.into hp,?_⟩
   ·rw [Z1,Z1,Z2]
    exact small1000 (by lia)
   ·rw [upd_same,show i+1+1 - m=(i+1 - m)+1 by lia,range_succ_map,Z3]
    rfl
  ·rw [if_neg hge]
   refine ⟨rfl,⟨_,rfl⟩,e2,?_⟩
   rw [hp3,show i+1 - m=0 by lia,show i+1+1 - m=0 by lia]
 ·rintro σ H1 ⟨⟨x7,x8,rfl⟩,e,hp1⟩
  walk_at "rd"
  rw [Z1] at hp1
  exact q p H1 ⟨e,hp,hp1⟩
theorem sc_37:FnScope ["one","ring","many","first"] ["one","ring"] (defScope s_37):=⟨rfl,rfl,rfl,by decide +kernel,rfl,by decide +kernel,by decide +kernel⟩
theorem ok_37 (T:Txt K mg t) (G_64:Has P w K mg base 3 t.f_64 ["one","row"] (spLead K)) (G_58:Has P w K mg base 2 t.f_58 ["one"] (spPlaces)):Has P w K mg base 4 t.f_37 ["one","ring"] (spLeadRing K):=by
 refine has_mk0 T.d_37 sc_37 (fun _ _ _ _ _ _ us hl=>match us,hl with | [_,_],_=>rfl) (fun vs H Q E h=>?_) (fun cdv A outer s H vs Q E hr h=>?_)
 ·obtain ⟨r,a,g,lo,tab,m,ns,rfl,g2,g9,hR,hl,m1,m8,hS,hb,n1,n8,q⟩:=h
  rfl
 obtain ⟨r,a,g,lo,tab,m,ns,rfl,g2,g9,hR,hl,m1,m8,hS,hb,n1,n8,q⟩:=h
 refine ⟨_,(pss_cons (ps_set (i:=2) sc_37.nd rfl (Or.inr rfl) (pe_callB call_len_seq rfl T.z_len PySem.boot_len (pa_cons (pv 1) pa_nil)))
  (pss_cons (ps_set (i:=3) sc_37.nd rfl (Or.inr rfl) (pe_op op_mod (pe_ix ix_tup (pv 0) pe_int (fun _ _=>rfl)) (pv 2)))
  (pss_one (ps_ret (pe_callH G_64 (hr.mono (by decide)) rfl T.m_64 passF (pa_cons (pv 0) (pa_cons (pe_comp (fv:=[(1,"ring"),(2,"many"),(3,"first")]) (cl:=[("ring",_),("many",_),("first",_)]) rfl (pi_range1 rfl T.z_range (pa_cons (pe_op op_sub (pe_op op_add (pv 2) (pe_callH G_58 (hr.mono (by decide)) rfl T.m_58 passF (pa_cons (pv 0) pa_nil))) pe_int) pa_nil)) (by with_unfolding_all rfl) (by decide +kernel) rfl (by decide +kernel) rfl ⟨(by with_unfolding_all rfl),⟨(by with_unfolding_all rfl),⟨(by with_unfolding_all rfl),trivial⟩⟩⟩ (by with_unfolding_all rfl) ⟨⟨rfl,rfl,(by with_unfolding_all rfl),rfl⟩,⟨⟨rfl,rfl,(by with_unfolding_all rfl),rfl⟩,⟨⟨rfl,rfl,(by with_unfolding_all rfl),rfl⟩,trivial⟩⟩⟩ (by decide) (fun _ _ _ _=>pf_nil) (fun _ _ _ _=>(pe_ix (ix_listK (K:=K) rfl) (pv 1) (pe_op op_mod (pe_op op_add (pv 3) (pv 0)) (pv 2)) (fun _ _=>rfl)))) pa_nil))))))),?_⟩
 obtain ⟨tb,h1,h2⟩:=id hR
 have hns:(ns.map V.int).length=ns.length:=List.length_map ..
 walk_at "rd"
 refine ⟨_,.inl hS,?_⟩
 rw [hns]
 refine ⟨r,_,1,_,rfl,rfl,SqT.of h1,rfl,lo,rfl,by lia,?_⟩
 refine ⟨_,rfl,_,rfl,r,g,lo,tab,m,rfl,g2,g9,hR,hl,_,_,rfl,rfl,_,_,rfl,rfl,_,rfl,by lia,by lia,fun D hD=>?_⟩
 rw [show ((ns.length:Int)+(m:Int) - 1).toNat=ns.length+m - 1 by lia]
 refine comp_range (n:=ns.length+m - 1) (fun i acc Hx=>acc=((List.range i).map fun k:Nat=>ringAt ns (lo%(ns.length:Int)+(k:Int))).map V.int∧Hx=upd H D (.lst acc)) ⟨rfl,rfl⟩ ?_ ?_
 ·rintro i acc Hx hi ⟨rfl,rfl⟩
  have rz:=mod_nat (z:=lo%(ns.length:Int)+(i:Int)) n1
  walk_at "rd"
  refine ⟨by lia,?_⟩
  rw [Z8]
  refine ⟨a,_,_,_,rfl,rfl,(Same.new hD _).seq hS,getAtZ (by lia) rz.1,upd_same,?_,?_,by rw [upd_upd]⟩
  ·rw [Z1,Z1,Z2]
   exact small1000 (by lia)
  ·rw [range_succ_map,Z3]
   rfl
 ·rintro acc Hx ⟨rfl,rfl⟩
  refine ⟨r,D,g,lo,tab,m,ringE lo m ns,rfl,g2,g9,hR.same (Same.new hD _),hl,m1,SqL.of upd_same,ringE_lt g2 hb lo m,?_,fun p H' hN=>?_⟩
  ·unfold ringE
   rw [Z1,Z2]
   lia
  ·rw [led_ringE g lo tab ns m1] at hN
   exact q p H' ⟨(Same.new hD _).trans hN.1,(Same.new hD _).free hN.2.1,hN.2.2⟩
theorem sc_36:FnScope ["one","ring","come"] ["one","ring"] (defScope s_36):=⟨rfl,rfl,rfl,by decide +kernel,rfl,by decide +kernel,by decide +kernel⟩
theorem ok_36 (T:Txt K mg t) (G_37:Has P w K mg base 4 t.f_37 ["one","ring"] (spLeadRing K)):Has P w K mg base 5 t.f_36 ["one","ring"] (spChangeOf):=by
 refine has_mk0 T.d_36 sc_36 (fun _ _ _ _ _ _ us hl=>match us,hl with | [_,_],_=>rfl) (fun vs H Q E h=>?_) (fun cdv A outer s H vs Q E hr h=>?_)
 ·obtain ⟨r,a,g,lo,tab,m,ring,rfl,ok,ha,rb,n1,n8,q⟩:=h
  rfl
 obtain ⟨r,a,g,lo,tab,m,ring,rfl,ok,ha,rb,n1,n8,q⟩:=h
 refine ⟨_,(pss_cons (ps_set (i:=2) sc_36.nd rfl (Or.inr rfl) (pe_callH G_37 (hr.mono (by decide)) rfl T.m_37 passF (pa_cons (pv 0) (pa_cons (pv 1) pa_nil))))
  (pss_one (ps_ret (pe_comp (fv:=[(1,"ring"),(2,"come")]) (cl:=[("ring",_),("come",_)]) rfl (pi_range1 rfl T.z_range (pa_cons (pe_ix ix_tup (pv 0) pe_int (fun _ _=>rfl)) pa_nil)) (by with_unfolding_all rfl) (by decide +kernel) rfl (by decide +kernel) rfl ⟨(by with_unfolding_all rfl),⟨(by with_unfolding_all rfl),trivial⟩⟩ (by with_unfolding_all rfl) ⟨⟨rfl,rfl,(by with_unfolding_all rfl),rfl⟩,⟨⟨rfl,rfl,(by with_unfolding_all rfl),rfl⟩,trivial⟩⟩ (by decide) (fun _ _ _ _=>pf_nil) (fun _ _ _ _=>(pe_op op_sub (pe_bmK (K:=K) rfl PySem.F.plainAttrs_list PySem.F.slot_list_count PySem.F.type_list_count mt_count (pv 2) (pa_cons (pv 0) pa_nil)) (pe_bmK (K:=K) rfl PySem.F.plainAttrs_list PySem.F.slot_list_count PySem.F.type_list_count mt_count (pv 1) (pa_cons (pv 0) pa_nil)))))))),?_⟩
 obtain ⟨tb,h1,h2⟩:=id ok.v
 have g2:=ok.g2
 have g9:=ok.g9
 refine hide fun N hN=>?_
 walk_at "rd"
 refine ⟨r,a,g,lo,tab,m,ring,rfl,g2,g9,ok.v,ok.len,ok.m1,ok.m8,SqL.of ha,rb,n1,n8,fun p H1 n1'=>hN _ _ ?_⟩
 clear hN N
 walk_at "rd"
 refine ⟨_,rfl,r,_,0,_,rfl,rfl,SqT.of (n1'.1 _ _ h1),rfl,g,rfl,by lia,by lia,fun D hD=>?_⟩
 refine comp_range (n:=g.toNat) (fun i acc Hx=>acc=((List.range i).map fun s:Nat=>(((ringL g lo tab m ring).count (s:Int):Nat):Int) - ((ring.count (s:Int):Nat):Int)).map V.int∧Same H1 Hx∧Hx D=some (.lst acc)) ⟨rfl,Same.new hD _,upd_same⟩ ?_ ?_
 ·rintro i acc Hx hi ⟨rfl,ex,hDx⟩
  walk_at "rd"
  rw [Z8]
  refine ⟨.inl ⟨_,SqL.of (ex _ _ n1'.2.2)⟩,_,ex _ _ n1'.2.2,.inl ⟨_,SqL.of ((n1'.1.trans ex) _ _ ha)⟩,_,(n1'.1.trans ex) _ _ ha,hDx,?_,?_,ex.into hD,upd_same⟩
  ·rw [Z1,Z1,Z2]
   exact small1000 (by lia)
  ·rw [range_succ_map,Z3]
   rfl
 rintro acc H2 ⟨rfl,e2,h2⟩
 exact q D H2 ⟨n1'.1.trans e2,n1'.1.free hD,h2⟩
theorem sc_10:FnScope ["framed","short","noughts","rings"] ["framed"] (defScope s_10):=⟨rfl,rfl,rfl,by decide +kernel,rfl,by decide +kernel,by decide +kernel⟩
theorem ok_10 (T:Txt K mg t) (G_58:Has P w K mg base 2 t.f_58 ["one"] (spPlaces)) (G_53:HasN P w K mg base 1 t.f_53 ["number","signs","many"] (spWord t.c_55)) (G_62:Has P w K mg base 1 t.f_62 ["one"] (spHeads)):Has P w K mg base 3 t.f_10 ["framed"] (spAskL):=by
 refine has_mk0 T.d_10 sc_10 (fun _ _ _ _ _ _ us hl=>match us,hl with | [_],_=>rfl) (fun vs H Q E h=>?_) (fun cdv A outer s H vs Q E hr h=>?_)
 ·obtain ⟨r,g,lo,tab,m,rfl,ok,s9,m2,q⟩:=h
  rfl
 obtain ⟨r,g,lo,tab,m,rfl,ok,s9,m2,q⟩:=h
 refine ⟨_,(pss_cons (ps_set (i:=1) sc_10.nd rfl (Or.inr rfl) (pe_op op_sub (pe_callH G_58 (hr.mono (by decide)) rfl T.m_58 passF (pa_cons (pv 0) pa_nil)) pe_int))
  (pss_cons (ps_set (i:=2) sc_10.nd rfl (Or.inr rfl) (pe_op op_rep (pe_lst (pa_consC pa_nil)) (pv 1)))
  (pss_cons (ps_comp (iy:=3) (fv:=[(1,"short"),(2,"noughts"),(0,"framed")]) (cl:=[("short",_),("noughts",_),("framed",_)]) rfl sc_10.nd rfl (Or.inl rfl) (pi_range1 rfl T.z_range (pa_cons (pe_callH G_62 (hr.mono (by decide)) rfl T.m_62 passF (pa_cons (pv 0) pa_nil)) pa_nil)) (by with_unfolding_all rfl) (by with_unfolding_all rfl) (by decide +kernel) rfl (by decide +kernel) rfl ⟨(by with_unfolding_all rfl),⟨(by with_unfolding_all rfl),⟨(by with_unfolding_all rfl),trivial⟩⟩⟩ (by with_unfolding_all rfl) ⟨⟨rfl,rfl,(by with_unfolding_all rfl),rfl⟩,⟨⟨rfl,rfl,(by with_unfolding_all rfl),rfl⟩,⟨⟨rfl,rfl,(by with_unfolding_all rfl),rfl⟩,trivial⟩⟩⟩ (by decide) (fun _ _ _ _=>pf_nil) (fun _ _ _ _=>(pe_op op_cat (pv 2) (pe_callN G_53 (hr.mono (by decide)) rfl T.m_53 passFN (pa_cons (pv 0) (pa_cons (pe_ix (ix_tupK (K:=K) rfl) (pv 3) pe_int (fun _ _=>rfl)) (pa_cons (pv 1) pa_nil)))))))
  (pss_one (ps_ret (pe_op op_cat (pv 3) (pe_comp (fv:=[(1,"short"),(2,"noughts"),(0,"framed")]) (cl:=[("short",_),("noughts",_),("framed",_)]) rfl (pi_range1 rfl T.z_range (pa_cons (pe_callB call_len_seq rfl T.z_len PySem.boot_len (pa_cons (pe_ix ix_tup (pv 0) pe_int (fun _ _=>rfl)) pa_nil)) pa_nil)) (by with_unfolding_all rfl) (by decide +kernel) rfl (by decide +kernel) rfl ⟨(by with_unfolding_all rfl),⟨(by with_unfolding_all rfl),⟨(by with_unfolding_all rfl),trivial⟩⟩⟩ (by with_unfolding_all rfl) ⟨⟨rfl,rfl,(by with_unfolding_all rfl),rfl⟩,⟨⟨rfl,rfl,(by with_unfolding_all rfl),rfl⟩,⟨⟨rfl,rfl,(by with_unfolding_all rfl),rfl⟩,trivial⟩⟩⟩ (by decide) (fun _ _ _ _=>pf_nil) (fun _ _ _ _=>(pe_op op_cat (pv 2) (pe_callN G_53 (hr.mono (by decide)) rfl T.m_53 passFN (pa_cons (pv 0) (pa_cons (pe_ix (ix_tupK (K:=K) rfl) (pv 3) pe_int (fun _ _=>rfl)) (pa_cons (pe_op op_add (pv 1) pe_int) pa_nil))))))))))))),?_⟩
 obtain ⟨tb,h1,h2⟩:=id ok.v
 have g2:=ok.g2
 have g9:=ok.g9
 have hl:=ok.len
 have sz:=ok.sz
 have m8:=ok.m8
 have hd:=heads_is g2 hl ok.m1
 have hp0:=RW.pow_pos g2 (m - 1)
 have hpm:=RW.pow_pos g2 m
 have hlm:(tab.map V.int).length=tab.length:=List.length_map ..
 refine hide fun N hN=>?_
 walk_at "rd"
 refine ⟨r,g,lo,tab,m,rfl,g2,g9,ok.v,hl,_,rfl,hN _ _ ?_⟩
 clear hN N
 rw [show ((m:Nat):Int) - 1=((m - 1:Nat):Int) by lia]
 refine hide fun N hN=>?_
 walk_at "rd"
 refine ⟨by decide,fun p1 hp1=>rep_new upd_same (by lia) (by lia) fun p2 H2 e2 f2 h2'=>hN _ _ ?_⟩
 clear hN N
 rw [Z5] at h2'
 have e12:=(Same.new hp1 (.lst [V.int 0])).trans e2
 have mz:List.replicate (m - 1) (V.int 0)=(List.replicate (m - 1) (0:Int)).map V.int:=by rw [List.map_replicate]
 rw [mz] at h2'
 refine hide fun N hN=>?_
 refine ⟨_,rfl,r,g,lo,tab,m,rfl,ok.same e12,_,rfl,by lia,by lia,fun D hD=>?_⟩
 rw [Z5]
 refine comp_range (n:=tab.length / g.toNat) (fun i acc Hx=>∃ ps:List Addr,acc=ps.map V.ref∧Same H2 Hx∧Hx D=some (.lst acc)∧ps.length=i∧∀ (k:Nat) (q:Addr),ps[k]?=some q→Hx q=some (.lst ((List.replicate (m - 1) 0++wordL g (k:Int) (m - 1)).map V.int))∧q≠D) ⟨[],rfl,Same.new hD _,upd_same,rfl,fun k q z=>by cases z⟩ ?_ ?_
 ·rintro i acc Hx hi ⟨ps,rfl,ex,hDx,pl,hps⟩
  walk_at "rd"
  rw [Z8]
  refine ⟨r,_,0,_,rfl,rfl,SqT.of ((e12.trans ex) _ _ h1),rfl,((i:Nat):Int),g,_,rfl,g2,g9,by lia,by lia,fun hb=>?_,fun _ _ pw H3 n3=>?_⟩
  ·exfalso
   rw [Z5] at hb
   lia
  rw [Z5] at n3
  have n3':H3 pw=some (.lst ((wordL g (i:Int) (m - 1)).map V.int)):=n3.2.2
  refine cat_new ((ex.trans n3.1) _ _ h2') n3' ?_ fun pc H4 e4 f4 h4=>?_
  ·rw [Z1,Z1,Z9,wordL_len]
   lia
  rw [←Z3] at h4
  have e34:=n3.1.trans e4
  have pD:pc≠D:=fun z=>by
   rw [z,n3.1 _ _ hDx] at f4
   cases f4
  refine ⟨e34 _ _ hDx,?_,ps++[pc],by rw [Z3];rfl,(ex.trans e34).into hD,upd_same,by rw [Z4,pl];rfl,fun k q' hq=>?_⟩
  ·rw [Z1,pl]
   exact small1000 (by lia)
  ·by_cases kl:k<i
   ·rw [List.getElem?_append_left (by lia)] at hq
    obtain ⟨a1,a2⟩:=hps k q' hq
    exact ⟨by rw [upd_ne a2];exact e34 _ _ a1,a2⟩
   ·rw [List.getElem?_append_right (by lia)] at hq
    have k0:k - ps.length=0:=by
     have:=(List.getElem?_eq_some_iff.mp hq).1
     rw [Z15] at this
     lia
    have ki:k=i:=by lia
    rw [k0] at hq
    cases hq
    rw [ki]
    exact ⟨by rw [upd_ne pD];exact h4,pD⟩
 rintro acc H3 ⟨ps,rfl,e3,hD3,pl,hps⟩
 refine hN _ _ ?_
 clear hN N
 have e13:=e12.trans e3
 have z3:=e3 _ _ h2'
 walk_at "rd"
 refine ⟨_,rfl,r,_,2,_,rfl,rfl,SqT.of (e13 _ _ h1),rfl,tb,rfl,_,.inr (SqT.of (e13 _ _ h2)),_,rfl,by rw [hlm];lia,by rw [hlm];lia,fun D' hD'=>?_⟩
 rw [hlm,Z5]
 refine comp_range (n:=tab.length) (fun i acc Hx=>∃ qs:List Addr,acc=qs.map V.ref∧Same H3 Hx∧Hx D'=some (.lst acc)∧qs.length=i∧∀ (k:Nat) (q:Addr),qs[k]?=some q→Hx q=some (.lst ((List.replicate (m - 1) 0++wordL g (k:Int) m).map V.int))∧q≠D') ⟨[],rfl,Same.new hD' _,upd_same,rfl,fun k q z=>by cases z⟩ ?_ ?_
 ·rintro i acc Hx hi ⟨qs,rfl,ex,hDx,ql,hqs⟩
  walk_at "rd"
  rw [Z8,show ((m - 1:Nat):Int)+1=((m:Nat):Int) by lia]
  refine ⟨r,_,0,_,rfl,rfl,SqT.of ((e13.trans ex) _ _ h1),rfl,((i:Nat):Int),g,_,rfl,g2,g9,by lia,by lia,fun hb=>?_,fun _ _ pw H4 n4=>?_⟩
  ·exfalso
   rw [Z5] at hb
   lia
  rw [Z5] at n4
  have n4':H4 pw=some (.lst ((wordL g (i:Int) m).map V.int)):=n4.2.2
  refine cat_new ((ex.trans n4.1) _ _ z3) n4' ?_ fun pc H5 e5 f5 h5=>?_
  ·rw [Z1,Z1,Z9,wordL_len]
   lia
  rw [←Z3] at h5
  have e45:=n4.1.trans e5
  have pD:pc≠D':=fun z=>by
   rw [z,n4.1 _ _ hDx] at f5
   cases f5
  refine ⟨e45 _ _ hDx,?_,qs++[pc],by rw [Z3];rfl,(ex.trans e45).into hD',upd_same,by rw [Z4,ql];rfl,fun k q' hq=>?_⟩
  ·rw [Z1,ql]
   exact small1000 (by lia)
  ·by_cases kl:k<i
   ·rw [List.getElem?_append_left (by lia)] at hq
    obtain ⟨a1,a2⟩:=hqs k q' hq
    exact ⟨by rw [upd_ne a2];exact e45 _ _ a1,a2⟩
   ·rw [List.getElem?_append_right (by lia)] at hq
    have k0:k - qs.length=0:=by
     have:=(List.getElem?_eq_some_iff.mp hq).1
     rw [Z15] at this
     lia
    have ki:k=i:=by lia
    rw [k0] at hq
    cases hq
    rw [ki]
    exact ⟨by rw [upd_ne pD];exact h5,pD⟩
 rintro acc H4 ⟨qs,rfl,e4,hD4,ql,hqs⟩
 refine cat_new (e4 _ _ hD3) hD4 (by rw [Z1,Z1,pl,ql];lia) fun pc H5 e5 f5 h5=>?_
 rw [←Z3] at h5
 have al:(g^(m - 1)).toNat=tab.length / g.toNat:=by lia
 have bl:(g^m).toNat=tab.length:=by lia
 refine q pc (ps++qs) H5 ((e13.trans e4).trans e5) ⟨h5,?_,?_⟩
 ·rw [Z4,pl,ql]
  unfold askL
  rw [Z4,Z1,Z1,Z2,Z2,al,bl]
 ·intro i q' w hq hw
  unfold askL at hw
  by_cases il:i<ps.length
  ·rw [List.getElem?_append_left il] at hq
   rw [List.getElem?_append_left (by rw [Z1,Z2];lia),Z6,List.getElem?_range (by lia)] at hw
   cases hw
   exact (e4.trans e5) _ _ (hps i q' hq).1
  ·rw [List.getElem?_append_right (by lia)] at hq
   have ql':=(List.getElem?_eq_some_iff.mp hq).1
   rw [List.getElem?_append_right (by rw [Z1,Z2];lia),Z6,Z1,Z2,al,←pl,List.getElem?_range (by lia)] at hw
   cases hw
   exact e5 _ _ (hqs _ q' hq).1
theorem sc_1:FnScope ["numbers","found","number","rest","further"] ["numbers"] (defScope s_1):=⟨rfl,rfl,rfl,by decide +kernel,rfl,by decide +kernel,by decide +kernel⟩
theorem ok_1 (T:Txt K mg t) :Has P w K mg base 1 t.f_1 ["numbers"] (spGcd):=by
 refine has_mk0 T.d_1 sc_1 (fun _ _ _ _ _ _ us hl=>match us,hl with | [_],_=>rfl) (fun vs H Q E h=>?_) (fun cdv A outer s H vs Q E hr h=>?_)
 ·obtain ⟨a,ns,rfl,ha,q⟩:=h
  rfl
 obtain ⟨a,ns,rfl,ha,q⟩:=h
 refine ⟨_,(pss_cons (ps_set (i:=1) sc_1.nd rfl (Or.inl rfl) pe_int)
  (pss_cons (ps_for PassesOwn.never rfl (pi_list (pv 0)) (pg_name (i:=2) sc_1.nd rfl (Or.inl rfl)) (pss_cons (ps_set (i:=3) sc_1.nd rfl (Or.inl rfl) (pe_callB call_abs_of rfl T.z_abs PyProof.Rows.boot_abs (pa_cons (pv 2) pa_nil)))
  (pss_one (ps_while PassesOwn.never (pt_cmpR op_gt (pv 3) pe_int (nomark _)) (pss_cons (ps_set (i:=4) sc_1.nd rfl (Or.inl rfl) (pe_op op_mod (pv 1) (pv 3)))
  (pss_cons (ps_set (i:=1) sc_1.nd rfl (Or.inl rfl) (pv 3))
  (pss_one (ps_set (i:=3) sc_1.nd rfl (Or.inl rfl) (pv 4)))))))))
  (pss_one (ps_ret (pv 1))))),?_⟩
 refine hide fun N hN=>?_
 walk_at "rd"
 refine hN _ _ ?_
 clear hN N
 refine cut (fun σ HX=>(∃ x2 x3 x4,σ=[some (.ref a),some (.int ((gcdL ns:Nat):Int)),x2,x3,x4])∧HX=H) (fun N hN=>?_) ?_
 ·refine ⟨_,rfl,a,rfl,⟨_,SqL.of ha⟩,?_⟩
  refine for_list (xs:=ns.map V.int) (fun i σ HX=>(∃ x2 x3 x4,σ=[some (.ref a),some (.int ((gcdL (ns.take i):Nat):Int)),x2,x3,x4])∧HX=H) ⟨⟨none,none,none,rfl⟩,rfl⟩ (fun i σ HX _ z=>by rw [z.2];exact SqL.of ha) ?_ ?_
  ·rintro i x σ HX hx ⟨⟨x2,x3,x4,rfl⟩,rfl⟩
   obtain ⟨v,hv,rfl⟩:=getInt hx
   refine hide fun N2 hN2=>?_
   walk_at "rd"
   refine hN2 _ _ ?_
   clear hN2 N2
   have av:(if v<0 then -v else v)=((v.natAbs:Nat):Int):=by split <;> lia
   rw [av]
   have gt:gcdL (ns.take (i+1))=Nat.gcd (gcdL (ns.take i)) v.natAbs:=by
    unfold gcdL
    rw [Z22,hv]
    show (ns.take i++[v]).foldl _ 0=_
    rw [List.foldl_append]
    rfl
   refine while_by (fun σ HY=>∃ (x y:Nat) (x4:Option V),σ=[some (.ref a),some (.int ((x:Nat):Int)),some (.int v),some (.int ((y:Nat):Int)),x4]∧HY=HX∧Nat.gcd x y=gcdL (ns.take (i+1)))
    (fun (σ:St) (HY:Hp)=>match σ[3]? with | some (some (V.int x))=>x.toNat | _=>0) ⟨_,_,x4,rfl,rfl,gt.symm⟩ ?_ ?_
   ·rintro σ HY ⟨x,y,x4,rfl,rfl,gxy⟩
    walk_at "rd"
    by_cases z:0<(y:Int)
    ·rw [if_pos z]
     have m0:(x:Int)%(y:Int)=((x%y:Nat):Int):=(Int.natCast_emod ..).symm
     have ml:=Nat.mod_lt x (show 0<y by lia)
     rw [m0]
     refine ⟨z,⟨y,rfl,x%y,rfl,?_⟩,by lia⟩
     rw [←gxy,Nat.gcd_comm x y,Nat.gcd_rec y x,Nat.gcd_comm]
    ·rw [if_neg z]
     have y0:y=0:=by lia
     subst y0
     rw [Nat.gcd_zero_right] at gxy
     exact ⟨by rw [gxy],_,rfl⟩
   ·intro σ HZ Q1 Q2 hq
    walk_at "rd"
    rintro ⟨v,h1,i',e1,hh⟩
    exact ⟨v,h1,i',e1,hq _ _ hh⟩
  ·rintro σ HX ⟨⟨x2,x3,x4,rfl⟩,rfl⟩
   rw [Z1,Z14]
   exact hN _ _ ⟨⟨_,_,_,rfl⟩,rfl⟩
 rintro σ HX ⟨⟨x2,x3,x4,rfl⟩,rfl⟩
 walk_at "rd"
 exact q
theorem sc_47:FnScope ["row","divisor"] ["row"] (defScope s_47):=⟨rfl,rfl,rfl,by decide +kernel,rfl,by decide +kernel,by decide +kernel⟩
theorem ok_47 (T:Txt K mg t) (G_1:Has P w K mg base 1 t.f_1 ["numbers"] (spGcd)):Has P w K mg base 2 t.f_47 ["row"] (spSimp):=by
 refine has_mk0 T.d_47 sc_47 (fun _ _ _ _ _ _ us hl=>match us,hl with | [_],_=>rfl) (fun vs H Q E h=>?_) (fun cdv A outer s H vs Q E hr h=>?_)
 ·obtain ⟨a,ns,rfl,ha,nl,sb,q⟩:=h
  rfl
 obtain ⟨a,ns,rfl,ha,nl,sb,q⟩:=h
 refine ⟨_,(pss_cons (ps_set (i:=1) sc_47.nd rfl (Or.inr rfl) (pe_callH G_1 (hr.mono (by decide)) rfl T.m_1 passF (pa_cons (pv 0) pa_nil)))
  (pss_cons (ps_if (pt_cmpR op_eq (pv 1) pe_int (nomark _)) (pss_one (ps_ret (pv 0))) pss_nil)
  (pss_one (ps_ret (pe_comp (fv:=[(1,"divisor")]) (cl:=[("divisor",_)]) rfl (pi_list (pv 0)) (by with_unfolding_all rfl) (by decide +kernel) rfl (by decide +kernel) rfl ⟨(by with_unfolding_all rfl),trivial⟩ (by with_unfolding_all rfl) ⟨⟨rfl,rfl,(by with_unfolding_all rfl),rfl⟩,trivial⟩ (by decide) (fun _ _ _ _=>pf_nil) (fun _ _ _ _=>(pe_op op_fdivX (pv 0) (pv 1)))))))),?_⟩
 refine hide fun N hN=>?_
 walk_at "rd"
 refine ⟨a,ns,rfl,ha,hN _ _ ?_⟩
 clear hN N
 refine cut (fun σ HX=>σ=[some (.ref a),some (.int ((gcdL ns:Nat):Int))]∧HX=H∧gcdL ns≠0) (fun N hN=>?_) ?_
 ·walk_at "rd"
  by_cases z:gcdL ns=0
  ·rw [if_pos (by lia)]
   exact q a H (Same.refl _) (by unfold simpL;rw [if_pos z];exact ha)
  ·rw [if_neg (by lia)]
   exact hN _ _ ⟨rfl,rfl,z⟩
 rintro σ HX ⟨rfl,rfl,nz⟩
 walk_at "rd"
 have es:simpL ns=ns.map fun n=>n / ((gcdL ns:Nat):Int):=by unfold simpL;rw [if_neg nz]
 refine ⟨_,rfl,a,rfl,⟨_,SqL.of ha⟩,fun D hD=>?_⟩
 refine comp_list (xs:=ns.map V.int) (fun i acc Hx=>acc=((ns.take i).map fun n=>n / ((gcdL ns:Nat):Int)).map V.int∧Same HX Hx∧Hx D=some (.lst acc)) ⟨rfl,Same.new hD _,upd_same⟩ (fun i acc Hx _ z=>SqL.of (z.2.1 _ _ ha)) ?_ ?_
 ·rintro i x acc Hx hx ⟨rfl,ex,hDx⟩
  obtain ⟨v,hv,rfl⟩:=getInt hx
  have hi:=(List.getElem?_eq_some_iff.mp hv).1
  have dv:=gcdL_dvd (List.mem_of_getElem? hv)
  have vb:=sb i
  rw [es,Z0,Z6,hv] at vb
  walk_at "rd"
  refine ⟨⟨by lia,v / ((gcdL ns:Nat):Int),(Int.mul_ediv_cancel' dv).symm,.inl vb⟩,hDx,?_,?_,ex.into hD,upd_same⟩
  ·rw [Z1,Z1,Z16]
   exact small1000 (by lia)
  ·rw [Z22,hv]
   simp
 rintro acc H2 ⟨rfl,e2,h2⟩
 rw [Z1,Z14] at h2
 exact q D H2 e2 (by rw [es];exact h2)
theorem sc_63:FnScope ["row"] ["row"] (defScope s_63):=⟨rfl,rfl,rfl,by decide +kernel,rfl,by decide +kernel,by decide +kernel⟩
theorem ok_63 (T:Txt K mg t) :Has P w K mg base 1 t.f_63 ["row"] (spFoot):=by
 refine has_mk0 T.d_63 sc_63 (fun _ _ _ _ _ _ us hl=>match us,hl with | [_],_=>rfl) (fun vs H Q E h=>?_) (fun cdv A outer s H vs Q E hr h=>?_)
 ·obtain ⟨a,ns,f,rfl,ha,nl,hf,q⟩:=h
  rfl
 obtain ⟨a,ns,f,rfl,ha,nl,hf,q⟩:=h
 refine ⟨_,(pss_one (ps_ret (pe_callB (call_max_of rfl) rfl T.z_max PyProof.Rows.boot_max (pa_cons (pe_comp2 (fv:=[]) (cl:=[]) rfl (pi_enum rfl T.z_enumerate (pa_cons (pv 0) pa_nil)) (by with_unfolding_all rfl) (by decide +kernel) rfl (by decide +kernel) rfl rfl trivial (by with_unfolding_all rfl) trivial (by decide) (fun _ _ _ _=>(pf_one (pt_cmpR op_ne (pv 1) pe_int (nomark _)))) (fun _ _ _ _=>(pv 0))) pa_nil)))),?_⟩
 walk_at "rd"
 refine ⟨_,rfl,a,_,rfl,SqL.of ha,fun D hD=>?_⟩
 refine comp_enum2 (xs:=ns.map V.int) (fun i acc Hx=>acc=(((List.range i).filter fun j=>decide (ns.getD j 0≠0)).map fun j:Nat=>((j:Nat):Int)).map V.int∧Same H Hx∧Hx D=some (.lst acc)) ⟨rfl,Same.new hD _,upd_same⟩ (fun i acc Hx _ z=>SqL.of (z.2.1 _ _ ha)) ?_ ?_
 ·rintro i x p acc Hx hx ⟨rfl,ex,hDx⟩ hp
  obtain ⟨v,hv,rfl⟩:=getInt hx
  have hi:=(List.getElem?_eq_some_iff.mp hv).1
  have ev:ns.getD i 0=v:=by rw [Z0,hv];rfl
  have ep:=Same.new hp (.tup [.int ((i:Nat):Int),.int v])
  walk_at "rd"
  by_cases z:v=0
  ·rw [if_neg (fun y=>y z)]
   refine ⟨?_,ex.trans ep,ep _ _ hDx⟩
   rw [List.range_succ,List.filter_append,List.filter_cons,if_neg (by rw [ev,z];decide),List.filter_nil,List.append_nil]
  ·rw [if_pos z]
   refine ⟨ep _ _ hDx,?_,?_,(ex.trans ep).into hD,upd_same⟩
   ·rw [Z1,Z1]
    have:=List.length_filter_le (fun j=>decide (ns.getD j 0≠0)) (List.range i)
    rw [Z2] at this
    exact small1000 (by lia)
   ·rw [List.range_succ,List.filter_append,List.filter_cons,if_pos (by rw [ev];exact decide_eq_true z),List.filter_nil,Z3,Z3]
    rfl
 rintro acc H2 ⟨rfl,e2,h2⟩
 rw [Z1] at h2
 have fl:=hf.lt
 have fm:((f:Nat):Int)∈((List.range ns.length).filter fun j=>decide (ns.getD j 0≠0)).map fun j:Nat=>((j:Nat):Int):=List.mem_map.mpr ⟨f,List.mem_filter.mpr ⟨List.mem_range.mpr fl,decide_eq_true hf.1⟩,rfl⟩
 refine ⟨D,rfl,_,SqL.of h2,List.length_pos_of_mem fm,fun m hm hx=>?_⟩
 obtain ⟨j,hj,rfl⟩:=List.mem_map.mp hm
 have jn:=of_decide_eq_true (List.mem_filter.mp hj).2
 have:=hx _ fm
 have jf:j=f:=by
  by_cases c:f<j
  ·exact absurd (hf.2 j c) jn
  ·lia
 subst jf
 exact q _ e2
theorem sc_50:FnScope ["row","other","at"] ["row","other"] (defScope s_50):=⟨rfl,rfl,rfl,by decide +kernel,rfl,by decide +kernel,by decide +kernel⟩
theorem ok_50 (T:Txt K mg t) (G_63:Has P w K mg base 1 t.f_63 ["row"] (spFoot)) (G_47:Has P w K mg base 2 t.f_47 ["row"] (spSimp)):Has P w K mg base 3 t.f_50 ["row","other"] (spClr):=by
 refine has_mk0 T.d_50 sc_50 (fun _ _ _ _ _ _ us hl=>match us,hl with | [_,_],_=>rfl) (fun vs H Q E h=>?_) (fun cdv A outer s H vs Q E hr h=>?_)
 ·obtain ⟨a,b,r,o,f,rfl,ha,hb,hl,rl,hf,rbb,obb,cbb,q⟩:=h
  rfl
 obtain ⟨a,b,r,o,f,rfl,ha,hb,hl,rl,hf,rbb,obb,cbb,q⟩:=h
 refine ⟨_,(pss_cons (ps_set (i:=2) sc_50.nd rfl (Or.inr rfl) (pe_callH G_63 (hr.mono (by decide)) rfl T.m_63 passF (pa_cons (pv 1) pa_nil)))
  (pss_one (ps_ret (pe_callH G_47 (hr.mono (by decide)) rfl T.m_47 passF (pa_cons (pe_comp2 (fv:=[(0,"row"),(1,"other"),(2,"at")]) (cl:=[("row",_),("other",_),("at",_)]) rfl (pi_zip rfl T.z_zip (pa_cons (pv 0) (pa_cons (pv 1) pa_nil))) (by with_unfolding_all rfl) (by decide +kernel) rfl (by decide +kernel) rfl rfl ⟨(by with_unfolding_all rfl),⟨(by with_unfolding_all rfl),⟨(by with_unfolding_all rfl),trivial⟩⟩⟩ (by with_unfolding_all rfl) ⟨⟨rfl,rfl,(by with_unfolding_all rfl),rfl⟩,⟨⟨rfl,rfl,(by with_unfolding_all rfl),rfl⟩,⟨⟨rfl,rfl,(by with_unfolding_all rfl),rfl⟩,trivial⟩⟩⟩ (by decide) (fun _ _ _ _=>pf_nil) (fun _ _ _ _=>(pe_op op_sub (pe_op op_mulC (pe_ix (ix_listK (K:=K) rfl) (pv 3) (pv 4) (fun _ _=>rfl)) (pv 0)) (pe_op op_mulC (pe_ix (ix_listK (K:=K) rfl) (pv 2) (pv 4) (fun _ _=>rfl)) (pv 1))))) pa_nil))))),?_⟩
 refine hide fun N hN=>?_
 walk_at "rd"
 refine ⟨b,o,f,rfl,hb,by lia,hf,fun H1 e1=>hN _ _ ?_⟩
 clear hN N
 have fl:=hf.lt
 have big:∀ {x:Int},x.natAbs<2^4000→x.natAbs<2^100000:=fun h=>Nat.lt_of_lt_of_le h (Nat.pow_le_pow_right (by decide) (by decide))
 walk_at "rd"
 refine ⟨_,rfl,_,rfl,a,b,_,_,rfl,SqL.of (e1 _ _ ha),SqL.of (e1 _ _ hb),fun D hD=>?_⟩
 refine comp_zip2 (xs:=r.map V.int) (ys:=o.map V.int) (by rw [Z1,Z1,hl]) (fun i acc Hx=>acc=((List.range i).map fun i=>o.getD f 0*r.getD i 0 - r.getD f 0*o.getD i 0).map V.int∧Same H1 Hx∧Hx D=some (.lst acc)) ⟨rfl,Same.new hD _,upd_same⟩ (fun i acc Hx _ z=>⟨SqL.of (z.2.1 _ _ (e1 _ _ ha)),SqL.of (z.2.1 _ _ (e1 _ _ hb))⟩) ?_ ?_
 ·rintro i x y p acc Hx hx hy ⟨rfl,ex,hDx⟩ hp
  obtain ⟨v,hv,rfl⟩:=getInt hx
  obtain ⟨u,hu,rfl⟩:=getInt hy
  have ev:r.getD i 0=v:=by rw [Z0,hv];rfl
  have eu:o.getD i 0=u:=by rw [Z0,hu];rfl
  have hi:=(List.getElem?_eq_some_iff.mp hv).1
  have ep:=ex.trans (Same.new hp (.tup [.int v,.int u]))
  have eP:=e1.trans ep
  walk_at "rd"
  refine ⟨b,_,_,_,rfl,rfl,SqL.of (eP _ _ hb),getAt fl,_,rfl,⟨big (obb f),by rw [←ev];exact big (rbb i)⟩,a,_,_,_,rfl,rfl,SqL.of (eP _ _ ha),getAt (by lia),_,rfl,⟨big (rbb f),by rw [←eu];exact big (obb i)⟩,(Same.new hp _) _ _ hDx,?_,?_,ep.into hD,upd_same⟩
  ·rw [Z1,Z1,Z2]
   exact small1000 (by lia)
  ·rw [range_succ_map,Z3,ev,eu]
   rfl
 rintro acc H2 ⟨rfl,e2,h2⟩
 rw [Z1] at h2
 exact ⟨D,mixL r o f,rfl,h2,by unfold mixL;rw [Z1,Z2];exact rl,cbb,fun p H3 e3 h3=>q p H3 ((e1.trans e2).trans e3) h3⟩
theorem sc_2:FnScope ["one","framed","rings","rows","ring","row","other"] ["one"] (defScope s_2):=⟨rfl,rfl,rfl,by decide +kernel,rfl,by decide +kernel,by decide +kernel⟩
theorem ok_2 (T:Txt K mg t) (G_61:Has P w K mg base 8 t.f_61 ["one"] (spFrame t.c_48)) (G_10:Has P w K mg base 3 t.f_10 ["framed"] (spAskL)) (G_36:Has P w K mg base 5 t.f_36 ["one","ring"] (spChangeOf)) (G_50:Has P w K mg base 3 t.f_50 ["row","other"] (spClr)):Has P w K mg base 9 t.f_2 ["one"] (spRR t.c_48):=by
 refine has_mkX T.d_2 sc_2 (fun _ _ _ _ _ _ us hl=>match us,hl with | [_],_=>rfl) (fun vs H Q E h=>?_) (fun cdv A outer s H vs Q E hr h=>?_)
 ·obtain ⟨r,g,lo,tab,m,lf,tf,mf,rfl,ok,fw,hq,hx⟩:=h
  rfl
 obtain ⟨r,g,lo,tab,m,lf,tf,mf,rfl,ok,fw,hq,hx⟩:=h
 refine ⟨_,(pss_cons (ps_set (i:=1) sc_2.nd rfl (Or.inl rfl) (pe_callH G_61 (hr.mono (by decide)) rfl T.m_61 passes_body (pa_cons (pv 0) pa_nil)))
  (pss_cons (ps_set (i:=2) sc_2.nd rfl (Or.inl rfl) (pe_lst pa_nil))
  (pss_cons (ps_set (i:=3) sc_2.nd rfl (Or.inl rfl) (pe_lst pa_nil))
  (pss_cons (PS.nox (ps_for PassesOwn.never rfl (pi_list (pe_callH G_10 (hr.mono (by decide)) rfl T.m_10 passF (pa_cons (pv 1) pa_nil))) (pg_name (i:=4) sc_2.nd rfl (Or.inl rfl)) (pss_cons (ps_set (i:=5) sc_2.nd rfl (Or.inr rfl) (pe_callH G_36 (hr.mono (by decide)) rfl T.m_36 passF (pa_cons (pv 1) (pa_cons (pv 4) pa_nil))))
  (pss_cons (ps_for PassesOwn.never rfl (pi_list (pv 3)) (pg_name (i:=6) sc_2.nd rfl (Or.inl rfl)) (pss_one (ps_set (i:=5) sc_2.nd rfl (Or.inr rfl) (pe_callH G_50 (hr.mono (by decide)) rfl T.m_50 passF (pa_cons (pv 5) (pa_cons (pv 6) pa_nil))))))
  (pss_one (ps_if (pt_val (pe_callB (call_any_of rfl) rfl T.z_any PyProof.Rows.boot_any (pa_cons (pv 5) pa_nil))) (pss_cons (ps_comp (iy:=3) (fv:=[(5,"row")]) (cl:=[("row",_)]) rfl sc_2.nd rfl (Or.inl rfl) (pi_list (pv 3)) (by with_unfolding_all rfl) (by with_unfolding_all rfl) (by decide +kernel) rfl (by decide +kernel) rfl ⟨(by with_unfolding_all rfl),trivial⟩ (by with_unfolding_all rfl) ⟨⟨rfl,rfl,(by with_unfolding_all rfl),rfl⟩,trivial⟩ (by decide) (fun _ _ _ _=>pf_nil) (fun _ _ _ _=>(pe_callH G_50 (hr.mono (by decide)) rfl T.m_50 passF (pa_cons (pv 0) (pa_cons (pv 1) pa_nil)))))
  (pss_cons (ps_expr (pe_bm PySem.F.plainAttrs_list PySem.F.slot_list_append PySem.F.type_list_append mt_append (pv 3) (pa_cons (pv 5) pa_nil)))
  (pss_one (ps_expr (pe_bm PySem.F.plainAttrs_list PySem.F.slot_list_append PySem.F.type_list_append mt_append (pv 2) (pa_cons (pv 4) pa_nil)))))) pss_nil))))))
  (pss_one (ps_ret (pe_tup (pa_cons (pv 2) (pa_cons (pv 3) pa_nil))))))))),?_⟩
 have g2:=ok.g2
 have g9:=ok.g9
 have mf2:=fw.two
 refine hide fun N hN=>?_
 walk_at "rd"
 refine ⟨r,g,lo,tab,m,lf,tf,mf,rfl,ok,fw,fun s9 r' H1 e1 ok1=>hN _ _ ?_,fun s9 H' e'=>hx s9 H' e'⟩
 clear hN N
 replace hq:=hq s9
 refine hide fun N hN=>?_
 walk_at "rd"
 refine ⟨Nat.zero_le _,fun pR hR=>hN _ _ ?_⟩
 clear hN N
 refine hide fun N hN=>?_
 walk_at "rd"
 refine ⟨Nat.zero_le _,fun pW hW=>hN _ _ ?_⟩
 clear hN N
 have WR:pW≠pR:=fun z=>by rw [z,upd_same] at hW;cases hW
 have eA:=Same.new hR (.lst [])
 have eB:=Same.new hW (.lst [])
 have m8:=ok1.m8
 have tbf:=ok1.tb
 have okB:=ok1.same (eA.trans eB)
 have RB:(upd (upd H1 pR (.lst [])) pW (.lst [])) pR=some (.lst []):=by rw [upd_ne (fun z=>WR z.symm)];exact upd_same
 have aL1:1≤(askL g mf).length:=by
  unfold askL
  rw [Z4,Z1,Z1,Z2,Z2]
  have:=RW.pow_pos g2 mf
  lia
 have eAB:=eA.trans eB
 obtain ⟨HB,hHB⟩:∃ HB,HB=upd (upd H1 pR (.lst [])) pW (.lst []):=⟨_,rfl⟩
 have WB:HB pW=some (.lst []):=by rw [hHB];exact upd_same
 rw [←hHB] at okB RB eAB ⊢
 clear hHB eB eA
 refine cut (fun σ HX=>∃ (pW:Addr) (x4 x5 x6:Option V) (rs ws:List Addr) (rings Rs:List (List Int)) (fs:List Nat),σ=[some (.ref r),some (.ref r'),some (.ref pR),some (.ref pW),x4,x5,x6]∧Same H1 HX∧LsV HX pR rs rings∧LsV HX pW ws Rs∧Mid g lf tf mf (askL g mf) rings Rs fs) (fun N hN=>?_) ?_
 ·refine ⟨_,rfl,r',g,lf,tf,mf,rfl,okB,s9,mf2,fun pA psA H3 e3 v3=>⟨pA,rfl,⟨_,SqL.of v3.l⟩,?_⟩⟩
  have R3:=e3 _ _ RB
  have nA:pA≠pR:=fun z=>by
   have:=v3.l
   rw [z,R3] at this
   have:=v3.n
   cases psA with
   | nil=>rw [List.length_nil] at this;lia
   | cons x y=>simp only [Option.some.injEq,HO.lst.injEq,List.map_cons] at *;contradiction
  obtain ⟨B,hB⟩:∃ B:Hp,B=fun a=>if a=pR then none else H3 a:=⟨_,rfl⟩
  have BR:B pR=none:=by rw [hB];exact if_pos rfl
  have Bn:∀ a,a≠pR→B a=H3 a:=fun a ha=>by rw [hB];exact if_neg ha
  have B3:Same B H3:=fun a o h=>by
   by_cases c:a=pR
   ·rw [c,BR] at h;cases h
   ·rw [Bn a c] at h;exact h
  have B1:Same H1 B:=fun a o h=>by
   have c:a≠pR:=fun z=>by rw [z,hR] at h;cases h
   rw [Bn a c]
   exact (eAB.trans e3) a o h
  have vB:LsV B pA psA (askL g mf):=⟨by rw [Bn _ nA];exact v3.l,v3.n,fun i q w h1 h2=>by
   have hw:=v3.e i q w h1 h2
   rw [Bn q (kind_ne (ps:=[]) hw (ask_len mf2 m8 (List.mem_of_getElem? h2)).1 R3)]
   exact hw⟩
  have ok3:=ok1.same B1
  refine for_list (xs:=psA.map V.ref) (fun i σ HX=>∃ (pW:Addr) (x4 x5 x6:Option V) (rs ws:List Addr) (rings Rs:List (List Int)) (fs:List Nat),σ=[some (.ref r),some (.ref r'),some (.ref pR),some (.ref pW),x4,x5,x6]∧Same B HX∧LsV HX pR rs rings∧LsV HX pW ws Rs∧Mid g lf tf mf ((askL g mf).take i) rings Rs fs) ⟨pW,none,none,none,[],[],[],[],[],rfl,B3,⟨R3,rfl,fun i q w h=>by cases h⟩,⟨e3 _ _ WB,rfl,fun i q w h=>by cases h⟩,Mid.nil ..⟩ (fun i σ HX _ z=>by obtain ⟨_,_,_,_,_,_,_,_,_,_,z,_⟩:=z;exact SqL.of (z _ _ vB.l)) ?_ ?_
  ·rintro i x σ HX hx' ⟨pV,x4,x5,x6,rs,ws,rings,Rs,fs,rfl,eX,vR,vW,mid⟩
   obtain ⟨q,rfl,hq1,il,hq2,hqB⟩:=vB.at hx'
   obtain ⟨ring,hring⟩:∃ ring,ring=(askL g mf).getD i []:=⟨_,rfl⟩
   rw [←hring] at hq2 hqB
   have rin:=List.mem_of_getElem? hq2
   obtain ⟨rl1,rl2⟩:=ask_len mf2 m8 rin
   have rlt:=ask_lt g2 rin
   have f8:=mid.few g2 g9 tbf fun s hs=>ask_lt g2 (List.mem_of_mem_take hs)
   have sm:=fun j (hj:j≤Rs.length)=>mid.small (ring:=ring) f8 rl2 hj
   have rb:=mid.rowsb f8
   have cl:=fun j=>clrAll_len mid.rows (chgL_len g lf tf mf ring) j
   have tk:(askL g mf).take (i+1)=(askL g mf).take i++[ring]:=by rw [Z22,hq2];rfl
   rw [tk]
   refine hide fun N2 hN2=>?_
   walk_at "rd"
   refine ⟨r',q,g,lf,tf,mf,ring,rfl,ok3.same eX,eX _ _ hqB,rlt,rl1,by lia,fun p4 H4 n4=>hN2 _ _ ?_⟩
   clear hN2 N2
   have n4':H4 p4=some (.lst ((chgL g lf tf mf ring).map V.int)):=n4.2.2
   have e4:=n4.1
   obtain ⟨c,hc⟩:∃ c,c=chgL g lf tf mf ring:=⟨_,rfl⟩
   rw [←hc] at n4' sm cl
   refine cut (fun σ HY=>∃ (pv:Addr) (x6:Option V),σ=[some (.ref r),some (.ref r'),some (.ref pR),some (.ref pV),some (.ref q),some (.ref pv),x6]∧Same HX HY∧HY pv=some (.lst ((clrAll Rs fs Rs.length c).map V.int))) (fun N2 hN2=>?_) ?_
   ·refine ⟨_,rfl,pV,rfl,⟨_,SqL.of (e4 _ _ vW.l)⟩,?_⟩
    refine for_list (xs:=ws.map V.ref) (fun j σ HY=>∃ (pv:Addr) (x6:Option V),σ=[some (.ref r),some (.ref r'),some (.ref pR),some (.ref pV),some (.ref q),some (.ref pv),x6]∧Same HX HY∧HY pv=some (.lst ((clrAll Rs fs j c).map V.int))) ⟨p4,_,rfl,e4,n4'⟩ (fun j σ HY _ z=>by obtain ⟨_,_,_,z,_⟩:=z;exact SqL.of (z _ _ vW.l)) ?_ ?_
    ·rintro j y σ HY hy ⟨pv,x6,rfl,eY,hY⟩
     obtain ⟨o,rfl,ho1,jl,ho2,hoH⟩:=vW.at hy
     have om:=List.mem_of_getElem? ho2
     have ol:=mid.rows.len _ om
     have jf:=(mid.rows.at (chgL_len g lf tf mf ring) jl).2
     have ft:=mid.rows.foot j _ _ ho2 jf
     walk_at "rd"
     refine ⟨pv,o,_,_,fs.getD j 0,rfl,hY,eY _ _ hoH,by rw [cl,ol],by rw [cl];lia,ft,(sm j (by lia)).mono (by decide),(rb _ om).mono (by decide),(sm (j+1) (by lia)).mono (by decide),fun p5 H5 e5 h5=>?_⟩
     first
     | exact ⟨p5,⟨rfl,rfl⟩,eY.trans e5,h5⟩
     | exact ⟨p5,rfl,eY.trans e5,h5⟩
     | exact ⟨eY.trans e5,h5⟩
    ·rintro σ HY ⟨pv,x6,rfl,eY,hY⟩
     rw [Z1,vW.n] at hY
     exact hN2 _ _ ⟨pv,x6,rfl,eY,hY⟩
   rintro σ HY ⟨pv,x6',rfl,eY,hY⟩
   have cG:=cl Rs.length
   obtain ⟨row,hrow⟩:∃ row,row=clrAll Rs fs Rs.length c:=⟨_,rfl⟩
   have smr:=sm Rs.length (Nat.le_refl _)
   rw [←hrow] at hY cG smr
   walk_at "rd"
   refine ⟨row,SqL.of hY,?_⟩
   by_cases z:∃ i,row.getD i 0≠0
   ·obtain ⟨f,hf⟩:=foot_ex row z
    have an:(row.any fun n=>decide (n≠0))=true:=by
     refine List.any_eq_true.mpr ⟨row.getD f 0,?_,decide_eq_true hf.1⟩
     rw [Z0,List.getElem?_eq_getElem hf.lt]
     exact List.getElem_mem _
    rw [if_pos an]
    have cut1:c.length=g.toNat:=by rw [hc];exact chgL_len ..
    have mid':=mid.take (ring:=ring) f8 rl2 (by rw [←hc,←hrow];exact hf)
    rw [←hc,←hrow] at mid'
    have vWY:=vW.same eY
    have vRY:=vR.same eY
    have cb:∀ o∈Rs,BitsB (clrL o row f) 4000:=fun o ho=>by
     have m8':=mid'.few g2 g9 tbf fun s hs=>by
      rcases List.mem_append.mp hs with y | y
      ·exact ask_lt g2 (List.mem_of_mem_take y)
      ·rw [List.mem_singleton.mp y]
       exact rlt
     exact (mid'.rowsb m8' _ (List.mem_append_left _ (List.mem_map.mpr ⟨o,ho,rfl⟩))).mono (by decide)
    refine ⟨_,rfl,pV,rfl,⟨_,SqL.of vWY.l⟩,fun D hD=>?_⟩
    refine comp_list (xs:=ws.map V.ref) (fun j acc Hx=>∃ ps:List Addr,acc=ps.map V.ref∧Same HY Hx∧Hx D=some (.lst acc)∧ps.length=j∧∀ (k:Nat) (q:Addr) (o:List Int),ps[k]?=some q→Rs[k]?=some o→Hx q=some (.lst ((clrL o row f).map V.int))∧q≠D) ⟨[],rfl,Same.new hD _,upd_same,rfl,fun k q o z=>by cases z⟩ (fun j acc Hx _ z=>by obtain ⟨_,_,z,_⟩:=z;exact SqL.of (z _ _ vWY.l)) ?_ ?_
    ·rintro j y acc Hx hy ⟨ps,rfl,ex,hDx,pl,hps⟩
     obtain ⟨o,rfl,ho1,jl,ho2,hoH⟩:=vWY.at hy
     have om:=List.mem_of_getElem? ho2
     have ol:=mid.rows.len _ om
     walk_at "rd"
     refine ⟨o,pv,_,row,f,rfl,ex _ _ hoH,ex _ _ hY,by rw [cG,ol],by rw [ol];lia,hf,(rb _ om).mono (by decide),smr.mono (by decide),cb _ om,fun p5 H5 e5 h5=>?_⟩
     have pD:p5≠D:=kind_ne h5 (by rw [clrL_len,ol];lia) (e5 _ _ hDx)
     refine ⟨e5 _ _ hDx,?_,ps++[p5],by rw [Z3];rfl,(ex.trans e5).into hD,upd_same,by rw [Z4,pl];rfl,fun k q' o' hq' ho'=>?_⟩
     ·rw [Z1,pl]
      exact small1000 (by lia)
     ·by_cases kl:k<j
      ·rw [List.getElem?_append_left (by lia)] at hq'
       obtain ⟨a1,a2⟩:=hps k q' o' hq' ho'
       exact ⟨by rw [upd_ne a2];exact e5 _ _ a1,a2⟩
      ·rw [List.getElem?_append_right (by lia)] at hq'
       have k0:k - ps.length=0:=by
        have:=(List.getElem?_eq_some_iff.mp hq').1
        rw [Z15] at this
        lia
       have ki:k=j:=by lia
       rw [k0] at hq'
       cases hq'
       rw [ki,ho2] at ho'
       cases ho'
       exact ⟨by rw [upd_ne pD];exact h5,pD⟩
    rintro acc H5 ⟨ps,rfl,e5,hD5,pl,hps⟩
    rw [Z1,vW.n] at pl
    have R5:=e5 _ _ vRY.l
    have nRD:pR≠D:=fun y=>by rw [←y,vRY.l] at hD;cases hD
    have pvD:pv≠D:=fun y=>by rw [←y,hY] at hD;cases hD
    have pvR:pv≠pR:=kind_ne hY (by rw [cG];lia) vRY.l
    have RU:upd H5 D (.lst (ps.map V.ref++[V.ref pv])) pR=some (.lst (rs.map V.ref)):=by rw [upd_ne nRD];exact R5
    have rn:=vR.n
    have mc:=mid.cnt
    have BD:B D=none:=by
     cases y:B D with
     | none=>rfl
     | some o=>rw [(eX.trans eY) _ _ y] at hD;cases hD
    have eL:Same B (upd (upd H5 D (.lst (ps.map V.ref++[V.ref pv]))) pR (.lst (rs.map V.ref++[V.ref q]))):=((((eX.trans eY).trans e5).into BD).into BR)
    refine ⟨.inl ⟨_,SqL.of hD5⟩,D,rfl,_,hD5,?_,.inl ⟨_,SqL.of RU⟩,_,RU,?_,D,rfl,eL,rs++[q],ps++[pv],rings++[ring],⟨?_,?_,?_⟩,_,⟨?_,?_,?_⟩,_,mid'⟩
    ·rw [Z1,pl]
     exact small1000 (by lia)
    ·rw [Z1]
     exact small1000 (by lia)
    ·rw [upd_same,Z3]
     rfl
    ·rw [Z4,Z4,rn]
     rfl
    ·intro k q' w hk hw
     by_cases kl:k<rs.length
     ·rw [List.getElem?_append_left kl] at hk
      rw [List.getElem?_append_left (by lia)] at hw
      have hwY:=vRY.e k q' w hk hw
      have wm:=mid.sub w (List.mem_of_getElem? hw)
      have w1:=(ask_len mf2 m8 (List.mem_of_mem_take wm)).1
      rw [upd_ne (kind_ne hwY w1 vRY.l),upd_ne (fun y=>by rw [←y,hwY] at hD;cases hD)]
      exact e5 _ _ hwY
     ·rw [List.getElem?_append_right (by lia)] at hk
      rw [List.getElem?_append_right (by lia)] at hw
      have k0:k - rs.length=0:=by
       have:=(List.getElem?_eq_some_iff.mp hk).1
       rw [Z15] at this
       lia
      have k1:k - rings.length=0:=by lia
      rw [k0] at hk
      rw [k1] at hw
      cases hk
      cases hw
      exact eL _ _ hqB
    ·rw [upd_ne (fun y=>nRD y.symm),upd_same,Z3]
     rfl
    ·rw [Z4,Z4,Z1,pl]
     rfl
    ·intro k q' w hk hw
     by_cases kl:k<ps.length
     ·rw [List.getElem?_append_left kl] at hk
      rw [List.getElem?_append_left (by rw [Z1];lia),Z6] at hw
      obtain ⟨o,ho⟩:∃ o,Rs[k]?=some o:=⟨_,List.getElem?_eq_getElem (by lia)⟩
      rw [ho] at hw
      cases hw
      obtain ⟨a1,a2⟩:=hps k q' o hk ho
      rw [upd_ne (kind_ne a1 (by rw [clrL_len,mid.rows.len _ (List.mem_of_getElem? ho)];lia) R5),upd_ne a2]
      exact a1
     ·rw [List.getElem?_append_right (by lia)] at hk
      rw [List.getElem?_append_right (by rw [Z1];lia),Z1] at hw
      have k0:k - ps.length=0:=by
       have:=(List.getElem?_eq_some_iff.mp hk).1
       rw [Z15] at this
       lia
      have k1:k - Rs.length=0:=by lia
      rw [k0] at hk
      rw [k1] at hw
      cases hk
      cases hw
      rw [upd_ne pvR,upd_ne pvD]
      exact e5 _ _ hY
   ·have an:(row.any fun n=>decide (n≠0))=false:=by
     refine List.any_eq_false.mpr fun n hn=>?_
     obtain ⟨k,hk⟩:=List.mem_iff_getElem?.mp hn
     intro y
     refine z ⟨k,?_⟩
     rw [Z0,hk]
     exact of_decide_eq_true y
    rw [if_neg (by rw [an];decide)]
    refine ⟨eX.trans eY,rs,ws,rings,vR.same eY,Rs,vW.same eY,fs,mid.skip fun k=>?_⟩
    rw [←hc,←hrow]
    exact Classical.byContradiction fun y=>z ⟨k,y⟩
  ·rintro σ HX ⟨pV,x4,x5,x6,rs,ws,rings,Rs,fs,rfl,eX,vR,vW,mid⟩
   rw [Z1,v3.n,Z14] at mid
   exact hN _ _ ⟨pV,x4,x5,x6,rs,ws,rings,Rs,fs,rfl,B1.trans eX,vR,vW,mid⟩
 rintro σ HX ⟨pV,x4,x5,x6,rs,ws,rings,Rs,fs,rfl,eX,vR,vW,mid⟩
 have bo:=mid.done g2 g9 tbf (fun s hs=>ask_lt g2 hs) rfl
 walk_at "rd"
 refine ⟨by decide,fun p hp=>?_⟩
 have ep:=Same.new hp (.tup [.ref pR,.ref pV])
 exact hq p pR pV rs ws rings Rs fs _ ((e1.trans eX).trans ep) upd_same (vR.same ep) (vW.same ep) bo
theorem sc_0:FnScope ["signs","rows","head","weights","row"] ["signs","rows","head"] (defScope s_0):=⟨rfl,rfl,rfl,by decide +kernel,rfl,by decide +kernel,by decide +kernel⟩
theorem ok_0 (T:Txt K mg t) (G_47:Has P w K mg base 2 t.f_47 ["row"] (spSimp)) (G_63:Has P w K mg base 1 t.f_63 ["row"] (spFoot)):Has P w K mg base 3 t.f_0 ["signs","rows","head"] (spWH):=by
 refine has_mk0 T.d_0 sc_0 (fun _ _ _ _ _ _ us hl=>match us,hl with | [_,_,_],_=>rfl) (fun vs H Q E h=>?_) (fun cdv A outer s H vs Q E hr h=>?_)
 ·obtain ⟨pw,ws,G,Rs,fs,hd,rfl,vW,ok,g9,f8,rb,hl,nf,wb,q⟩:=h
  rfl
 obtain ⟨pw,ws,G,Rs,fs,hd,rfl,vW,ok,g9,f8,rb,hl,nf,wb,q⟩:=h
 refine ⟨_,(pss_cons (ps_set (i:=3) sc_0.nd rfl (Or.inl rfl) (pe_op op_rep (pe_lst (pa_consC pa_nil)) (pv 0)))
  (pss_cons (ps_asg pe_int (pg_sub (pv 3) (pv 2) set_list))
  (pss_cons (ps_for PassesOwn.never rfl (pi_list (pv 1)) (pg_name (i:=4) sc_0.nd rfl (Or.inl rfl)) (pss_one (ps_asg (pe_op op_mulC (pe_ix ix_list (pv 3) (pv 2) (fun _ _=>rfl)) (pe_callB call_abs_of rfl T.z_abs PyProof.Rows.boot_abs (pa_cons (pe_ix ix_list (pv 4) (pe_callH G_63 (hr.mono (by decide)) rfl T.m_63 passF (pa_cons (pv 4) pa_nil)) (fun _ _=>rfl)) pa_nil))) (pg_sub (pv 3) (pv 2) set_list))))
  (pss_cons (ps_for PassesOwn.never rfl (pi_list (pv 1)) (pg_name (i:=4) sc_0.nd rfl (Or.inl rfl)) (pss_one (ps_asg (pe_op op_fdivX (pe_op op_mulC (pe_un un_neg (pe_ix ix_list (pv 4) (pv 2) (fun _ _=>rfl))) (pe_ix ix_list (pv 3) (pv 2) (fun _ _=>rfl))) (pe_ix ix_list (pv 4) (pe_callH G_63 (hr.mono (by decide)) rfl T.m_63 passF (pa_cons (pv 4) pa_nil)) (fun _ _=>rfl))) (pg_sub (pv 3) (pe_callH G_63 (hr.mono (by decide)) rfl T.m_63 passF (pa_cons (pv 4) pa_nil)) set_list))))
  (pss_one (ps_ret (pe_callH G_47 (hr.mono (by decide)) rfl T.m_47 passF (pa_cons (pv 3) pa_nil)))))))),?_⟩
 refine hide fun N hN=>?_
 walk_at "rd"
 refine ⟨by decide,fun p1 hp1=>rep_new upd_same (by lia) (by lia) fun p2 H2 e2 f2 h2'=>hN _ _ ?_⟩
 clear hN N
 rw [Z5] at h2'
 have n2:H p2=none:=by
  by_cases c:p2=p1
  ·rw [c,upd_same] at f2;cases f2
  ·rw [upd_ne c] at f2;exact f2
 have e12:=(Same.new hp1 (.lst [V.int 0])).trans e2
 have mz:List.replicate G (V.int 0)=(List.replicate G (0:Int)).map V.int:=by rw [List.map_replicate]
 rw [mz] at h2'
 refine hide fun N hN=>?_
 walk_at "rd"
 refine ⟨_,rfl,_,rfl,p2,_,_,hd,rfl,rfl,h2',(by rw [Z1,Z9];exact ixN_nat hl),hN _ _ ?_⟩
 clear hN N
 rw [show V.int 1=V.int (((1:Nat):Int)) from rfl,←List.map_set]
 have e3:Same H (upd H2 p2 (.lst (((List.replicate G (0:Int)).set hd (((1:Nat):Int))).map V.int))):=e12.into n2
 obtain ⟨H3,hH3⟩:∃ H3,H3=upd H2 p2 (.lst (((List.replicate G (0:Int)).set hd (((1:Nat):Int))).map V.int)):=⟨_,rfl⟩
 have h3:H3 p2=some (.lst (((List.replicate G (0:Int)).set hd (((1:Nat):Int))).map V.int)):=by rw [hH3];exact upd_same
 rw [←hH3] at e3 ⊢
 clear hH3 h2' e2 e12 f2 hp1
 have big:∀ {x:Int} {b:Nat},x.natAbs<2^b→b≤100000→x.natAbs<2^100000:=fun h hb=>Nat.lt_of_lt_of_le h (Nat.pow_le_pow_right (by decide) hb)
 have pb:∀ j,j≤Rs.length→(((prodF Rs fs j:Nat):Int)).natAbs<2^30000:=fun j hj=>by
  rw [Int.natAbs_natCast]
  exact Nat.lt_of_lt_of_le (prodF_bits (fs:=fs) rb j hj) (Nat.pow_le_pow_right (by decide) (by lia))
 have sl:∀ x:Int,((List.replicate G (0:Int)).set hd x).length=G:=fun x=>by rw [Z11,Z9]
 have sh:∀ x:Int,((List.replicate G (0:Int)).set hd x).getD hd 0=x:=fun x=>by rw [getD_set _ _ _ _ (by rw [Z9];exact hl),if_pos rfl]
 refine cut (fun σ HX=>(∃ x4,σ=[some (.int ((G:Nat):Int)),some (.ref pw),some (.int ((hd:Nat):Int)),some (.ref p2),x4])∧Same H HX∧HX p2=some (.lst (((List.replicate G (0:Int)).set hd ((prodF Rs fs Rs.length:Nat):Int)).map V.int))) (fun N hN=>?_) ?_
 ·refine ⟨_,rfl,pw,rfl,⟨_,SqL.of (e3 _ _ vW.l)⟩,?_⟩
  refine for_list (xs:=ws.map V.ref) (fun j σ HX=>(∃ x4,σ=[some (.int ((G:Nat):Int)),some (.ref pw),some (.int ((hd:Nat):Int)),some (.ref p2),x4])∧Same H HX∧HX p2=some (.lst (((List.replicate G (0:Int)).set hd ((prodF Rs fs j:Nat):Int)).map V.int))) ⟨⟨_,rfl⟩,e3,h3⟩ (fun j σ HX _ z=>SqL.of (z.2.1 _ _ vW.l)) ?_ ?_
  ·rintro j y σ HX hy ⟨⟨x4,rfl⟩,eX,hX⟩
   obtain ⟨o,rfl,ho1,jl,ho2,hoH⟩:=vW.at hy
   have om:=List.mem_of_getElem? ho2
   have ol:=ok.len _ om
   have jf:fs[j]?=some (fs.getD j 0):=by rw [Z0,List.getElem?_eq_getElem (by rw [ok.n];exact jl)];rfl
   have ft:=ok.foot j _ _ ho2 jf
   walk_at "rd"
   refine ⟨p2,_,_,_,rfl,rfl,SqL.of hX,getAt (by rw [sl];exact hl),?_⟩
   refine ⟨o,_,fs.getD j 0,rfl,eX _ _ hoH,by lia,ft,fun H4 e4=>?_⟩
   refine ⟨o,_,_,_,rfl,rfl,SqL.of ((eX.trans e4) _ _ hoH),getAt ft.lt,_,rfl,_,rfl,?_,?_⟩
   ·rw [sh]
    refine ⟨big (pb j (by lia)) (by decide),?_⟩
    have:=big (rb _ om (fs.getD j 0)) (by decide)
    split <;> lia
   refine ⟨_,rfl,_,rfl,p2,_,_,hd,rfl,rfl,e4 _ _ hX,(by rw [Z1,sl];exact ixN_nat hl),⟨_,rfl⟩,(eX.trans e4).into n2,?_⟩
   rw [upd_same,←List.map_set,List.set_set,sh]
   have av:(((prodF Rs fs j:Nat):Int)*if (Rs.getD j []).getD (fs.getD j 0) 0<0 then -((Rs.getD j []).getD (fs.getD j 0) 0) else (Rs.getD j []).getD (fs.getD j 0) 0)=((prodF Rs fs (j+1):Nat):Int):=by
    rw [show prodF Rs fs (j+1)=prodF Rs fs j*((Rs.getD j []).getD (fs.getD j 0) 0).natAbs from rfl,Z12]
    congr 1
    split <;> lia
   rw [av]
  ·rintro σ HX ⟨⟨x4,rfl⟩,eX,hX⟩
   rw [Z1,vW.n] at hX
   exact hN _ _ ⟨⟨_,rfl⟩,eX,hX⟩
 rintro σ HX ⟨⟨x4,rfl⟩,eX,hX⟩
 obtain ⟨D,hD⟩:∃ D:Int,D=((prodF Rs fs Rs.length:Nat):Int):=⟨_,rfl⟩
 have dvs:∀ l,l<Rs.length→(Rs.getD l []).getD (fs.getD l 0) 0∣D:=fun l hl'=>by
  rw [hD]
  exact Int.natAbs_dvd_natAbs.mp (by rw [Int.natAbs_natCast];exact prodF_dvd Rs fs _ l hl')
 have Db:=pb _ (Nat.le_refl _)
 rw [←hD] at hX Db
 refine cut (fun σ HY=>(∃ x4,σ=[some (.int ((G:Nat):Int)),some (.ref pw),some (.int ((hd:Nat):Int)),some (.ref p2),x4])∧Same H HY∧HY p2=some (.lst ((wHead G Rs fs hd D).map V.int))) (fun N hN=>?_) ?_
 ·refine ⟨_,rfl,pw,rfl,⟨_,SqL.of (eX _ _ vW.l)⟩,?_⟩
  refine for_list (xs:=ws.map V.ref) (fun j σ HY=>(∃ x4,σ=[some (.int ((G:Nat):Int)),some (.ref pw),some (.int ((hd:Nat):Int)),some (.ref p2),x4])∧Same H HY∧∃ us,WJ G Rs fs hd D j us∧HY p2=some (.lst (us.map V.int))) ⟨⟨_,rfl⟩,eX,_,⟨sl _,sh _,fun l h=>absurd h (Nat.not_lt_zero _),fun i h1 _=>by
   rw [getD_set _ _ _ _ (by rw [Z9];exact hl),if_neg h1,Z0,Z19]
   split <;> rfl⟩,hX⟩ (fun j σ HY _ z=>SqL.of (z.2.1 _ _ vW.l)) ?_ ?_
  ·rintro j y σ HY hy ⟨⟨x4,rfl⟩,eY,us,wj,hY⟩
   obtain ⟨o,rfl,ho1,jl,ho2,hoH⟩:=vW.at hy
   have om:=List.mem_of_getElem? ho2
   have ol:=ok.len _ om
   have jf:fs[j]?=some (fs.getD j 0):=by rw [Z0,List.getElem?_eq_getElem (by rw [ok.n];exact jl)];rfl
   have ft:=ok.foot j _ _ ho2 jf
   have wj':=wj.add ok nf jl
   walk_at "rd"
   have oD:=dvs j jl
   obtain ⟨row,hrow⟩:∃ row,row=Rs.getD j []:=⟨_,rfl⟩
   rw [←hrow] at wj' oD ft ol hoH om
   obtain ⟨f,hf⟩:∃ f,f=fs.getD j 0:=⟨_,rfl⟩
   have fl:f<G:=by rw [hf];exact ok.lt jf
   rw [←hf] at wj' oD ft
   refine ⟨o,_,_,_,rfl,rfl,SqL.of (eY _ _ hoH),getAt (by rw [ol];exact hl),_,rfl,?_⟩
   refine ⟨p2,_,_,_,rfl,rfl,SqL.of hY,getAt (by rw [wj.n];exact hl),_,rfl,?_,?_⟩
   ·rw [wj.h]
    exact ⟨by rw [Int.natAbs_neg];exact big (rb _ om hd) (by decide),big Db (by decide)⟩
   refine ⟨o,_,f,rfl,eY _ _ hoH,by lia,ft,fun H4 e4=>?_⟩
   refine ⟨o,_,_,_,rfl,rfl,SqL.of ((eY.trans e4) _ _ hoH),getAt ft.lt,_,rfl,?_,?_⟩
   ·rw [wj.h]
    obtain ⟨u,hu⟩:=oD
    exact ⟨ft.1,-row.getD hd 0*u,by rw [hu,Int.mul_left_comm],.inr (Nat.lt_of_lt_of_le (rb _ om f) (Nat.pow_le_pow_right (by decide) (by decide)))⟩
   refine ⟨_,rfl,_,rfl,o,_,f,rfl,(eY.trans e4) _ _ hoH,by lia,ft,fun H5 e5=>?_⟩
   refine ⟨p2,_,_,f,rfl,rfl,(e4.trans e5) _ _ hY,(by rw [Z1,wj.n];exact ixN_nat fl),⟨_,rfl⟩,((eY.trans e4).trans e5).into n2,_,wj',?_⟩
   rw [upd_same,←List.map_set,wj.h]
  ·rintro σ HY ⟨⟨x4,rfl⟩,eY,us,wj,hY⟩
   rw [Z1,vW.n] at wj
   rw [wj.done ok nf hl] at hY
   exact hN _ _ ⟨⟨_,rfl⟩,eY,hY⟩
 rintro σ HY ⟨⟨x4,rfl⟩,eY,hY⟩
 unfold headW at wb q
 rw [←hD] at wb q
 walk_at "rd"
 refine ⟨p2,_,rfl,hY,?_,wb,fun p H' e' h'=>q p H' (eY.trans e') h'⟩
 unfold wHead
 rw [Z1,Z2]
 lia
theorem sc_42:FnScope ["one","rows","feet"] ["one"] (defScope s_42):=⟨rfl,rfl,rfl,by decide +kernel,rfl,by decide +kernel,by decide +kernel⟩
theorem ok_42 (T:Txt K mg t) (G_2:Has P w K mg base 9 t.f_2 ["one"] (spRR t.c_48)) (G_63:Has P w K mg base 1 t.f_63 ["row"] (spFoot)) (G_0:Has P w K mg base 3 t.f_0 ["signs","rows","head"] (spWH)):Has P w K mg base 10 t.f_42 ["one"] (spAK t.c_48):=by
 refine has_mkX T.d_42 sc_42 (fun _ _ _ _ _ _ us hl=>match us,hl with | [_],_=>rfl) (fun vs H Q E h=>?_) (fun cdv A outer s H vs Q E hr h=>?_)
 ·obtain ⟨r,g,lo,tab,m,lf,tf,mf,rfl,ok,fw,hq,hx⟩:=h
  rfl
 obtain ⟨r,g,lo,tab,m,lf,tf,mf,rfl,ok,fw,hq,hx⟩:=h
 refine ⟨_,(pss_cons (ps_set (i:=1) sc_42.nd rfl (Or.inr rfl) (pe_ix ix_tup (pe_callH G_2 (hr.mono (by decide)) rfl T.m_2 passes_body (pa_cons (pv 0) pa_nil)) pe_int (fun _ _=>rfl)))
  (pss_cons (ps_set (i:=2) sc_42.nd rfl (Or.inr rfl) (pe_comp (fv:=[]) (cl:=[]) rfl (pi_list (pv 1)) (by with_unfolding_all rfl) (by decide +kernel) rfl (by decide +kernel) rfl trivial (by with_unfolding_all rfl) trivial (by decide) (fun _ _ _ _=>pf_nil) (fun _ _ _ _=>(pe_callH G_63 (hr.mono (by decide)) rfl T.m_63 passF (pa_cons (pv 0) pa_nil)))) (hs:=by with_unfolding_all rfl))
  (pss_one (ps_ret (pe_comp (fv:=[(1,"rows"),(0,"one"),(2,"feet")]) (cl:=[("rows",_),("one",_),("feet",_)]) rfl (pi_range1 rfl T.z_range (pa_cons (pe_ix ix_tup (pv 0) pe_int (fun _ _=>rfl)) pa_nil)) (by with_unfolding_all rfl) (by decide +kernel) rfl (by decide +kernel) rfl ⟨(by with_unfolding_all rfl),⟨(by with_unfolding_all rfl),⟨(by with_unfolding_all rfl),trivial⟩⟩⟩ (by with_unfolding_all rfl) ⟨⟨rfl,rfl,(by with_unfolding_all rfl),rfl⟩,⟨⟨rfl,rfl,(by with_unfolding_all rfl),rfl⟩,⟨⟨rfl,rfl,(by with_unfolding_all rfl),rfl⟩,trivial⟩⟩⟩ (by decide) (fun _ _ _ _=>(pf_one (pt_cmpR (op_notIn_seqK (K:=K) rfl) (pv 0) (pv 3) (by with_unfolding_all rfl)))) (fun _ _ _ _=>(pe_callH G_0 (hr.mono (by decide)) rfl T.m_0 passF (pa_cons (pe_ix (ix_tupK (K:=K) rfl) (pv 2) pe_int (fun _ _=>rfl)) (pa_cons (pv 1) (pa_cons (pv 0) pa_nil)))))))))),?_⟩
 obtain ⟨tb,h1,h2⟩:=id ok.v
 have g2:=ok.g2
 have g9:=ok.g9
 refine hide fun N hN=>?_
 walk_at "rd"
 refine ⟨r,g,lo,tab,m,lf,tf,mf,rfl,ok,fw,fun s9 p pr pw rs ws rings Rs fs H1 e1 hp v1 v2 bo=>?_,hx⟩
 refine ⟨p,_,1,_,rfl,rfl,SqT.of hp,rfl,hN _ _ ?_⟩
 clear hN N
 replace hq:=hq s9
 have rok:=bo.rows
 obtain ⟨b,Δ,M,b3,sc,rb⟩:=bo.scl
 have f8:=bo.few
 have at':∀ l,l<Rs.length→fs[l]?=some (fs.getD l 0):=fun l hl=>by rw [Z0,List.getElem?_eq_getElem (by rw [rok.n];exact hl)];rfl
 refine hide fun N hN=>?_
 refine ⟨_,rfl,pw,rfl,⟨_,SqL.of v2.l⟩,fun D hD=>?_⟩
 refine comp_list (xs:=ws.map V.ref) (fun j acc Hx=>acc=((fs.take j).map fun f:Nat=>((f:Nat):Int)).map V.int∧Same H1 Hx∧Hx D=some (.lst acc)) ⟨rfl,Same.new hD _,upd_same⟩ (fun j acc Hx _ z=>SqL.of (z.2.1 _ _ v2.l)) ?_ ?_
 ·rintro j y acc Hx hy ⟨rfl,ex,hDx⟩
  obtain ⟨o,rfl,ho1,jl,ho2,hoH⟩:=v2.at hy
  have om:=List.mem_of_getElem? ho2
  have ol:=rok.len _ om
  have ft:=rok.foot j _ _ ho2 (at' j jl)
  walk_at "rd"
  refine ⟨o,_,fs.getD j 0,rfl,ex _ _ hoH,by lia,ft,fun H4 e4=>⟨e4 _ _ hDx,?_,?_,(ex.trans e4).into hD,upd_same⟩⟩
  ·rw [Z1,Z1,Z16]
   exact small1000 (by lia)
  ·rw [Z22,at' j jl,Z3,Z3]
   rfl
 rintro acc H2 ⟨rfl,e2,hF⟩
 rw [Z1,v2.n,←rok.n,Z14] at hF
 refine hN _ _ ?_
 clear hN N
 have e12:=e1.trans e2
 walk_at "rd"
 have eG:((g.toNat:Nat):Int)=g:=Int.toNat_of_nonneg (by lia)
 refine ⟨_,rfl,r,_,0,_,rfl,rfl,SqT.of (e12 _ _ h1),rfl,g,rfl,by lia,by lia,fun D2 hD2=>?_⟩
 refine comp_range (n:=g.toNat) (fun i acc Hx=>∃ ps:List Addr,acc=ps.map V.ref∧Same H2 Hx∧LsV Hx D2 ps (keptL g.toNat Rs fs i)) ⟨[],rfl,Same.new hD2 _,upd_same,rfl,fun k q w z=>by cases z⟩ ?_ ?_
 ·rintro i acc Hx hi ⟨ps,rfl,ex,vK⟩
  walk_at "rd"
  rw [Z8,keptL_succ]
  refine ⟨D,_,rfl,.inl (SqL.of (ex _ _ hF)),rfl,flat_nats fs,_,rfl,?_⟩
  rw [if_pos rfl,inV_nats]
  have kl:=keptL_len g.toNat Rs fs i
  by_cases c:i∈fs
  ·rw [if_neg (by rw [decide_eq_true c];decide),if_pos c,List.append_nil]
   exact ⟨ps,rfl,ex,vK⟩
  ·rw [if_pos (by rw [decide_eq_false c];rfl),if_neg c]
   refine ⟨r,_,0,_,rfl,rfl,SqT.of ((e12.trans ex) _ _ h1),rfl,pw,ws,g.toNat,Rs,fs,i,by rw [eG],(v2.same e2).same ex,rok,by lia,f8,rb,hi,c,(headW_bits rok sc hi c).mono (by lia),fun p5 H5 e5 h5=>⟨e5 _ _ vK.l,?_,ps++[p5],by rw [Z3];rfl,(ex.trans e5).into hD2,?_⟩⟩
   ·rw [Z1,vK.n]
    exact small1000 (by lia)
   ·exact (vK.same e5).snoc (fun u hu=>by
     obtain ⟨hd',_,_,rfl⟩:=keptL_mem hu
     rw [headW_len]
     lia) (by rw [headW_len];lia) h5
 rintro acc H3 ⟨ps,rfl,e3,vK⟩
 exact hq D2 ps rings Rs fs H3 (e12.trans e3) vK bo
theorem sc_49:FnScope ["one"] ["one"] (defScope s_49):=⟨rfl,rfl,rfl,by decide +kernel,rfl,by decide +kernel,by decide +kernel⟩
theorem ok_49 (T:Txt K mg t) (G_2:Has P w K mg base 9 t.f_2 ["one"] (spRR t.c_48)):Has P w K mg base 10 t.f_49 ["one"] (spChanges t.c_48):=by
 refine has_mkX T.d_49 sc_49 (fun _ _ _ _ _ _ us hl=>match us,hl with | [_],_=>rfl) (fun vs H Q E h=>?_) (fun cdv A outer s H vs Q E hr h=>?_)
 ·obtain ⟨r,g,lo,tab,m,lf,tf,mf,rfl,ok,fw,hq,hx⟩:=h
  rfl
 obtain ⟨r,g,lo,tab,m,lf,tf,mf,rfl,ok,fw,hq,hx⟩:=h
 refine ⟨_,(pss_one (ps_ret (pe_ix ix_tup (pe_callH G_2 (hr.mono (by decide)) rfl T.m_2 passes_body (pa_cons (pv 0) pa_nil)) pe_int (fun _ _=>rfl)))),?_⟩
 walk_at "rd"
 refine ⟨r,g,lo,tab,m,lf,tf,mf,rfl,ok,fw,fun s9 p pr pw rs ws rings Rs fs H1 e1 h1 v1 v2 bo=>?_,hx⟩
 exact ⟨p,_,0,_,rfl,rfl,SqT.of h1,rfl,hq s9 pr rs rings Rs fs H1 e1 v1 bo⟩
theorem sc_5:FnScope ["signs","weights","weight"] ["signs","weights"] (defScope s_5):=⟨rfl,rfl,rfl,by decide +kernel,rfl,by decide +kernel,by decide +kernel⟩
theorem ok_5 (T:Txt K mg t) (G_29:Has P w K mg base 1 t.f_29 ["signs","length"] (spPlacesFor)) (G_46:Has P w K mg base 1 t.f_46 ["thing"] (spWhole)):Has P w K mg base 2 t.f_5 ["signs","weights"] (spCheckW t.c_30):=by
 refine has_mkX T.d_5 sc_5 (fun _ _ _ _ _ _ us hl=>match us,hl with | [_,_],_=>rfl) (fun vs H Q E h=>?_) (fun cdv A outer s H vs Q E hr h=>?_)
 ·obtain ⟨g,z,rfl,g2,g9,kz,hg,hbad⟩:=h
  rfl
 obtain ⟨g,z,rfl,g2,g9,kz,hg,hbad⟩:=h
 refine ⟨_,(pss_cons (ps_if (PW.pt (pw_or (pt_not (pt_val (pe_isi rfl T.z_isinstance (pv 1) (pe_ty rfl T.z_list PyProof.Rows.boot_list)))) (pw_or1 (pt_cmpR op_eq (pe_callH G_29 (hr.mono (by decide)) rfl T.m_29 passF (pa_cons (pv 0) (pa_cons (pe_callB call_len_seq rfl T.z_len PySem.boot_len (pa_cons (pv 1) pa_nil)) pa_nil))) pe_int (nomark _))))) (pss_one (ps_raise rfl T.x_30 rfl T.m_30 raises_body (pa_cons pe_str pa_nil))) pss_nil)
  (pss_one (ps_for PassesOwn.leaving rfl (pi_list (pv 1)) (pg_name (i:=2) sc_5.nd rfl (Or.inl rfl)) (pss_one (ps_if (pt_not (pt_val (pe_callH G_46 (hr.mono (by decide)) rfl T.m_46 passF (pa_cons (pv 2) pa_nil)))) (pss_one (ps_raise rfl T.x_30 rfl T.m_30 raises_body (pa_cons pe_str pa_nil))) pss_nil))))),?_⟩
 walk_at "rd"
 have no:(∀ a,z≠.ref a)→¬ wGood H g z:=fun h ⟨a,_,e,_⟩=>h a e
 cases z with
 | ref a =>
  obtain ⟨xs,hs,kx⟩:=kz
  have notk:H a=some (.lst xs)→¬ ((∃ m:Nat,1≤m∧(xs.length:Int)=g^m)∧∀ x∈xs,isI x=true)→¬ wGood H g (.ref a):=by
   rintro hL h ⟨b,ys,e,hb,k⟩
   cases e
   rw [hL] at hb
   cases hb
   exact h k
  rcases hs with hL | hT
  ·refine ⟨_,.of (.lst hL),_,ki_ll,?_⟩
   rw [if_neg (by decide)]
   refine ⟨a,rfl,xs,.inl (SqL.of hL),g,_,rfl,g2,g9,fun m hm=>⟨rfl,?_⟩,fun hno=>⟨rfl,?_⟩⟩
   ·by_cases hm0:m=0
    ·subst hm0
     rw [if_pos (show V.int ((0:Nat):Int)=V.int 0 from rfl)]
     refine ⟨by decide,hbad (notk hL fun ⟨⟨m',h1,h2⟩,_⟩=>?_) _ (Same.refl _)⟩
     have:=pow_inj g2 (hm.symm.trans h2)
     lia
    rw [if_neg (by intro z;injection z with z;lia)]
    refine ⟨_,rfl,a,rfl,⟨_,SqL.of hL⟩,?_⟩
    refine for_list (xs:=xs) (fun i σ H2=>(∀ x∈xs.take i,isI x=true)∧(∃ x2,σ=[some (.int g),some (.ref a),x2])∧H2=H) ⟨fun x hx=>absurd hx (by simp),⟨none,rfl⟩,rfl⟩ (fun i σ H2 _ z=>by rw [z.2.2];exact SqL.of hL) ?_ ?_
    ·rintro i x σ H2 hx ⟨hb,⟨x2,rfl⟩,rfl⟩
     walk_at "rd"
     refine ⟨x,rfl,kx x (List.mem_of_getElem? hx),_,rfl,?_⟩
     cases hsg:isI x with
     | true =>
      rw [if_neg (by decide)]
      refine ⟨fun y hy=>?_,⟨_,rfl⟩,rfl⟩
      rw [Z22,hx] at hy
      rcases List.mem_append.mp hy with z | z
      ·exact hb y z
      ·have:y=x:=by simpa using z
       rw [this];exact hsg
     | false =>
      rw [if_pos rfl]
      exact ⟨by decide,hbad (notk hL fun k=>by have:=k.2 x (List.mem_of_getElem? hx);rw [hsg] at this;cases this) _ (Same.refl _)⟩
    ·rintro σ H2 ⟨hb,_,rfl⟩
     rw [Z14] at hb
     exact hg ⟨a,xs,rfl,hL,⟨m,by lia,hm⟩,hb⟩ _ (Same.refl _)
   ·rw [if_pos rfl]
    exact ⟨by decide,hbad (notk hL fun ⟨⟨m',_,h2⟩,_⟩=>hno m' h2) _ (Same.refl _)⟩
  ·refine ⟨_,.of (.tup hT),_,ki_tl,?_⟩
   rw [if_pos rfl]
   refine ⟨by decide,hbad ?_ _ (Same.refl _)⟩
   rintro ⟨b,ys,e,hb,_⟩
   cases e
   rw [hT] at hb
   cases hb
 | non =>
  refine ⟨_,.of .non,_,ki_nl,?_⟩
  rw [if_pos rfl]
  exact ⟨by decide,hbad (no fun _ e=>nomatch e) _ (Same.refl _)⟩
 | str y =>
  refine ⟨_,.of (.str y),_,ki_sl,?_⟩
  rw [if_pos rfl]
  exact ⟨by decide,hbad (no fun _ e=>nomatch e) _ (Same.refl _)⟩
 | int y =>
  refine ⟨_,.of (.int y),_,ki_il,?_⟩
  rw [if_pos rfl]
  exact ⟨by decide,hbad (no fun _ e=>nomatch e) _ (Same.refl _)⟩
 | bl y =>
  refine ⟨_,.of (.bl y),_,ki_bl,?_⟩
  rw [if_pos rfl]
  exact ⟨by decide,hbad (no fun _ e=>nomatch e) _ (Same.refl _)⟩
 | byt _=>exact kz.elim
 | flt _=>exact kz.elim
 | ty _=>exact kz.elim
theorem sc_17:FnScope ["framed","weights"] ["framed","weights"] (defScope s_17):=⟨rfl,rfl,rfl,by decide +kernel,rfl,by decide +kernel,by decide +kernel⟩
theorem ok_17 (T:Txt K mg t) (G_58:Has P w K mg base 2 t.f_58 ["one"] (spPlaces)) (G_29:Has P w K mg base 1 t.f_29 ["signs","length"] (spPlacesFor)):Has P w K mg base 3 t.f_17 ["framed","weights"] (spGPlaces):=by
 refine has_mk0 T.d_17 sc_17 (fun _ _ _ _ _ _ us hl=>match us,hl with | [_,_],_=>rfl) (fun vs H Q E h=>?_) (fun cdv A outer s H vs Q E hr h=>?_)
 ·obtain ⟨r,w',g,lo,tab,m,mw,xs,rfl,ok,hw,wl,q⟩:=h
  rfl
 obtain ⟨r,w',g,lo,tab,m,mw,xs,rfl,ok,hw,wl,q⟩:=h
 refine ⟨_,(pss_one (ps_ret (pe_op op_sub (pe_op op_add (pe_callH G_58 (hr.mono (by decide)) rfl T.m_58 passF (pa_cons (pv 0) pa_nil)) (pe_callH G_29 (hr.mono (by decide)) rfl T.m_29 passF (pa_cons (pe_ix ix_tup (pv 0) pe_int (fun _ _=>rfl)) (pa_cons (pe_callB call_len_seq rfl T.z_len PySem.boot_len (pa_cons (pv 1) pa_nil)) pa_nil)))) pe_int))),?_⟩
 obtain ⟨tb,h1,h2⟩:=id ok.v
 have m1:=ok.m1
 walk_at "rd"
 refine ⟨r,g,lo,tab,m,rfl,ok.g2,ok.g9,ok.v,ok.len,?_⟩
 refine ⟨r,_,0,_,rfl,rfl,SqT.of h1,rfl,_,.inl (SqL.of hw),g,_,rfl,ok.g2,ok.g9,fun mw' hm=>⟨_,rfl,_,rfl,?_⟩,fun hn=>absurd wl (hn mw)⟩
 have:=pow_inj ok.g2 (wl.symm.trans hm)
 rw [←this,show (m:Int)+(mw:Int) - 1=((m+mw - 1:Nat):Int) by lia]
 exact q
theorem sc_28:FnScope ["framed","weights"] ["framed","weights"] (defScope s_28):=⟨rfl,rfl,rfl,by decide +kernel,rfl,by decide +kernel,by decide +kernel⟩
theorem ok_28 (T:Txt K mg t) (G_62:Has P w K mg base 1 t.f_62 ["one"] (spHeads)):Has P w K mg base 2 t.f_28 ["framed","weights"] (spManyG):=by
 refine has_mk0 T.d_28 sc_28 (fun _ _ _ _ _ _ us hl=>match us,hl with | [_,_],_=>rfl) (fun vs H Q E h=>?_) (fun cdv A outer s H vs Q E hr h=>?_)
 ·obtain ⟨r,w',g,lo,tab,m,xs,rfl,ok,hw,q⟩:=h
  rfl
 obtain ⟨r,w',g,lo,tab,m,xs,rfl,ok,hw,q⟩:=h
 refine ⟨_,(pss_one (ps_ret (pe_op op_mul (pe_callH G_62 (hr.mono (by decide)) rfl T.m_62 passF (pa_cons (pv 0) pa_nil)) (pe_callB call_len_seq rfl T.z_len PySem.boot_len (pa_cons (pv 1) pa_nil))))),?_⟩
 walk_at "rd"
 have hd:=heads_is ok.g2 ok.len ok.m1
 have hle:tab.length / g.toNat≤tab.length:=Nat.div_le_self ..
 have sz:=ok.sz
 have tl:=ok.len
 refine ⟨r,g,lo,tab,m,rfl,ok,_,.inl (SqL.of hw),_,rfl,?_⟩
 rw [←hd.1] at q
 obtain ⟨h,hh⟩:∃ h,h=tab.length / g.toNat:=⟨_,rfl⟩
 rw [←hh] at q hle ⊢
 exact ⟨.inl ⟨by lia,by lia⟩,q⟩
theorem sc_45:FnScope ["framed","weights","signs","many","gains","number","come"] ["framed","weights"] (defScope s_45):=⟨rfl,rfl,rfl,by decide +kernel,rfl,by decide +kernel,by decide +kernel⟩
theorem ok_45 (T:Txt K mg t) (G_17:Has P w K mg base 3 t.f_17 ["framed","weights"] (spGPlaces)) (G_28:Has P w K mg base 2 t.f_28 ["framed","weights"] (spManyG)) (G_39:Has P w K mg base 4 t.f_39 ["word","signs"] (spNumber K t.c_59)) (G_64:Has P w K mg base 3 t.f_64 ["one","row"] (spLead K)) (G_53:HasN P w K mg base 1 t.f_53 ["number","signs","many"] (spWord t.c_55)) (G_62:Has P w K mg base 1 t.f_62 ["one"] (spHeads)):Has P w K mg base 5 t.f_45 ["framed","weights"] (spGains):=by
 refine has_mk0 T.d_45 sc_45 (fun _ _ _ _ _ _ us hl=>match us,hl with | [_,_],_=>rfl) (fun vs H Q E h=>?_) (fun cdv A outer s H vs Q E hr h=>?_)
 ·obtain ⟨r,w',g,lo,tab,m,mw,ws,rfl,ok,hw,wl,w1,h729,q⟩:=h
  rfl
 obtain ⟨r,w',g,lo,tab,m,mw,ws,rfl,ok,hw,wl,w1,h729,q⟩:=h
 refine ⟨_,(pss_cons (ps_set (i:=2) sc_45.nd rfl (Or.inl rfl) (pe_ix ix_tup (pv 0) pe_int (fun _ _=>rfl)))
  (pss_cons (ps_set (i:=3) sc_45.nd rfl (Or.inl rfl) (pe_callH G_17 (hr.mono (by decide)) rfl T.m_17 passF (pa_cons (pv 0) (pa_cons (pv 1) pa_nil))))
  (pss_cons (ps_set (i:=4) sc_45.nd rfl (Or.inl rfl) (pe_lst pa_nil))
  (pss_cons (ps_for PassesOwn.never rfl (pi_range1 rfl T.z_range (pa_cons (pe_callH G_28 (hr.mono (by decide)) rfl T.m_28 passF (pa_cons (pv 0) (pa_cons (pv 1) pa_nil))) pa_nil)) (pg_name (i:=5) sc_45.nd rfl (Or.inl rfl)) (pss_cons (ps_set (i:=6) sc_45.nd rfl (Or.inl rfl) (pe_callH G_39 (hr.mono (by decide)) rfl T.m_39 passF (pa_cons (pe_callH G_64 (hr.mono (by decide)) rfl T.m_64 passF (pa_cons (pv 0) (pa_cons (pe_callN G_53 (hr.mono (by decide)) rfl T.m_53 passFN (pa_cons (pv 5) (pa_cons (pv 2) (pa_cons (pv 3) pa_nil)))) pa_nil))) (pa_cons (pv 2) pa_nil))))
  (pss_one (ps_expr (pe_bm PySem.F.plainAttrs_list PySem.F.slot_list_append PySem.F.type_list_append mt_append (pv 4) (pa_cons (pe_op op_sub (pe_ix ix_list (pv 1) (pv 6) (fun _ _=>rfl)) (pe_ix ix_list (pv 1) (pe_op op_fdiv (pv 5) (pe_callH G_62 (hr.mono (by decide)) rfl T.m_62 passF (pa_cons (pv 0) pa_nil))) (fun _ _=>rfl))) pa_nil))))))
  (pss_one (ps_ret (pv 4))))))),?_⟩
 obtain ⟨tb,h1,h2⟩:=id ok.v
 have g2:=ok.g2
 have g9:=ok.g9
 have m1:=ok.m1
 have m8:=ok.m8
 have hlm:(ws.map V.int).length=ws.length:=List.length_map ..
 have hd:=heads_is g2 ok.len m1
 have gp:=RW.pow_pos g2 (m - 1)
 have wp:=RW.pow_pos g2 mw
 refine hide fun N hN=>?_
 walk_at "rd"
 refine ⟨r,_,0,_,rfl,rfl,SqT.of h1,rfl,hN _ _ ?_⟩
 clear hN N
 refine hide fun N hN=>?_
 walk_at "rd"
 refine ⟨r,w',g,lo,tab,m,mw,_,rfl,ok,hw,by rw [hlm];exact wl,hN _ _ ?_⟩
 clear hN N
 refine hide fun N hN=>?_
 walk_at "rd"
 refine ⟨Nat.zero_le _,fun p hp=>hN _ _ ?_⟩
 clear hN N
 have hG:((g^(m - 1)).toNat:Int)=g^(m - 1):=by lia
 have tot:g^(m - 1)*(ws.length:Int)=g^(m+mw - 1):=by rw [wl,←Int.pow_add,show m - 1+mw=m+mw - 1 by lia]
 have mw9:mw≤10:=by
  by_cases z:mw≤10
  ·exact z
  ·exfalso
   have a:=pow_mono g2 (show 10≤m+mw - 1 by lia)
   have b:1024≤g^10:=by
    obtain z | z | z | z | z | z | z | z:g=2∨g=3∨g=4∨g=5∨g=6∨g=7∨g=8∨g=9:=by lia
    all_goals rw [z];decide
   lia
 have hw0:H w'=some (.lst (ws.map V.int)):=hw
 have wl2:(((g^(m - 1)).toNat*ws.length:Nat):Int)=g^(m - 1)*(ws.length:Int):=by rw [Z12,hG]
 refine cut (fun σ HX=>(∃ x5 x6,σ=[some (.ref r),some (.ref w'),some (.int g),some (.int ((m+mw - 1:Nat):Int)),some (.ref p),x5,x6])∧Same H HX∧HX p=some (.lst ((gainL g tab m ws mw).map V.int))) (fun N hN=>?_) ?_
 ·refine ⟨_,rfl,_,rfl,r,w',g,lo,tab,m,_,rfl,ok.same (Same.new hp _),Same.new hp _ _ _ hw,_,rfl,?_,?_,?_⟩
  ·rw [hlm];lia
  ·rw [hlm];lia
  rw [hlm,←wl2,Z5]
  refine for_range (n:=(g^(m - 1)).toNat*ws.length) (fun i σ HX=>(∃ x5 x6,σ=[some (.ref r),some (.ref w'),some (.int g),some (.int ((m+mw - 1:Nat):Int)),some (.ref p),x5,x6])∧Same H HX∧HX p=some (.lst (((List.range i).map fun n:Nat=>ws.getD (num g (ledL g tab m (wordL g (n:Int) (m+mw - 1)))).toNat 0 - ws.getD (n / (g^(m - 1)).toNat) 0).map V.int))) ⟨⟨none,none,rfl⟩,Same.new hp _,upd_same⟩ ?_ fun σ HX z=>hN _ _ z
  rintro i σ HX hi ⟨⟨x5,x6,rfl⟩,eX,hpX⟩
  have wlen:=wordL_len g (i:Int) (m+mw - 1)
  have wlt:=wordL_lt g2 (i:Int) (m+mw - 1)
  have ll:=ledL_len g tab m (wordL g (i:Int) (m+mw - 1))
  have llt:=ledL_lt g2 ok.tb m (wordL g (i:Int) (m+mw - 1))
  have nb:=num_lt g2 llt
  rw [ll,wlen,show m+mw - 1+1 - m=mw by lia,←wl] at nb
  refine hide fun N2 hN2=>?_
  walk_at "rd"
  rw [Z8]
  refine ⟨(i:Int),g,_,rfl,g2,g9,by lia,by lia,fun hb=>?_,fun _ _ pw H3 n3=>?_⟩
  ·rw [Z5] at hb
   lia
  rw [Z5] at n3
  have e3:=eX.trans n3.1
  refine ⟨r,pw,g,lo,tab,m,wordL g (i:Int) (m+mw - 1),rfl,g2,g9,ok.v.same e3,ok.len,m1,SqL.of n3.2.2,wlt,by lia,fun p4 H4 n4=>?_⟩
  refine ⟨p4,_,g,rfl,g2,g9,SqL.of n4.2.2,kd_ints,?_⟩
  rw [badIx_ints llt]
  intro ms hms H5 e5
  have:=ints_inj hms
  subst this
  refine hN2 _ _ ?_
  clear hN2 N2
  have e5':=(n3.1.trans n4.1).trans e5
  have e55:=eX.trans e5'
  walk_at "rd"
  have ed:(i:Int) / g^(m - 1)=((i / (g^(m - 1)).toNat:Nat):Int):=by rw [Z18,hG]
  have dl:i / (g^(m - 1)).toNat<ws.length:=Nat.div_lt_of_lt_mul hi
  have hsm:=pow_mono g2 (show m - 1≤m by lia)
  have sz:=ok.sz
  refine ⟨.inl ⟨_,SqL.of (e5' _ _ hpX)⟩,w',_,_,_,rfl,rfl,SqL.of (e55 _ _ hw),getAtZ nb.1 (by lia),r,g,lo,tab,m,rfl,ok.same e55,_,rfl,?_⟩
  rw [hd.1,ed]
  refine ⟨gp,by lia,w',_,_,_,rfl,rfl,SqL.of (e55 _ _ hw),getAt dl,_,rfl,_,rfl,_,e5' _ _ hpX,?_,⟨_,rfl⟩,e55.into hp,?_⟩
  ·rw [Z1,Z1,Z2]
   exact small1000 (by lia)
  ·rw [upd_same,range_succ_map,Z3]
   rfl
 rintro σ HX ⟨⟨x5,x6,rfl⟩,eX,hpX⟩
 walk_at "rd"
 exact q p _ ⟨eX,hp,hpX⟩
theorem sc_6:FnScope ["one","weights","framed"] ["one","weights"] (defScope s_6):=⟨rfl,rfl,rfl,by decide +kernel,rfl,by decide +kernel,by decide +kernel⟩
theorem ok_6 (T:Txt K mg t) (G_61:Has P w K mg base 8 t.f_61 ["one"] (spFrame t.c_48)) (G_5:Has P w K mg base 2 t.f_5 ["signs","weights"] (spCheckW t.c_30)) (G_45:Has P w K mg base 5 t.f_45 ["framed","weights"] (spGains)) (G_28:Has P w K mg base 2 t.f_28 ["framed","weights"] (spManyG)):Has P w K mg base 9 t.f_6 ["one","weights"] (spChecked t.c_48 t.c_30):=by
 refine has_mkX T.d_6 sc_6 (fun _ _ _ _ _ _ us hl=>match us,hl with | [_,_],_=>rfl) (fun vs H Q E h=>?_) (fun cdv A outer s H vs Q E hr h=>?_)
 ·obtain ⟨r,g,lo,tab,m,lf,tf,mf,z,rfl,ok,fw,kz,h⟩:=h
  rfl
 obtain ⟨r,g,lo,tab,m,lf,tf,mf,z,rfl,ok,fw,kz,h⟩:=h
 refine ⟨_,(pss_cons (ps_set (i:=2) sc_6.nd rfl (Or.inl rfl) (pe_callH G_61 (hr.mono (by decide)) rfl T.m_61 passes_body (pa_cons (pv 0) pa_nil)))
  (pss_cons (ps_expr (pe_callH G_5 (hr.mono (by decide)) rfl T.m_5 passes_body (pa_cons (pe_ix ix_tup (pv 2) pe_int (fun _ _=>rfl)) (pa_cons (pv 1) pa_nil))))
  (pss_cons (ps_if (pt_cmpR op_gt (pe_callH G_28 (hr.mono (by decide)) rfl T.m_28 passF (pa_cons (pv 2) (pa_cons (pv 1) pa_nil))) (pe_constE rfl T.g_MOST_GAINS) (nomark _)) (pss_one (ps_raise rfl T.x_48 rfl T.m_48 raises_body (pa_cons pe_str pa_nil))) pss_nil)
  (pss_one (ps_ret (pe_callH G_45 (hr.mono (by decide)) rfl T.m_45 passF (pa_cons (pv 2) (pa_cons (pv 1) pa_nil)))))))),?_⟩
 have g2:=ok.g2
 have g9:=ok.g9
 refine hide fun N hN=>?_
 walk_at "rd"
 refine ⟨r,g,lo,tab,m,lf,tf,mf,rfl,ok,fw,fun h9 r1 H1 e1 ok1=>hN _ _ ?_,fun h9 H1 e1=>?_⟩
 ·clear hN N
  obtain ⟨tb,k1,k2⟩:=id ok1.v
  walk_at "rd"
  refine ⟨r1,_,0,_,rfl,rfl,SqT.of k1,rfl,g,z,rfl,g2,g9,kz.same e1,fun hg H2 e2=>?_,fun hb H2 e2=>?_⟩
  ·have e12:=e1.trans e2
   rcases h with ⟨h',_⟩ | ⟨_,nw,_⟩ | ⟨w',ws,mw,_,rfl,hw,wl,w1,h⟩
   ·exact absurd h9 (by lia)
   ·exact absurd hg (bad_same kz e1 nw)
   ·have hlm:(ws.map V.int).length=ws.length:=List.length_map ..
    refine ⟨r1,w',g,lf,tf,mf,_,rfl,ok1.same e2,e12 _ _ hw,_,rfl,?_⟩
    rw [hlm]
    rcases h with ⟨h7,k⟩ | ⟨h7,k⟩
    ·rw [if_pos h7]
     exact ⟨by decide,k _ e12⟩
    ·rw [if_neg (by lia)]
     exact ⟨r1,w',g,lf,tf,mf,mw,ws,rfl,ok1.same e2,e12 _ _ hw,wl,w1,h7,fun p H3 n3=>k p H3 ⟨e12.trans n3.1,e12.free n3.2.1,n3.2.2⟩⟩
  ·rcases h with ⟨h',_⟩ | ⟨_,nw,k⟩ | ⟨w',ws,mw,_,rfl,hw,wl,w1,h⟩
   ·exact absurd h9 (by lia)
   ·exact k _ (e1.trans e2)
   ·exact absurd (wGood_of (e1 _ _ hw) wl w1) hb
 rcases h with ⟨_,k⟩ | ⟨h',_⟩ | ⟨w',ws,mw,h',_⟩
 ·exact k _ e1
 ·exact absurd h9 (by lia)
 ·exact absurd h9 (by lia)
theorem sc_44:FnScope ["signs","gains","found","number"] ["signs","gains"] (defScope s_44):=⟨rfl,rfl,rfl,by decide +kernel,rfl,by decide +kernel,by decide +kernel⟩
theorem ok_44 (T:Txt K mg t) :Has P w K mg base 1 t.f_44 ["signs","gains"] (spFlowsBy):=by
 refine has_mk0 T.d_44 sc_44 (fun _ _ _ _ _ _ us hl=>match us,hl with | [_,_],_=>rfl) (fun vs H Q E h=>?_) (fun cdv A outer s H vs Q E hr h=>?_)
 ·obtain ⟨p,g,gs,rfl,g2,g9,hp,gl,gl2,q⟩:=h
  rfl
 obtain ⟨p,g,gs,rfl,g2,g9,hp,gl,gl2,q⟩:=h
 refine ⟨_,(pss_cons (ps_set (i:=2) sc_44.nd rfl (Or.inl rfl) (pe_lst (pa_consC pa_nil)))
  (pss_cons (ps_for PassesOwn.never rfl (pi_range2 rfl T.z_range (pa_consC (pa_cons (pe_op op_fdiv (pe_callB call_len_seq rfl T.z_len PySem.boot_len (pa_cons (pv 1) pa_nil)) (pv 0)) pa_nil))) (pg_name (i:=3) sc_44.nd rfl (Or.inl rfl)) (pss_one (ps_expr (pe_bm PySem.F.plainAttrs_list PySem.F.slot_list_append PySem.F.type_list_append mt_append (pv 2) (pa_cons (pe_op op_sub (pe_ix ix_list (pv 2) (pe_op op_fdiv (pv 3) (pv 0)) (fun _ _=>rfl)) (pe_ix ix_list (pv 1) (pv 3) (fun _ _=>rfl))) pa_nil)))))
  (pss_one (ps_ret (pv 2))))),?_⟩
 refine hide fun N hN=>?_
 walk_at "rd"
 refine ⟨by decide,fun d hd=>hN _ _ ?_⟩
 clear hN N
 have hlm:(gs.map V.int).length=gs.length:=List.length_map ..
 have gn:((g.toNat:Nat):Int)=g:=by lia
 have e:(((gs.map V.int).length:Nat):Int) / g=((gs.length / g.toNat:Nat):Int):=by rw [hlm,Z18,gn]
 have h1:1≤gs.length / g.toNat:=(Nat.le_div_iff_mul_le (by lia)).mpr (by lia)
 have hle:gs.length / g.toNat≤gs.length:=Nat.div_le_self ..
 have hm2:gs.length / g.toNat*g.toNat≤gs.length:=Nat.div_mul_le_self ..
 have eN:=Same.new hd (.lst [V.int 0])
 refine cut (fun σ HX=>(∃ x3,σ=[some (.int g),some (.ref p),some (.ref d),x3])∧Same H HX∧HX d=some (.lst ((flowsL g.toNat gs).map V.int))) (fun N hN=>?_) ?_
 ·refine ⟨_,rfl,p,_,rfl,.inl (SqL.of (eN _ _ hp)),_,rfl,_,_,rfl,rfl,⟨by lia,by lia⟩,_,_,rfl,?_,?_⟩
  ·rw [e];exact ⟨by decide,by decide,by lia,by lia⟩
  rw [e,show (((gs.length / g.toNat:Nat):Int) - 1).toNat=gs.length / g.toNat - 1 by lia]
  refine for_range (lo:=1) (n:=gs.length / g.toNat - 1) (fun i σ HX=>(∃ x3,σ=[some (.int g),some (.ref p),some (.ref d),x3])∧HX=upd H d (.lst ((flowL g.toNat gs i).map V.int))) ⟨⟨none,rfl⟩,rfl⟩ ?_ ?_
  ·rintro i σ HX hi ⟨⟨x3,rfl⟩,rfl⟩
   have eX:=Same.new hd (.lst ((flowL g.toNat gs i).map V.int))
   have fl:=flowL_len g.toNat gs i
   have ei:(1+(i:Int)) / g=(((i+1) / g.toNat:Nat):Int):=by rw [show 1+(i:Int)=((i+1:Nat):Int) by lia,Z18,gn]
   have di:(i+1) / g.toNat<i+1:=Nat.div_lt_self (by lia) (by lia)
   walk_at "rd"
   refine ⟨.inl ⟨_,SqL.of upd_same⟩,by lia,by lia,?_⟩
   rw [ei]
   refine ⟨d,_,_,_,rfl,rfl,SqL.of upd_same,getAt (by rw [fl];exact di),p,_,_,_,rfl,rfl,SqL.of (eX _ _ hp),getAtZ (by lia) (by lia),_,rfl,_,rfl,_,upd_same,?_,⟨_,rfl⟩,?_⟩
   ·rw [Z1,fl]
    exact small1000 (by lia)
   ·rw [upd_upd,show (1+(i:Int)).toNat=i+1 by lia,show flowL g.toNat gs (i+1)=flowL g.toNat gs i++[(flowL g.toNat gs i).getD ((i+1) / g.toNat) 0 - gs.getD (i+1) 0] from rfl,Z3]
    rfl
  ·rintro σ HX ⟨⟨x3,rfl⟩,rfl⟩
   exact hN _ _ ⟨⟨_,rfl⟩,Same.new hd _,upd_same⟩
 rintro σ HX ⟨⟨x3,rfl⟩,eX,hX⟩
 walk_at "rd"
 exact q d _ ⟨eX,hd,hX⟩
theorem sc_16:FnScope ["signs","gains","found","number","gain"] ["signs","gains","found"] (defScope s_16):=⟨rfl,rfl,rfl,by decide +kernel,rfl,by decide +kernel,by decide +kernel⟩
theorem ok_16 (T:Txt K mg t) :Has P w K mg base 1 t.f_16 ["signs","gains","found"] (spFirstWrong):=by
 refine has_mk0 T.d_16 sc_16 (fun _ _ _ _ _ _ us hl=>match us,hl with | [_,_,_],_=>rfl) (fun vs H Q E h=>?_) (fun cdv A outer s H vs Q E hr h=>?_)
 ·obtain ⟨p,q',g,gs,fs,rfl,g2,g9,hp,hq,f1,gf,gl2,hok,hbad⟩:=h
  rfl
 obtain ⟨p,q',g,gs,fs,rfl,g2,g9,hp,hq,f1,gf,gl2,hok,hbad⟩:=h
 refine ⟨_,(pss_cons (ps_for PassesOwn.never rfl (pi_enum rfl T.z_enumerate (pa_cons (pv 1) pa_nil)) (pg_tup rfl (pgs_cons (pg_name (i:=3) sc_16.nd rfl (Or.inl rfl)) (pgs_cons (pg_name (i:=4) sc_16.nd rfl (Or.inl rfl)) pgs_nil))) (pss_one (ps_if (pt_cmpR op_ne (pv 4) (pe_op op_sub (pe_ix ix_list (pv 2) (pe_op op_fdiv (pv 3) (pv 0)) (fun _ _=>rfl)) (pe_ix ix_list (pv 2) (pe_op op_mod (pv 3) (pe_callB call_len_seq rfl T.z_len PySem.boot_len (pa_cons (pv 2) pa_nil))) (fun _ _=>rfl))) (nomark _)) (pss_one (ps_ret (pv 3))) pss_nil)))
  (pss_one (ps_ret pe_non))),?_⟩
 have gn:((g.toNat:Nat):Int)=g:=by lia
 refine cut (fun σ HX=>(∃ x3 x4,σ=[some (.int g),some (.ref p),some (.ref q'),x3,x4])∧Same H HX∧rightW g.toNat gs fs) (fun N hN=>?_) ?_
 ·refine ⟨_,rfl,p,_,rfl,SqL.of hp,?_⟩
  refine for_enum (xs:=gs.map V.int) (fun i σ HX=>(∃ x3 x4,σ=[some (.int g),some (.ref p),some (.ref q'),x3,x4])∧Same H HX∧∀ k,k<i→¬ wrongW g.toNat gs fs k) ⟨⟨none,none,rfl⟩,Same.refl _,fun k hk=>absurd hk (Nat.not_lt_zero _)⟩ (fun i σ HX _ z=>SqL.of (z.2.1 _ _ hp)) ?_ ?_
  ·rintro i y p2 σ HX hy ⟨⟨x3,x4,rfl⟩,eX,inv⟩ hp2
   obtain ⟨v,hv,rfl⟩:=getInt hy
   have il:=(List.getElem?_eq_some_iff.mp hv).1
   have e2:=eX.trans (Same.new hp2 (.tup [.int ((i:Nat):Int),.int v]))
   refine ⟨p2,_,rfl,SqT.of upd_same,rfl,_,_,rfl,_,_,rfl,rfl,?_⟩
   generalize upd HX p2 (.tup [.int ((i:Nat):Int),.int v])=HT at e2 ⊢
   have ei:(i:Int) / g=((i / g.toNat:Nat):Int):=by rw [Z18,gn]
   have flm:(fs.map V.int).length=fs.length:=List.length_map ..
   have em:(i:Int)%((fs.map V.int).length:Int)=((i%fs.length:Nat):Int):=by rw [flm,Z27]
   have d1:i / g.toNat<fs.length:=Nat.div_lt_of_lt_mul (by rw [Nat.mul_comm];lia)
   have d2:=Nat.mod_lt i f1
   have hqT:=e2 _ _ hq
   have gv:gs.getD i 0=v:=by rw [Z0,hv];rfl
   walk_at "rd"
   rw [ei]
   refine ⟨by lia,by lia,q',_,_,_,rfl,rfl,SqL.of hqT,getAt d1,_,.inl (SqL.of hqT),by lia,?_⟩
   rw [em]
   refine ⟨q',_,_,_,rfl,rfl,SqL.of hqT,getAt d2,_,rfl,_,rfl,?_⟩
   by_cases z:v=fs.getD (i / g.toNat) 0 - fs.getD (i%fs.length) 0
   ·rw [if_neg (fun y=>y z)]
    refine ⟨⟨_,rfl⟩,e2,fun k hk=>?_⟩
    by_cases y:k=i
    ·subst y
     unfold wrongW
     rw [gv]
     exact fun w=>w z
    ·exact inv k (by lia)
   ·rw [if_pos z]
    exact hbad i il (by unfold wrongW;rw [gv];exact z) inv _ e2
  ·rintro σ HX ⟨⟨x3,x4,rfl⟩,eX,inv⟩
   rw [Z1] at inv
   exact hN _ _ ⟨⟨_,_,rfl⟩,eX,inv⟩
 rintro σ HX ⟨⟨x3,x4,rfl⟩,eX,inv⟩
 walk_at "rd"
 exact hok inv _ eX
theorem sc_60:FnScope ["one","weights","gains","found"] ["one","weights"] (defScope s_60):=⟨rfl,rfl,rfl,by decide +kernel,rfl,by decide +kernel,by decide +kernel⟩
theorem ok_60 (T:Txt K mg t) (G_6:Has P w K mg base 9 t.f_6 ["one","weights"] (spChecked t.c_48 t.c_30)) (G_44:Has P w K mg base 1 t.f_44 ["signs","gains"] (spFlowsBy)) (G_16:Has P w K mg base 1 t.f_16 ["signs","gains","found"] (spFirstWrong)):Has P w K mg base 10 t.f_60 ["one","weights"] (spFlowsN t.c_48 t.c_30):=by
 refine has_mkX T.d_60 sc_60 (fun _ _ _ _ _ _ us hl=>match us,hl with | [_,_],_=>rfl) (fun vs H Q E h=>?_) (fun cdv A outer s H vs Q E hr h=>?_)
 ·obtain ⟨r,g,lo,tab,m,lf,tf,mf,z,rfl,ok,fw,kz,h⟩:=h
  rfl
 obtain ⟨r,g,lo,tab,m,lf,tf,mf,z,rfl,ok,fw,kz,h⟩:=h
 refine ⟨_,(pss_cons (ps_set (i:=2) sc_60.nd rfl (Or.inl rfl) (pe_callH G_6 (hr.mono (by decide)) rfl T.m_6 passes_body (pa_cons (pv 0) (pa_cons (pv 1) pa_nil))))
  (pss_cons (ps_set (i:=3) sc_60.nd rfl (Or.inl rfl) (pe_callH G_44 (hr.mono (by decide)) rfl T.m_44 passF (pa_cons (pe_ix ix_tup (pv 0) pe_int (fun _ _=>rfl)) (pa_cons (pv 2) pa_nil))))
  (pss_cons (ps_if (pt_cmpR op_isN (pe_callH G_16 (hr.mono (by decide)) rfl T.m_16 passF (pa_cons (pe_ix ix_tup (pv 0) pe_int (fun _ _=>rfl)) (pa_cons (pv 2) (pa_cons (pv 3) pa_nil)))) pe_non (nomark _)) (pss_one (ps_ret (pv 3))) pss_nil)
  (pss_one (ps_ret pe_non))))),?_⟩
 have g2:=ok.g2
 have g9:=ok.g9
 obtain ⟨tb,k1,k2⟩:=id ok.v
 have f2:=fw.two
 refine hide fun N hN=>?_
 walk_at "rd"
 refine ⟨r,g,lo,tab,m,lf,tf,mf,z,rfl,ok,fw,kz,?_⟩
 rcases h with h | h | ⟨w',ws,mw,h9,rfl,hw,wl,w1,h | ⟨h7,hA,hB⟩⟩
 ·exact .inl h
 ·exact .inr (.inl h)
 ·exact .inr (.inr ⟨w',ws,mw,h9,rfl,hw,wl,w1,.inl h⟩)
 refine .inr (.inr ⟨w',ws,mw,h9,rfl,hw,wl,w1,.inr ⟨h7,fun p H1 n1=>hN _ _ ?_⟩⟩)
 clear hN N
 have gl:=gainL_len g tf mf ws mw
 have gd:=gain_div g2 f2 wl w1
 have gp:=RW.pow_pos g2 (mf - 1)
 have g729:(g^(mf - 1)).toNat*ws.length≤729:=by
  have:(((g^(mf - 1)).toNat*ws.length:Nat):Int)=g^(mf - 1)*(ws.length:Int):=by rw [Z12,Int.toNat_of_nonneg (by lia)]
  lia
 obtain ⟨gs,hgs⟩:∃ gs,gs=gainL g tf mf ws mw:=⟨_,rfl⟩
 rw [←hgs] at gl n1 hA hB
 rw [←gl] at gd g729
 have fl:=flows_len g2 gd.1 gd.2
 refine hide fun N hN=>?_
 walk_at "rd"
 refine ⟨r,_,0,_,rfl,rfl,SqT.of (n1.1 _ _ k1),rfl,p,g,gs,rfl,g2,g9,n1.2.2,?_,g729,fun q' H2 n2=>hN _ _ ?_⟩
 ·have:=Nat.mul_le_mul_right g.toNat gd.2
  have:=gd.1
  lia
 clear hN N
 have e12:=n1.1.trans n2.1
 walk_at "rd"
 refine ⟨r,_,0,_,rfl,rfl,SqT.of (e12 _ _ k1),rfl,p,q',g,gs,_,rfl,g2,g9,n2.1 _ _ n1.2.2,n2.2.2,fl.1,fl.2,g729,fun hr H3 e3=>?_,fun n hn hw' _ H3 e3=>?_⟩
 ·dsimp only
  rw [if_pos rfl]
  exact hA hr q' H3 ⟨e12.trans e3,n1.1.free n2.2.1,e3 _ _ n2.2.2⟩
 ·dsimp only
  rw [if_neg (by intro z;cases z)]
  exact hB (fun hr=>hr n hn hw') H3 (e12.trans e3)
theorem sc_25:FnScope ["_law_found"] ["_law_found"] (defScope s_25):=⟨rfl,rfl,rfl,by decide +kernel,rfl,by decide +kernel,by decide +kernel⟩
theorem ok_25 (T:Txt K mg t) :Has P w K mg base 1 t.f_25 ["_law_found"] (spWhole):=by
 refine has_mk0 T.d_25 sc_25 (fun _ _ _ _ _ _ us hl=>match us,hl with | [_],_=>rfl) (fun vs H Q E h=>?_) (fun cdv A outer s H vs Q E hr h=>?_)
 ·obtain ⟨x,rfl,kd,q⟩:=h
  rfl
 obtain ⟨x,rfl,kd,q⟩:=h
 refine ⟨_,(pss_one (ps_ret (pe_and (pe_isi rfl T.z_isinstance (pv 0) (pe_ty rfl T.z_int PyProof.Rows.boot_int)) (pe_one (pe_not (pe_isi rfl T.z_isinstance (pv 0) (pe_ty rfl T.z_bool PyProof.Rows.boot_bool))))))),?_⟩
 walk_at "rd"
 cases x with
 | int i =>
  refine ⟨_,.of (.int i),_,ki_ii,?_⟩
  rw [if_pos rfl]
  exact ⟨_,.of (.int i),_,ki_ib,q⟩
 | bl b =>
  refine ⟨_,.of (.bl b),_,ki_bi,?_⟩
  rw [if_pos rfl]
  exact ⟨_,.of (.bl b),_,ki_bb,q⟩
 | non =>
  refine ⟨_,.of .non,_,ki_ni,?_⟩
  rw [if_neg (by decide)]
  exact q
 | str y =>
  refine ⟨_,.of (.str y),_,ki_si,?_⟩
  rw [if_neg (by decide)]
  exact q
 | ref a =>
  obtain ⟨xs,z | z⟩:=kd
  ·refine ⟨_,.of (.lst z),_,ki_li,?_⟩
   rw [if_neg (by decide)]
   exact q
  ·refine ⟨_,.of (.tup z),_,ki_ti,?_⟩
   rw [if_neg (by decide)]
   exact q
 | byt _=>exact kd.elim
 | flt _=>exact kd.elim
 | ty _=>exact kd.elim
theorem sc_7:FnScope ["_law_script","_law_k"] ["_law_script","_law_k"] (defScope s_7):=⟨rfl,rfl,rfl,by decide +kernel,rfl,by decide +kernel,by decide +kernel⟩
theorem ok_7 (T:Txt K mg t) :Has P w K mg base 1 t.f_7 ["_law_script","_law_k"] (spCell K):=by
 refine has_mk0 T.d_7 sc_7 (fun _ _ _ _ _ _ us hl=>match us,hl with | [_,_],_=>rfl) (fun vs H Q E h=>?_) (fun cdv A outer s H vs Q E hr h=>?_)
 ·obtain ⟨a,ns,k,rfl,hS,h63,q⟩:=h
  rfl
 obtain ⟨a,ns,k,rfl,hS,h63,q⟩:=h
 refine ⟨_,(pss_cons (ps_if (pt_cmpR op_lt (pv 1) (pe_callB call_len_seq rfl T.z_len PySem.boot_len (pa_cons (pv 0) pa_nil)) (nomark _)) (pss_one (ps_ret (pe_ix ix_list (pv 0) (pv 1) (fun _ _=>rfl)))) pss_nil)
  (pss_one (ps_ret pe_int))),?_⟩
 walk_at "rd"
 refine ⟨_,.inl hS,?_⟩
 rw [Z1]
 by_cases h:(k:Int)<(ns.length:Int)
 ·rw [if_pos h]
  have hk:k<ns.length:=by lia
  refine ⟨a,_,k,.int (ns.getD k 0),rfl,rfl,hS,atI_nat ?_,q⟩
  rw [Z6,List.getElem?_eq_getElem hk,Z0,List.getElem?_eq_getElem hk]
  rfl
 ·rw [if_neg h]
  have e:ns.getD k 0=0:=by rw [Z0,List.getElem?_eq_none (by lia)];rfl
  rw [e] at q
  exact q
theorem sc_14:FnScope ["_law_cell","_law_many","_law_found","_law_number","_law_k"] ["_law_cell","_law_many"] (defScope s_14):=⟨rfl,rfl,rfl,by decide +kernel,rfl,by decide +kernel,by decide +kernel⟩
theorem ok_14 (T:Txt K mg t) :Has P w K mg base 1 t.f_14 ["_law_cell","_law_many"] (spStreamB):=by
 refine has_mk0 T.d_14 sc_14 (fun _ _ _ _ _ _ us hl=>match us,hl with | [_,_],_=>rfl) (fun vs H Q E h=>?_) (fun cdv A outer s H vs Q E hr h=>?_)
 ·obtain ⟨c,m,rfl,m0,m3,q⟩:=h
  rfl
 obtain ⟨c,m,rfl,m0,m3,q⟩:=h
 refine ⟨_,(pss_cons (ps_set (i:=2) sc_14.nd rfl (Or.inl rfl) (pe_lst pa_nil))
  (pss_cons (ps_set (i:=3) sc_14.nd rfl (Or.inl rfl) (pe_op op_add (pe_op op_mod (pv 0) pe_int) pe_int))
  (pss_cons (ps_for PassesOwn.never rfl (pi_range1 rfl T.z_range (pa_cons (pv 1) pa_nil)) (pg_name (i:=4) sc_14.nd rfl (Or.inl rfl)) (pss_cons (ps_set (i:=3) sc_14.nd rfl (Or.inl rfl) (pe_op op_mod (pe_op op_add (pe_op op_add (pe_op op_mul (pv 3) pe_int) (pe_op op_mul (pv 4) (pv 4))) pe_int) pe_int))
  (pss_one (ps_expr (pe_bm PySem.F.plainAttrs_list PySem.F.slot_list_append PySem.F.type_list_append mt_append (pv 2) (pa_cons (pe_op op_fdiv (pv 3) pe_int) pa_nil))))))
  (pss_one (ps_ret (pv 2)))))),?_⟩
 walk_at "rd"
 refine ⟨Nat.zero_le _,fun p hp=>⟨by decide,?_⟩⟩
 refine ⟨_,rfl,m,rfl,by lia,by lia,?_⟩
 refine for_range (n:=m.toNat) (fun i σ H1=>∃ (l:List Int) (x3:Int) (x4:Option V),(l.length=i∧∀ x∈l,0≤x∧x<2147483647)∧σ=[some (.int c),some (.int m),some (.ref p),some (.int x3),x4]∧H1=upd H p (.lst (l.map V.int))) ⟨[],_,none,⟨rfl,fun x h=>by cases h⟩,rfl,rfl⟩ ?_ ?_
 ·rintro i σ H1 hi ⟨l,x3,x4,⟨hl,hb⟩,rfl,rfl⟩
  walk_at "rd"
  refine ⟨.inr ⟨by decide,by decide⟩,.inl ⟨by lia,by lia⟩,by decide,.inl ⟨_,SqL.of upd_same⟩,by decide,by decide,_,upd_same,?_,l++[(x3*48271+(0+(i:Int))*(0+(i:Int))+11)%2147483647 / 7],?_,fun x hx=>?_,?_⟩
  ·rw [Z1];exact small1000 (by lia)
  ·rw [Z4,hl];rfl
  ·rcases List.mem_append.mp hx with y | y
   ·exact hb x y
   ·rw [List.mem_singleton.mp y]
    generalize x3*48271+(0+(i:Int))*(0+(i:Int))+11=u
    lia
  ·rw [upd_upd,Z3];rfl
 ·rintro σ H1 ⟨l,x3,x4,⟨hl,hb⟩,rfl,rfl⟩
  walk_at "rd"
  exact q p _ l hl hb (Same.new hp _) hp upd_same
theorem sc_22:FnScope ["_law_signs","_law_many","_law_size","_law_k"] ["_law_signs","_law_many"] (defScope s_22):=⟨rfl,rfl,rfl,by decide +kernel,rfl,by decide +kernel,by decide +kernel⟩
theorem ok_22 (T:Txt K mg t) :Has P w K mg base 1 t.f_22 ["_law_signs","_law_many"] (spPower):=by
 refine has_mk0 T.d_22 sc_22 (fun _ _ _ _ _ _ us hl=>match us,hl with | [_,_],_=>rfl) (fun vs H Q E h=>?_) (fun cdv A outer s H vs Q E hr h=>?_)
 ·obtain ⟨g,m,rfl,g2,g9,m0,m3,q⟩:=h
  rfl
 obtain ⟨g,m,rfl,g2,g9,m0,m3,q⟩:=h
 refine ⟨_,(pss_cons (ps_set (i:=2) sc_22.nd rfl (Or.inl rfl) pe_int)
  (pss_cons (ps_for PassesOwn.never rfl (pi_range1 rfl T.z_range (pa_cons (pv 1) pa_nil)) (pg_name (i:=3) sc_22.nd rfl (Or.inl rfl)) (pss_one (ps_set (i:=2) sc_22.nd rfl (Or.inl rfl) (pe_op op_mul (pv 2) (pv 0)))))
  (pss_one (ps_ret (pv 2))))),?_⟩
 walk_at "rd"
 refine ⟨_,rfl,m,rfl,by lia,by lia,?_⟩
 refine for_range (n:=m.toNat) (fun i σ H1=>∃ x,σ=[some (.int g),some (.int m),some (.int (g^i)),x]∧H1=H) ⟨none,by rw [Z13],rfl⟩ ?_ ?_
 ·rintro i σ H1 hi ⟨x,rfl,rfl⟩
  walk_at "rd"
  refine ⟨.inr ⟨by lia,by lia⟩,?_⟩
  rw [Z7]
  exact ⟨rfl,_,rfl⟩
 ·rintro σ H1 ⟨x,rfl,rfl⟩
  walk_at "rd"
  exact q
theorem sc_20:FnScope ["_law_signs","_law_xs","_law_goes","_law_at","_law_most","_law_table_here","_law_gone"] ["_law_signs","_law_xs"] (defScope s_20):=⟨rfl,rfl,rfl,by decide +kernel,rfl,by decide +kernel,by decide +kernel⟩
theorem ok_20 (T:Txt K mg t) :Has P w K mg base 1 t.f_20 ["_law_signs","_law_xs"] (spGoing66):=by
 refine has_mk0 T.d_20 sc_20 (fun _ _ _ _ _ _ us hl=>match us,hl with | [_,_],_=>rfl) (fun vs H Q E h=>?_) (fun cdv A outer s H vs Q E hr h=>?_)
 ·obtain ⟨g,px,xs,rfl,g2,g3,hx,xl,q⟩:=h
  rfl
 obtain ⟨g,px,xs,rfl,g2,g3,hx,xl,q⟩:=h
 refine ⟨_,(pss_cons (ps_set (i:=2) sc_20.nd rfl (Or.inl rfl) (pe_lst pa_nil))
  (pss_cons (ps_for PassesOwn.never rfl (pi_range1 rfl T.z_range (pa_cons (pe_op op_mul (pv 0) (pv 0)) pa_nil)) (pg_name (i:=3) sc_20.nd rfl (Or.inl rfl)) (pss_cons (ps_set (i:=4) sc_20.nd rfl (Or.inl rfl) (pe_callB (call_min2 rfl) rfl T.z_min PyProof.Rows.boot_min (pa_cons (pe_op op_fdiv (pv 3) (pv 0)) (pa_cons (pe_op op_sub (pe_op op_sub (pv 0) pe_int) (pe_op op_mod (pv 3) (pv 0))) pa_nil))))
  (pss_one (ps_expr (pe_bm PySem.F.plainAttrs_list PySem.F.slot_list_append PySem.F.type_list_append mt_append (pv 2) (pa_cons (pe_op op_sub (pv 4) (pe_op op_mod (pe_ix ix_list (pv 1) (pv 3) (fun _ _=>rfl)) (pe_op op_add (pv 4) pe_int))) pa_nil))))))
  (pss_cons (ps_set (i:=5) sc_20.nd rfl (Or.inl rfl) (pe_lst pa_nil))
  (pss_cons (ps_for PassesOwn.never rfl (pi_range1 rfl T.z_range (pa_cons (pe_op op_mul (pe_op op_mul (pv 0) (pv 0)) (pv 0)) pa_nil)) (pg_name (i:=3) sc_20.nd rfl (Or.inl rfl)) (pss_cons (ps_set (i:=6) sc_20.nd rfl (Or.inl rfl) (pe_ix ix_list (pv 2) (pe_op op_mod (pv 3) (pe_op op_mul (pv 0) (pv 0))) (fun _ _=>rfl)))
  (pss_one (ps_expr (pe_bm PySem.F.plainAttrs_list PySem.F.slot_list_append PySem.F.type_list_append mt_append (pv 5) (pa_cons (pe_op op_add (pe_op op_sub (pe_op op_mod (pe_op op_fdiv (pv 3) (pv 0)) (pv 0)) (pv 6)) (pe_ix ix_list (pv 2) (pe_op op_fdiv (pv 3) (pv 0)) (fun _ _=>rfl))) pa_nil))))))
  (pss_one (ps_ret (pv 5))))))),?_⟩
 have gn:((g.toNat:Nat):Int)=g:=by lia
 obtain ⟨G,hG⟩:∃ G:Nat,(G:Int)=g:=⟨g.toNat,gn⟩
 have G0:0<G:=by lia
 have gg:g*g=((G*G:Nat):Int):=by rw [Z12,hG]
 have ggg:g*g*g=((G*G*G:Nat):Int):=by rw [Z12,←gg,hG]
 have G9:G*G≤9:=Nat.mul_le_mul (show G≤3 by lia) (show G≤3 by lia)
 have G27:G*G*G≤27:=Nat.mul_le_mul G9 (show G≤3 by lia)
 refine hide fun N hN=>?_
 walk_at "rd"
 refine ⟨Nat.zero_le _,fun p hp=>hN _ _ ?_⟩
 clear hN N
 refine cut (fun σ HX=>∃ (x3 x4:Option V) (gl:List Int),σ=[some (.int g),some (.ref px),some (.ref p),x3,x4,none,none]∧Same H HX∧HX p=some (.lst (gl.map V.int))∧gl.length=G*G∧∀ j,j<G*G→0≤gl.getD j 0∧gl.getD j 0≤((j / G:Nat):Int)∧gl.getD j 0≤g - 1 - ((j%G:Nat):Int)) (fun N hN=>?_) ?_
 ·refine ⟨_,rfl,_,rfl,_,_,rfl,rfl,.inr ⟨by lia,by lia⟩,_,rfl,by lia,by lia,?_⟩
  rw [gg,Z5]
  refine for_range (n:=G*G) (fun i σ HX=>∃ (x3 x4:Option V) (gl:List Int),σ=[some (.int g),some (.ref px),some (.ref p),x3,x4,none,none]∧Same H HX∧HX p=some (.lst (gl.map V.int))∧gl.length=i∧∀ j,j<i→0≤gl.getD j 0∧gl.getD j 0≤((j / G:Nat):Int)∧gl.getD j 0≤g - 1 - ((j%G:Nat):Int)) ⟨none,none,[],rfl,Same.new hp _,upd_same,rfl,fun j hj=>absurd hj (Nat.not_lt_zero _)⟩ ?_ fun σ HX z=>hN _ _ z
  rintro i σ HX hi ⟨x3,x4,gl,rfl,eX,hX,ll,gb⟩
  have ed:(i:Int) / g=((i / G:Nat):Int):=by rw [Z18,hG]
  have em:(i:Int)%g=((i%G:Nat):Int):=by rw [Z27,hG]
  have ml:=Nat.mod_lt i G0
  refine hide fun N2 hN2=>?_
  walk_at "rd"
  rw [Z8,ed,em]
  refine ⟨by lia,by lia,by lia,hN2 _ _ ?_⟩
  clear hN2 N2
  obtain ⟨dI,hdI⟩:∃ d:Nat,d=i / G:=⟨_,rfl⟩
  obtain ⟨mI,hmI⟩:∃ d:Nat,d=i%G:=⟨_,rfl⟩
  rw [←hdI,←hmI]
  rw [←hmI] at ml
  obtain ⟨mo,hmo⟩:∃ mo:Int,mo=if g - 1 - ((mI:Nat):Int)<((dI:Nat):Int) then g - 1 - ((mI:Nat):Int) else ((dI:Nat):Int):=⟨_,rfl⟩
  have mb:0≤mo∧mo≤((dI:Nat):Int)∧mo≤g - 1 - ((mI:Nat):Int):=by rw [hmo];split <;> lia
  rw [←hmo]
  clear hmo
  have v0:=Int.emod_nonneg (xs.getD i 0) (show mo+1≠0 by lia)
  have v1:=Int.emod_lt_of_pos (xs.getD i 0) (show 0<mo+1 by lia)
  walk_at "rd"
  refine ⟨.inl ⟨_,SqL.of hX⟩,px,_,_,_,rfl,rfl,SqL.of (eX _ _ hx),getAt (by lia),_,rfl,by lia,_,hX,?_,eX.into hp,gl++[mo - xs.getD i 0%(mo+1)],?_,?_,fun j hj=>?_⟩
  ·rw [Z1,ll]
   exact small1000 (by lia)
  ·rw [upd_same,Z3];rfl
  ·rw [Z4,ll];rfl
  ·by_cases jl:j<i
   ·rw [Z0,List.getElem?_append_left (by lia),←Z0]
    exact gb j jl
   ·have ji:j=i:=by lia
    subst ji
    rw [Z0,List.getElem?_append_right (by lia),ll,Nat.sub_self,←hdI,←hmI]
    show 0≤mo - xs.getD j 0%(mo+1)∧mo - xs.getD j 0%(mo+1)≤_∧mo - xs.getD j 0%(mo+1)≤_
    lia
 rintro σ H1 ⟨x3,x4,gl,rfl,e1,h1,ll,gb⟩
 refine hide fun N hN=>?_
 walk_at "rd"
 refine ⟨Nat.zero_le _,fun p2 hp2=>hN _ _ ?_⟩
 clear hN N
 have e2:=Same.new hp2 (.lst [])
 have np2:H p2=none:=e1.free hp2
 refine cut (fun σ HX=>(∃ x3 x6,σ=[some (.int g),some (.ref px),some (.ref p),x3,x4,some (.ref p2),x6])∧Same H HX∧HX p2=some (.lst (((List.range (G*G*G)).map fun k:Nat=>((k / G%G:Nat):Int) - gl.getD (k%(G*G)) 0+gl.getD (k / G) 0).map V.int))) (fun N hN=>?_) ?_
 ·refine ⟨_,rfl,_,rfl,_,_,rfl,rfl,.inr ⟨by lia,by lia⟩,_,rfl,_,_,rfl,rfl,.inr ⟨by lia,by lia⟩,_,rfl,by lia,by lia,?_⟩
  rw [ggg,Z5]
  refine for_range (n:=G*G*G) (fun i σ HX=>(∃ x3 x6,σ=[some (.int g),some (.ref px),some (.ref p),x3,x4,some (.ref p2),x6])∧Same H1 HX∧HX p2=some (.lst (((List.range i).map fun k:Nat=>((k / G%G:Nat):Int) - gl.getD (k%(G*G)) 0+gl.getD (k / G) 0).map V.int))) ⟨⟨_,_,rfl⟩,e2,upd_same⟩ ?_ fun σ HX z=>hN _ _ ⟨z.1,e1.trans z.2.1,z.2.2⟩
  rintro i σ HX hi ⟨⟨x3,x6,rfl⟩,eX,hX⟩
  have ed:(i:Int) / g=((i / G:Nat):Int):=by rw [Z18,hG]
  have em:(i:Int)%(g*g)=((i%(G*G):Nat):Int):=by rw [Z27,gg]
  have ee:((i / G:Nat):Int)%g=((i / G%G:Nat):Int):=by rw [Z27,hG]
  have m1:i%(G*G)<gl.length:=by rw [ll];exact Nat.mod_lt _ (Nat.mul_pos G0 G0)
  have m2:i / G<gl.length:=by rw [ll];exact Nat.div_lt_of_lt_mul (by rw [Nat.mul_comm];exact hi)
  refine hide fun N2 hN2=>?_
  walk_at "rd"
  rw [Z8,em]
  refine ⟨.inr ⟨by lia,by lia⟩,by rw [gg];lia,p,_,_,_,rfl,rfl,SqL.of (eX _ _ h1),getAt m1,hN2 _ _ ?_⟩
  clear hN2 N2
  walk_at "rd"
  rw [ed,ee]
  refine ⟨.inl ⟨_,SqL.of hX⟩,by lia,by lia,by lia,by lia,by lia,p,_,_,_,rfl,rfl,SqL.of (eX _ _ h1),getAt m2,_,rfl,_,hX,?_,⟨_,rfl⟩,eX.into hp2,?_⟩
  ·rw [Z1,Z1,Z2]
   exact small1000 (by lia)
  ·rw [upd_same,range_succ_map,Z3]
   rfl
 rintro σ HX ⟨⟨x3',x6',rfl⟩,eX,hX⟩
 walk_at "rd"
 obtain ⟨tl,tb⟩:=go66 g2 hG gb rfl
 exact q p2 _ _ ⟨eX,np2,hX⟩ tl tb
theorem sc_24:FnScope ["_law_signs","_law_way","_law_xs","_law_low","_law_size","_law_there","_law_seen","_law_many"] ["_law_signs","_law_way","_law_xs"] (defScope s_24):=⟨rfl,rfl,rfl,by decide +kernel,rfl,by decide +kernel,by decide +kernel⟩
theorem ok_24 (T:Txt K mg t) (G_20:Has P w K mg base 1 t.f_20 ["_law_signs","_law_xs"] (spGoing66)) (G_22:Has P w K mg base 1 t.f_22 ["_law_signs","_law_many"] (spPower)):Has P w K mg base 2 t.f_24 ["_law_signs","_law_way","_law_xs"] (spTable65):=by
 refine has_mk0 T.d_24 sc_24 (fun _ _ _ _ _ _ us hl=>match us,hl with | [_,_,_],_=>rfl) (fun vs H Q E h=>?_) (fun cdv A outer s H vs Q E hr h=>?_)
 ·obtain ⟨g,way,px,xs,rfl,g2,g9,hx,xl,q⟩:=h
  rfl
 obtain ⟨g,way,px,xs,rfl,g2,g9,hx,xl,q⟩:=h
 refine ⟨_,(PSsI.out (psi_cons (psi_if (PW.pt (pw_and (pt_cmpR op_eq (pv 1) pe_int (nomark _)) (pw_and1 (pt_cmpR op_lt (pv 0) pe_int (nomark _))))) (psi_one (.of (ps_ret (pe_callH G_20 (hr.mono (by decide)) rfl T.m_20 passF (pa_cons (pv 0) (pa_cons (pv 2) pa_nil)))))) psi_nil)
  (psi_cons (psi_if (PW.pt (pw_and (pt_cmpR op_eq (pv 1) pe_int (nomark _)) (pw_and1 (pt_cmpR op_in_seq (pv 0) (pe_tup (pa_consC (pa_consC (pa_consC (pa_consC pa_nil))))) (by with_unfolding_all rfl))))) (psi_cons (psi_set (i:=3) sc_24.nd rfl (Or.inr rfl) (pei_ix ix_list (pei_lst (pai_consC (pai_consC (pai_consC (pai_consC (pai_consC (pai_consC (pai_consC (pai_consC (pai_consC (pai_consC pai_nil))))))))))) (.of (pv 0)) (fun _ _=>rfl)) rfl (by first | exact .inl rfl | exact .inr rfl))
  (psi_cons (psi_set (i:=4) sc_24.nd rfl (Or.inl rfl) (.of (pe_op op_mul (pv 0) (pv 0))) rfl (by first | exact .inl rfl | exact .inr rfl))
  (psi_one (.of (ps_ret (pe_comp (fv:=[(0,"_law_signs"),(3,"_law_low")]) (cl:=[("_law_signs",_),("_law_low",_)]) rfl (pi_range1 rfl T.z_range (pa_cons (pv 4) pa_nil)) (by with_unfolding_all rfl) (by decide +kernel) rfl (by decide +kernel) rfl ⟨(by with_unfolding_all rfl),⟨(by with_unfolding_all rfl),trivial⟩⟩ (by with_unfolding_all rfl) ⟨⟨rfl,rfl,(by with_unfolding_all rfl),rfl⟩,⟨⟨rfl,rfl,(by with_unfolding_all rfl),rfl⟩,trivial⟩⟩ (by decide) (fun _ _ _ _=>pf_nil) (fun _ _ _ _=>(pe_op op_add (pe_op op_mul (pe_op op_fdiv (pe_op op_mod (pv 0) (pv 1)) (pv 2)) (pv 2)) (pe_op op_mod (pe_op op_fdiv (pv 0) (pv 1)) (pv 2)))))))))) psi_nil)
  (psi_cons (psi_if (pt_cmpR op_eq (pv 1) pe_int (nomark _)) (psi_one (.of (ps_ret (pe_comp (fv:=[(2,"_law_xs"),(0,"_law_signs")]) (cl:=[("_law_xs",_),("_law_signs",_)]) rfl (pi_range1 rfl T.z_range (pa_cons (pe_op op_mul (pv 0) (pv 0)) pa_nil)) (by with_unfolding_all rfl) (by decide +kernel) rfl (by decide +kernel) rfl ⟨(by with_unfolding_all rfl),⟨(by with_unfolding_all rfl),trivial⟩⟩ (by with_unfolding_all rfl) ⟨⟨rfl,rfl,(by with_unfolding_all rfl),rfl⟩,⟨⟨rfl,rfl,(by with_unfolding_all rfl),rfl⟩,trivial⟩⟩ (by decide) (fun _ _ _ _=>pf_nil) (fun _ _ _ _=>(pe_op op_mod (pe_op op_add (pe_op op_mod (pv 0) (pv 2)) (pe_ix (ix_listK (K:=K) rfl) (pv 1) pe_int (fun _ _=>rfl))) (pv 2))))))) psi_nil)
  (psi_cons (psi_if (pt_cmpR op_eq (pv 1) pe_int (nomark _)) (psi_cons (psi_set (i:=5) sc_24.nd rfl (Or.inr rfl) (.of (pe_op op_mod (pe_ix ix_list (pv 2) pe_int (fun _ _=>rfl)) (pv 0))) rfl (by first | exact .inl rfl | exact .inr rfl))
  (psi_cons (.of (ps_set (i:=6) sc_24.nd rfl (Or.inr rfl) (pe_comp (fv:=[(2,"_law_xs"),(5,"_law_there"),(0,"_law_signs")]) (cl:=[("_law_xs",_),("_law_there",_),("_law_signs",_)]) rfl (pi_range1 rfl T.z_range (pa_cons (pv 0) pa_nil)) (by with_unfolding_all rfl) (by decide +kernel) rfl (by decide +kernel) rfl ⟨(by with_unfolding_all rfl),⟨(by with_unfolding_all rfl),⟨(by with_unfolding_all rfl),trivial⟩⟩⟩ (by with_unfolding_all rfl) ⟨⟨rfl,rfl,(by with_unfolding_all rfl),rfl⟩,⟨⟨rfl,rfl,(by with_unfolding_all rfl),rfl⟩,⟨⟨rfl,rfl,(by with_unfolding_all rfl),rfl⟩,trivial⟩⟩⟩ (by decide) (fun _ _ _ _=>pf_nil) (fun _ _ _ _=>(pe_ifExp (pt_cmpR op_eq (pv 0) (pv 2) (nomark _)) (pe_op op_mod (pe_ix (ix_listK (K:=K) rfl) (pv 1) pe_int (fun _ _=>rfl)) (pv 3)) (pv 0)))) (hs:=by with_unfolding_all rfl)))
  (psi_one (.of (ps_ret (pe_comp (fv:=[(0,"_law_signs"),(6,"_law_seen")]) (cl:=[("_law_signs",_),("_law_seen",_)]) rfl (pi_range1 rfl T.z_range (pa_cons (pe_op op_mul (pv 0) (pv 0)) pa_nil)) (by with_unfolding_all rfl) (by decide +kernel) rfl (by decide +kernel) rfl ⟨(by with_unfolding_all rfl),⟨(by with_unfolding_all rfl),trivial⟩⟩ (by with_unfolding_all rfl) ⟨⟨rfl,rfl,(by with_unfolding_all rfl),rfl⟩,⟨⟨rfl,rfl,(by with_unfolding_all rfl),rfl⟩,trivial⟩⟩ (by decide) (fun _ _ _ _=>pf_nil) (fun _ _ _ _=>(pe_ix (ix_listK (K:=K) rfl) (pv 2) (pe_op op_fdiv (pv 0) (pv 1)) (fun _ _=>rfl))))))))) psi_nil)
  (psi_cons (psi_set (i:=7) sc_24.nd rfl (Or.inl rfl) (.of pe_int) rfl (by first | exact .inl rfl | exact .inr rfl))
  (psi_cons (psi_if (pt_cmpR op_lt (pv 0) pe_int (nomark _)) (psi_one (psi_set (i:=7) sc_24.nd rfl (Or.inl rfl) (.of (pe_op op_add pe_int (pe_op op_mod (pe_ix ix_list (pv 2) pe_int (fun _ _=>rfl)) (pe_ix ix_list (pe_lst (pa_consC (pa_consC (pa_consC (pa_consC pa_nil))))) (pv 0) (fun _ _=>rfl))))) rfl (by first | exact .inl rfl | exact .inr rfl))) psi_nil)
  (psi_one (.of (ps_ret (pe_comp (fv:=[(0,"_law_signs")]) (cl:=[("_law_signs",_)]) rfl (pi_list (pe_slice sl_list (pv 2) (po_some pe_int) (po_some (pe_op op_add pe_int (pe_callH G_22 (hr.mono (by decide)) rfl T.m_22 passF (pa_cons (pv 0) (pa_cons (pv 7) pa_nil))))))) (by with_unfolding_all rfl) (by decide +kernel) rfl (by decide +kernel) rfl ⟨(by with_unfolding_all rfl),trivial⟩ (by with_unfolding_all rfl) ⟨⟨rfl,rfl,(by with_unfolding_all rfl),rfl⟩,trivial⟩ (by decide) (fun _ _ _ _=>pf_nil) (fun _ _ _ _=>(pe_op op_mod (pv 0) (pv 1)))))))))))))),?_⟩
 have gg0:0≤g*g:=Int.mul_nonneg (by lia) (by lia)
 have gg1:g*g≤9*9:=Int.mul_le_mul g9 g9 (by lia) (by lia)
 have g1:g^1=g:=by rw [Z7,Z13,Z23]
 have gsq:g^2=g*g:=by rw [show (2:Nat)=1+1 from rfl,Z7,g1]
 have two:∀ p H' tab,NewL H H' p tab→(tab.length:Int)=g^2→(∀ n∈tab,0≤n∧n<g)→Q (.ref p) H':=fun p H' tab n tl tb=>by
  refine q p H' tab 2 n tl (by decide) (by decide) (by rw [gsq];omega) ?_ tb
  rw [show max 2 2 - 1=1 from rfl,g1]
  exact g9
 refine cut (fun σ HX=>σ=[some (.int g),some (.int way),some (.ref px),none,none,none,none,none]∧HX=H) (fun N hN=>?_) ?_
 ·walk_at "rd"
  by_cases y:way=1
  ·rw [if_pos y]
   by_cases z:g<4
   ·rw [if_pos z]
    have gg:g*g≤3*3:=Int.mul_le_mul (by lia) (by lia) (by lia) (by lia)
    have g3:g^3≤27:=by
     rw [show (3:Nat)=2+1 from rfl,Z7,gsq]
     exact Int.mul_le_mul gg (show g≤3 by lia) (by lia) (by lia)
    refine ⟨g,px,xs,rfl,g2,by lia,hx,by lia,fun p H' tab n tl tb=>q p H' tab 3 n tl (by decide) (by decide) (by lia) ?_ tb⟩
    rw [show max 2 3 - 1=2 from rfl,gsq]
    lia
   ·rw [if_neg z]
    exact hN _ _ ⟨rfl,rfl⟩
  ·rw [if_neg y]
   exact hN _ _ ⟨rfl,rfl⟩
 rintro σ HX ⟨rfl,rfl⟩
 refine cut (fun σ HY=>(∃ x3 x4,σ=[some (.int g),some (.int way),some (.ref px),x3,x4,none,none,none])∧Same HX HY) (fun N hN=>?_) ?_
 ·walk_at "rd"
  by_cases y:way=2
  ·rw [if_pos y]
   refine ⟨by decide,fun p1 hp1=>⟨p1,_,rfl,.inr (SqT.of upd_same),rfl,rfl,_,rfl,?_⟩⟩
   have f1:=Same.new hp1 (.tup [V.int 4,V.int 6,V.int 8,V.int 9])
   rw [show (if false=true then !inV (V.int g) [V.int 4,V.int 6,V.int 8,V.int 9] else inV (V.int g) [V.int 4,V.int 6,V.int 8,V.int 9])=inV (V.int g) [V.int 4,V.int 6,V.int 8,V.int 9] from rfl]
   by_cases z:in62 g
   ·rw [if_pos ((in62_dec g2 g9).mpr z)]
    obtain ⟨l2,l4,lg,q3,_,_⟩:=low62_is z
    refine ⟨by decide,fun p2 hp2=>⟨p2,_,_,_,rfl,rfl,SqL.of upd_same,lowat z,?_⟩⟩
    have f2:=f1.trans (Same.new hp2 (.lst [V.int 0,V.int 0,V.int 0,V.int 0,V.int 2,V.int 0,V.int 3,V.int 0,V.int 4,V.int 3]))
    refine ⟨.inr ⟨by lia,by lia⟩,?_⟩
    refine ⟨_,rfl,_,rfl,by lia,by lia,fun D hD=>?_⟩
    refine comp_range (n:=(g*g).toNat) (fun i acc Hx=>acc=((List.range i).map fun k:Nat=>(k:Int)%g / low62 g*low62 g+(k:Int) / g%low62 g).map V.int∧Same HX Hx∧Hx D=some (.lst acc)) ⟨rfl,f2.trans (Same.new hD _),upd_same⟩ ?_ ?_
    ·rintro i acc Hx hi ⟨rfl,ex,hDx⟩
     walk_at "rd"
     rw [Z8]
     refine ⟨by lia,by lia,by lia,.inr ⟨by lia,by lia⟩,by lia,by lia,by lia,hDx,?_,?_,ex.into (f2.free hD),upd_same⟩
     ·rw [Z1,Z1,Z2]
      exact small1000 (by lia)
     ·rw [range_succ_map,Z3]
      rfl
    rintro acc H2 ⟨rfl,e2,h2⟩
    obtain ⟨tl,tb,_⟩:=tr_ok z rfl
    exact two D H2 _ ⟨e2,f2.free hD,h2⟩ tl tb
   ·rw [if_neg (fun w=>z ((in62_dec g2 g9).mp w))]
    exact hN _ _ ⟨⟨_,_,rfl⟩,f1⟩
  ·rw [if_neg y]
   exact hN _ _ ⟨⟨_,_,rfl⟩,Same.refl _⟩
 rintro σ H1 ⟨⟨x3,x4,rfl⟩,e1⟩
 refine cut (fun σ HY=>σ=[some (.int g),some (.int way),some (.ref px),x3,x4,none,none,none]∧HY=H1) (fun N hN=>?_) ?_
 ·walk_at "rd"
  by_cases y:way=3
  ·rw [if_pos y]
   refine ⟨_,rfl,_,rfl,_,_,rfl,rfl,.inr ⟨by lia,by lia⟩,_,rfl,by lia,by lia,fun D hD=>?_⟩
   refine comp_range (n:=(g*g).toNat) (fun i acc Hx=>acc=((List.range i).map fun k:Nat=>((k:Int)%g+xs.getD (Int.toNat 0) 0)%g).map V.int∧Same H1 Hx∧Hx D=some (.lst acc)) ⟨rfl,Same.new hD _,upd_same⟩ ?_ ?_
   ·rintro i acc Hx hi ⟨rfl,ex,hDx⟩
    walk_at "rd"
    rw [Z8]
    refine ⟨by lia,px,_,0,_,rfl,rfl,SqL.of ((e1.trans ex) _ _ hx),getAtZ (z:=0) (by lia) (by rw [xl];decide),_,rfl,by lia,hDx,?_,?_,ex.into hD,upd_same⟩
    ·rw [Z1,Z1,Z2]
     exact small1000 (by lia)
    ·rw [range_succ_map,Z3]
     rfl
   rintro acc H2 ⟨rfl,e2,h2⟩
   refine two D H2 _ ⟨e1.trans e2,e1.free hD,h2⟩ (by rw [Z1,Z2,gsq];omega) fun n hn=>?_
   obtain ⟨k,_,rfl⟩:=List.mem_map.mp hn
   exact ⟨Int.emod_nonneg _ (by lia),Int.emod_lt_of_pos _ (by lia)⟩
  ·rw [if_neg y]
   exact hN _ _ ⟨rfl,rfl⟩
 rintro σ HY ⟨rfl,rfl⟩
 refine cut (fun σ HY'=>(∃ x5 x6,σ=[some (.int g),some (.int way),some (.ref px),x3,x4,x5,x6,none])∧HY'=HY) (fun N hN=>?_) ?_
 ·walk_at "rd"
  by_cases y:way=4
  ·rw [if_pos y]
   refine ⟨px,_,0,_,rfl,rfl,SqL.of (e1 _ _ hx),getAtZ (z:=0) (by lia) (by rw [xl];decide),_,rfl,by lia,?_⟩
   have y0:=Int.emod_nonneg (xs.getD (Int.toNat 1) 0) (show g≠0 by lia)
   have y1:=Int.emod_lt_of_pos (xs.getD (Int.toNat 1) 0) (show 0<g by lia)
   generalize xs.getD (Int.toNat 0) 0%g=there
   refine ⟨_,rfl,_,rfl,by lia,by lia,fun D hD=>?_⟩
   refine comp_range (n:=g.toNat) (fun i acc Hx=>(∃ us:List Int,acc=us.map V.int∧us.length=i∧∀ n∈us,0≤n∧n<g)∧Same HY Hx∧Hx D=some (.lst acc)) ⟨⟨[],rfl,rfl,(fun n hn=>by cases hn)⟩,Same.new hD _,upd_same⟩ ?_ ?_
   ·rintro i acc Hx hi ⟨⟨us,rfl,ul,ub⟩,ex,hDx⟩
    have add:∀ v:Int,0≤v→v<g→∃ us':List Int,us.map V.int++[V.int v]=us'.map V.int∧us'.length=i+1∧∀ n∈us',0≤n∧n<g:=fun v v0 v1=>⟨us++[v],by rw [Z3];rfl,by rw [Z4,ul];rfl,fun n hn=>by
     rcases List.mem_append.mp hn with z | z
     ·exact ub n z
     ·rw [List.mem_singleton.mp z];exact ⟨v0,v1⟩⟩
    have sz:(us.map V.int).length≤1000:=by rw [Z1];lia
    walk_at "rd"
    rw [Z8]
    refine ⟨_,rfl,_,rfl,rfl,_,rfl,?_⟩
    dsimp only
    by_cases y:V.int ((i:Nat):Int)=V.int there
    ·rw [if_pos (decide_eq_true y)]
     exact ⟨_,rfl,px,_,1,_,rfl,rfl,SqL.of ((e1.trans ex) _ _ hx),getAtZ (z:=1) (by lia) (by rw [xl];decide),_,rfl,_,_,rfl,rfl,(by show 0<g;lia),hDx,small1000 (by lia),add _ y0 y1,ex.into hD,upd_same⟩
    ·rw [if_neg (by rw [decide_eq_false y];decide)]
     exact ⟨_,rfl,hDx,small1000 (by lia),add _ (by lia) (by lia),ex.into hD,upd_same⟩
   rintro acc H3 ⟨⟨us,rfl,usl,usb⟩,e3,h3⟩
   refine ⟨_,rfl,_,rfl,_,_,rfl,rfl,.inr ⟨by lia,by lia⟩,_,rfl,by lia,by lia,fun D2 hD2=>?_⟩
   refine comp_range (n:=(g*g).toNat) (fun i acc Hx=>acc=((List.range i).map fun k:Nat=>us.getD (k / g.toNat) 0).map V.int∧Same H3 Hx∧Hx D2=some (.lst acc)) ⟨rfl,Same.new hD2 _,upd_same⟩ ?_ ?_
   ·rintro i acc Hx hi ⟨rfl,ex,hDx⟩
    have gn:((g.toNat:Nat):Int)=g:=by lia
    have ed:(i:Int) / g=((i / g.toNat:Nat):Int):=by rw [Z18,gn]
    have il:i / g.toNat<us.length:=by
     rw [usl]
     refine Nat.div_lt_of_lt_mul ?_
     have:(g*g).toNat=g.toNat*g.toNat:=by rw [←gn,←Z12,Z5,Z5]
     lia
    walk_at "rd"
    rw [Z8,ed]
    refine ⟨by lia,by lia,D,_,_,_,rfl,rfl,SqL.of (ex _ _ h3),getAt il,hDx,?_,?_,ex.into hD2,upd_same⟩
    ·rw [Z1,Z1,Z2]
     exact small1000 (by lia)
    ·rw [range_succ_map,Z3]
     rfl
   rintro acc H4 ⟨rfl,e4,h4⟩
   refine two D2 H4 _ ⟨(e1.trans e3).trans e4,(e1.trans e3).free hD2,h4⟩ (by rw [Z1,Z2,gsq];omega) fun n hn=>?_
   obtain ⟨k,hk,rfl⟩:=List.mem_map.mp hn
   by_cases c:k / g.toNat<us.length
   ·rw [Z0,List.getElem?_eq_getElem c]
    exact usb _ (List.getElem_mem _)
   ·rw [Z0,List.getElem?_eq_none (by lia)]
    exact ⟨Int.le_refl _,by show (0:Int)<g;lia⟩
  ·rw [if_neg y]
   exact hN _ _ ⟨⟨_,_,rfl⟩,rfl⟩
 rintro σ HV ⟨⟨x5,x6,rfl⟩,rfl⟩
 refine hide fun N hN=>?_
 walk_at "rd"
 refine hN _ _ ?_
 clear hN N
 refine cut (fun σ HZ=>∃ M:Nat,σ=[some (.int g),some (.int way),some (.ref px),x3,x4,x5,x6,some (.int ((M:Nat):Int))]∧Same HX HZ∧1≤M∧M≤4∧g^M≤81∧g^(max 2 M - 1)≤9) (fun N hN=>?_) ?_
 ·walk_at "rd"
  by_cases z:g<4
  ·rw [if_pos z]
   obtain ⟨x,hat,x1,hM⟩:=m62 g2 z
   refine ⟨px,_,0,_,rfl,rfl,SqL.of (e1 _ _ hx),getAtZ (z:=0) (by lia) (by rw [xl];decide),by decide,fun p1 hp1=>⟨p1,_,_,_,rfl,rfl,SqL.of upd_same,hat,_,rfl,_,rfl,by lia,?_⟩⟩
   have y0:=Int.emod_nonneg (xs.getD (Int.toNat 0) 0) (show x≠0 by lia)
   have y1:=Int.emod_lt_of_pos (xs.getD (Int.toNat 0) 0) (show 0<x by lia)
   obtain ⟨M,hM'⟩:∃ M:Nat,(M:Int)=1+xs.getD (Int.toNat 0) 0%x:=⟨(1+xs.getD (Int.toNat 0) 0%x).toNat,by lia⟩
   obtain ⟨a1,a2,a3⟩:=hM M (by lia) (by lia)
   exact hN _ _ ⟨M,by rw [hM'],e1.trans (Same.new hp1 _),by lia,a3,a1,a2⟩
  ·rw [if_neg z]
   refine hN _ _ ⟨2,rfl,e1,by decide,by decide,by rw [gsq];omega,?_⟩
   rw [show max 2 2 - 1=1 from rfl,g1]
   exact g9
 rintro σ HZ ⟨M,rfl,eZ,M1,M4,s81,s9⟩
 have gm:=RW.pow_pos g2 M
 walk_at "rd"
 refine ⟨_,rfl,1,rfl,_,rfl,_,rfl,g,_,rfl,g2,g9,by lia,by lia,_,_,rfl,rfl,_,rfl,?_⟩
 rw [Z5]
 refine sl_new (SqL.of (eZ _ _ hx)) fun p2 H2 e2 _ h2=>⟨p2,rfl,⟨_,SqL.of h2⟩,fun D hD=>?_⟩
 rw [cutV_int] at h2
 obtain ⟨ys,hys⟩:∃ ys,ys=cutI xs (some 1) (some (1+g^M)):=⟨_,rfl⟩
 have yl:(ys.length:Int)=g^M:=by rw [hys];exact cut62 (by lia) (by lia)
 rw [←hys] at h2
 refine comp_list (xs:=ys.map V.int) (fun i acc Hx=>acc=((ys.take i).map (·%g)).map V.int∧Same H2 Hx∧Hx D=some (.lst acc)) ⟨rfl,Same.new hD _,upd_same⟩ (fun i acc Hx _ z=>SqL.of (z.2.1 _ _ h2)) ?_ ?_
 ·rintro i x acc Hx hx' ⟨rfl,ex,hDx⟩
  obtain ⟨v,hv,rfl⟩:=getInt hx'
  have hi:=(List.getElem?_eq_some_iff.mp hv).1
  walk_at "rd"
  refine ⟨by lia,hDx,?_,?_,ex.into hD,upd_same⟩
  ·rw [Z1,Z1,Z16]
   exact small1000 (by lia)
  ·rw [Z22,hv]
   simp
 rintro acc H3 ⟨rfl,e3,h3⟩
 rw [Z1,Z14] at h3
 exact q D H3 (ys.map (·%g)) M ⟨(eZ.trans e2).trans e3,(eZ.trans e2).free hD,h3⟩ (by rw [Z1];exact yl) M1 M4 s81 s9 (mods_lt g2 _)
theorem sc_34:FnScope ["_law_script","_law_first","_law_signs","_law_xs","_law_k","_law_table_here","_law_at"] ["_law_script"] (defScope s_34):=⟨rfl,rfl,rfl,by decide +kernel,rfl,by decide +kernel,by decide +kernel⟩
theorem ok_34 (T:Txt K mg t) (G_7:Has P w K mg base 1 t.f_7 ["_law_script","_law_k"] (spCell K)) (G_14:Has P w K mg base 1 t.f_14 ["_law_cell","_law_many"] (spStreamB)) (G_24:Has P w K mg base 2 t.f_24 ["_law_signs","_law_way","_law_xs"] (spTable65)):Has P w K mg base 3 t.f_34 ["_law_script"] (spRule65 K):=by
 refine has_mk0 T.d_34 sc_34 (fun _ _ _ _ _ _ us hl=>match us,hl with | [_],_=>rfl) (fun vs H Q E h=>?_) (fun cdv A outer s H vs Q E hr h=>?_)
 ·obtain ⟨a,ns,rfl,hS,h63,q⟩:=h
  rfl
 obtain ⟨a,ns,rfl,hS,h63,q⟩:=h
 refine ⟨_,(PSsI.out (psi_cons (psi_set (i:=1) sc_34.nd rfl (Or.inl rfl) (.of (pe_callH G_7 (hr.mono (by decide)) rfl T.m_7 passF (pa_cons (pv 0) (pa_consC pa_nil)))) rfl (by first | exact .inl rfl | exact .inr rfl))
  (psi_cons (psi_set (i:=2) sc_34.nd rfl (Or.inl rfl) (pei_ix ix_list (pei_lst (pai_consC (pai_consC (pai_consC (pai_consC (pai_consC (pai_consC (pai_consC (pai_consC (pai_consC (pai_consC (pai_consC (pai_consC (pai_consC (pai_consC (pai_consC (pai_consC pai_nil))))))))))))))))) (.of (pe_op op_mod (pv 1) pe_int)) (fun _ _=>rfl)) rfl (by first | exact .inl rfl | exact .inr rfl))
  (psi_cons (psi_set (i:=3) sc_34.nd rfl (Or.inl rfl) (.of (pe_callH G_14 (hr.mono (by decide)) rfl T.m_14 passF (pa_cons (pe_callH G_7 (hr.mono (by decide)) rfl T.m_7 passF (pa_cons (pv 0) (pa_consC pa_nil))) (pa_consC pa_nil)))) rfl (by first | exact .inl rfl | exact .inr rfl))
  (psi_cons (.of (ps_for PassesOwn.never rfl (pi_range1 rfl T.z_range (pa_cons (pe_callB (call_min2 rfl) rfl T.z_min PyProof.Rows.boot_min (pa_consC (pa_cons (pe_op op_sub (pe_callB call_len_seq rfl T.z_len PySem.boot_len (pa_cons (pv 0) pa_nil)) pe_int) pa_nil))) pa_nil)) (pg_name (i:=4) sc_34.nd rfl (Or.inl rfl)) (pss_one (ps_asg (pe_op op_mod (pe_ix ix_list (pv 0) (pe_op op_add pe_int (pv 4)) (fun _ _=>rfl)) pe_int) (pg_sub (pv 3) (pv 4) set_list)))))
  (psi_cons (psi_set (i:=5) sc_34.nd rfl (Or.inl rfl) (.of (pe_callH G_24 (hr.mono (by decide)) rfl T.m_24 passF (pa_cons (pv 2) (pa_cons (pe_op op_mod (pe_op op_fdiv (pv 1) pe_int) pe_int) (pa_cons (pv 3) pa_nil))))) rfl (by first | exact .inl rfl | exact .inr rfl))
  (psi_cons (psi_if (pt_cmpR op_eq (pe_op op_mod (pe_op op_fdiv (pv 1) pe_int) pe_int) pe_int (nomark _)) (psi_cons (psi_set (i:=6) sc_34.nd rfl (Or.inl rfl) (.of (pe_op op_mod (pe_ix ix_list (pv 3) pe_int (fun _ _=>rfl)) (pe_callB call_len_seq rfl T.z_len PySem.boot_len (pa_cons (pv 5) pa_nil)))) rfl (by first | exact .inl rfl | exact .inr rfl))
  (psi_one (.of (ps_asg (pe_op op_mod (pe_op op_add (pe_ix ix_list (pv 5) (pv 6) (fun _ _=>rfl)) pe_int) (pv 2)) (pg_sub (pv 5) (pv 6) set_list))))) psi_nil)
  (psi_cons (psi_if (PW.pt (pw_and (pt_cmpR op_eq (pe_op op_mod (pe_op op_fdiv (pv 1) pe_int) pe_int) pe_int (nomark _)) (pw_and1 (pt_cmpR op_le (pe_op op_mul (pe_callB call_len_seq rfl T.z_len PySem.boot_len (pa_cons (pv 5) pa_nil)) (pv 2)) pe_int (nomark _))))) (psi_one (psi_set (i:=5) sc_34.nd rfl (Or.inl rfl) (.of (pe_op op_rep (pv 5) (pv 2))) rfl (by first | exact .inl rfl | exact .inr rfl))) psi_nil)
  (psi_one (.of (ps_ret (pe_tup (pa_cons (pv 2) (pa_cons (pe_op op_sub (pe_op op_mod (pe_op op_fdiv (pv 1) pe_int) pe_int) pe_int) (pa_cons (pe_callTy call_tuple_of rfl T.z_tuple PyProof.Rows.boot_tuple (pa_cons (pv 5) pa_nil)) pa_nil))))))))))))))),?_⟩
 refine hide fun N hN=>?_
 walk_at "rd"
 refine ⟨a,ns,0,rfl,hS,h63,hN _ _ ?_⟩
 clear hN N
 obtain ⟨f,hf⟩:∃ f,f=ns.getD 0 0:=⟨_,rfl⟩
 rw [←hf]
 have z0:=Int.emod_nonneg f (show (16:Int)≠0 by decide)
 have z1:=Int.emod_lt_of_pos f (show (0:Int)<16 by decide)
 obtain ⟨k,hk⟩:∃ k:Int,k=f%16:=⟨_,rfl⟩
 rw [←hk] at z0 z1
 refine hide fun N hN=>?_
 walk_at "rd"
 refine ⟨by decide,fun p hp=>⟨by decide,?_⟩⟩
 rw [←hk]
 refine ⟨p,_,_,_,rfl,rfl,SqL.of upd_same,getAtZ (ns:=[2,3,2,4,2,3,6,2,4,3,5,8,3,4,7,9]) z0 (by show k.toNat<16;lia),hN _ _ ?_⟩
 clear hN N
 have e1:=Same.new hp (.lst [V.int 2,V.int 3,V.int 2,V.int 4,V.int 2,V.int 3,V.int 6,V.int 2,V.int 4,V.int 3,V.int 5,V.int 8,V.int 3,V.int 4,V.int 7,V.int 9])
 have gg:∀ j<16,2≤([2,3,2,4,2,3,6,2,4,3,5,8,3,4,7,9]:List Int).getD j 0∧([2,3,2,4,2,3,6,2,4,3,5,8,3,4,7,9]:List Int).getD j 0≤9:=by decide
 have g29:=gg k.toNat (by lia)
 obtain ⟨g,hg⟩:∃ g:Int,g=([2,3,2,4,2,3,6,2,4,3,5,8,3,4,7,9]:List Int).getD k.toNat 0:=⟨_,rfl⟩
 rw [←hg] at g29 ⊢
 clear hg gg z0 z1 hk
 obtain ⟨g2,g9⟩:=g29
 refine hide fun N hN=>?_
 walk_at "rd"
 refine ⟨a,ns,1,rfl,e1.seq hS,h63,?_⟩
 refine ⟨_,_,rfl,by decide,by decide,fun px H2 l hl _ e2 f2 h2=>hN _ _ ?_⟩
 clear hN N
 have l90:l.length=90:=by lia
 obtain ⟨HB,hHB⟩:∃ HB,HB=upd H p (.lst [V.int 2,V.int 3,V.int 2,V.int 4,V.int 2,V.int 3,V.int 6,V.int 2,V.int 4,V.int 3,V.int 5,V.int 8,V.int 3,V.int 4,V.int 7,V.int 9]):=⟨_,rfl⟩
 rw [←hHB] at e1 e2 f2
 clear hHB hp
 refine cut (fun σ HX=>(∃ (x4:Option V) (l':List Int),σ=[some (.ref a),some (.int f),some (.int g),some (.ref px),x4,none,none]∧HX px=some (.lst (l'.map V.int))∧l'.length=90)∧Same HB HX) (fun N hN=>?_) ?_
 ·have hSB:=e1.seq hS
  have hSX:∀ {HX:Hp},Same HB HX→SqL K HX a (ns.map V.int):=fun eX=>eX.seq hSB
  refine ⟨_,rfl,a,_,rfl,.inl (hSX e2),_,_,rfl,rfl,_,_,rfl,_,rfl,?_⟩
  rw [Z1]
  obtain ⟨j,hj⟩:∃ j:Int,j=if ((ns.length:Nat):Int) - 2<88 then ((ns.length:Nat):Int) - 2 else 88:=⟨_,rfl⟩
  have jb:-2≤j∧j≤61∧j=((ns.length:Nat):Int) - 2:=by
   rw [hj,if_pos (by lia)]
   lia
  rw [←hj]
  refine ⟨by lia,by lia,?_⟩
  refine for_range (n:=j.toNat) (fun i σ HX=>(∃ (x4:Option V) (l':List Int),σ=[some (.ref a),some (.int f),some (.int g),some (.ref px),x4,none,none]∧HX px=some (.lst (l'.map V.int))∧l'.length=90)∧Same HB HX) ⟨⟨none,l,rfl,h2,l90⟩,e2⟩ ?_ fun σ HX z=>hN _ _ z
  rintro i σ HX hi ⟨⟨x4,l',rfl,hX,l90'⟩,eX⟩
  have ai:0≤2+(i:Int)∧(2+(i:Int)).toNat<ns.length:=by lia
  walk_at "rd"
  rw [Z8]
  refine ⟨a,_,_,_,rfl,rfl,hSX eX,getAtZ ai.1 ai.2,_,rfl,by decide,_,rfl,_,rfl,px,_,((i:Nat):Int),i,rfl,rfl,hX,(by rw [Z1];exact ixN_nat (by lia)),⟨_,rfl⟩,⟨l'.set i (ns.getD (2+(i:Int)).toNat 0%2147483647),by rw [upd_same,List.map_set],by rw [Z11];exact l90'⟩,eX.into f2⟩
 rintro σ HX ⟨⟨x4,l',rfl,hX,l90'⟩,eX⟩
 refine hide fun N hN=>?_
 walk_at "rd"
 refine ⟨by decide,by decide,by decide,?_⟩
 refine ⟨g,_,px,l',rfl,g2,g9,hX,l90',fun p7 H7 tab m n7 tl m1 m4 s81 s9 tb=>hN _ _ ?_⟩
 clear hN N
 have e7:=(e1.trans eX).trans n7.1
 have p7':=n7.2.2
 have x7:=n7.1 _ _ hX
 have n7n:H p7=none:=(e1.trans eX).free n7.2.1
 refine forget (fun HX=>Same H HX∧HX p7=some (.lst (tab.map V.int))∧HX px=some (.lst (l'.map V.int))) ⟨e7,p7',x7⟩ ?_
 clear e7 p7' x7 n7
 rintro H8 ⟨e8,h8,hx8⟩
 have tpos:=RW.pow_pos g2 m
 refine cut (fun σ HX=>(∃ (x6:Option V) (tab':List Int),σ=[some (.ref a),some (.int f),some (.int g),some (.ref px),x4,some (.ref p7),x6]∧HX p7=some (.lst (tab'.map V.int))∧(tab'.length:Int)=g^m∧(∀ n∈tab',0≤n∧n<g))∧Same H HX) (fun N hN=>?_) ?_
 ·walk_at "rd"
  refine ⟨by decide,by decide,by decide,?_⟩
  by_cases y:f / 96%4=1
  ·rw [if_pos y]
   refine ⟨px,_,89,_,rfl,rfl,SqL.of hx8,getAtZ (z:=89) (by lia) (by rw [l90'];decide),_,.inl (SqL.of h8),_,rfl,by rw [Z1];lia,?_⟩
   rw [Z1]
   have y0:=Int.emod_nonneg (l'.getD (Int.toNat 89) 0) (show (tab.length:Int)≠0 by lia)
   have y1:=Int.emod_lt_of_pos (l'.getD (Int.toNat 89) 0) (show 0<(tab.length:Int) by lia)
   obtain ⟨s,hs⟩:∃ s:Nat,(s:Int)=l'.getD (Int.toNat 89) 0%(tab.length:Int):=⟨_,Int.toNat_of_nonneg y0⟩
   rw [←hs]
   have sl:s<tab.length:=by lia
   refine ⟨p7,_,_,_,rfl,rfl,SqL.of h8,getAt sl,_,rfl,by lia,_,rfl,_,rfl,p7,_,((s:Nat):Int),s,rfl,rfl,h8,(by rw [Z1];exact ixN_nat sl),hN _ _ ⟨⟨_,tab.set s ((tab.getD s 0+1)%g),rfl,by rw [upd_same,List.map_set],by rw [Z11];exact tl,fun n hn=>?_⟩,e8.into n7n⟩⟩
   rcases List.mem_or_eq_of_mem_set hn with z | z
   ·exact tb n z
   ·rw [z]
    exact ⟨Int.emod_nonneg _ (by lia),Int.emod_lt_of_pos _ (by lia)⟩
  ·rw [if_neg y]
   exact hN _ _ ⟨⟨_,tab,rfl,h8,tl,tb⟩,e8⟩
 rintro σ HX ⟨⟨x6,tab',rfl,h9,tl',tb'⟩,e9⟩
 have frm:∀ lo lf tf mf,FrameW g lo tab' m lf tf mf→g^(mf - 1)≤9:=fun lo lf tf mf fw=>by
  have:=fw.le g2 tl' tl' fun _ _=>rfl
  exact Int.le_trans (pow_mono g2 (by lia)) s9
 refine cut (fun σ HY=>(∃ (pt:Addr) (tab2:List Int) (m2:Nat),σ=[some (.ref a),some (.int f),some (.int g),some (.ref px),x4,some (.ref pt),x6]∧HY pt=some (.lst (tab2.map V.int))∧(tab2.length:Int)=g^m2∧1≤m2∧m2≤8∧g^m2≤256∧(∀ n∈tab2,0≤n∧n<g)∧∀ lo lf tf mf,FrameW g lo tab2 m2 lf tf mf→g^(mf - 1)≤9)∧Same H HY) (fun N hN=>?_) ?_
 ·have stay:N [some (.ref a),some (.int f),some (.int g),some (.ref px),x4,some (.ref p7),x6] HX:=hN _ _ ⟨⟨p7,tab',m,rfl,h9,tl',m1,by lia,by lia,tb',frm⟩,e9⟩
  walk_at "rd"
  refine ⟨by decide,by decide,by decide,?_⟩
  by_cases y:f / 384%3=1
  ·rw [if_pos y]
   refine ⟨_,.inl (SqL.of h9),.inr ⟨by lia,by lia⟩,?_⟩
   rw [Z1]
   by_cases z:(tab'.length:Int)*g≤256
   ·rw [if_pos z]
    have gn:((g.toNat:Nat):Int)=g:=by lia
    have t0:(((tab'.length*g.toNat:Nat)):Int)=(tab'.length:Int)*g:=by rw [Z12,gn]
    refine rep_new5 h9 (by lia) (by lia) (by rw [Z1];lia) fun p3 H3 e3 _ h3=>?_
    rw [←List.map_replicate,←List.map_flatten] at h3
    have wf:=fun lo=>wide_first g2 lo tl'
    refine hN _ _ ⟨⟨p3,_,m+1,rfl,h3,(wf 0).1,by lia,by lia,?_,fun n hn=>?_,fun lo lf tf mf fw=>?_⟩,e9.trans e3⟩
    ·rw [Z7,←tl'];exact z
    ·obtain ⟨l,hl,hn'⟩:=List.mem_flatten.mp hn
     rw [List.eq_of_mem_replicate hl] at hn'
     exact tb' n hn'
    ·have:=fw.le g2 (wf lo).1 tl' (wf lo).2
     exact Int.le_trans (pow_mono g2 (by lia)) s9
   ·rw [if_neg z]
    exact stay
  ·rw [if_neg y]
   exact stay
 rintro σ HY ⟨⟨pt,tab2,m2,rfl,h10,tl2,m21,m28,sz2,tb2,frm2⟩,e10⟩
 walk_at "rd"
 refine ⟨by decide,by decide,by decide,?_⟩
 refine ⟨_,.inl ⟨SqL.of h10,fun l8 hl8=>?_⟩⟩
 refine ⟨by decide,fun p9 hp9=>?_⟩
 have f8:=Same.new hl8 (.tup (tab2.map V.int))
 have f9:=Same.new hp9 (.tup [.int g,.int (f / 1152%7 - 3),.ref l8])
 exact q p9 _ g _ tab2 m2 ((e10.trans f8).trans f9) ⟨⟨l8,upd_same,f9 _ _ upd_same⟩,g2,g9,m21,m28,tl2,sz2,tb2⟩ (frm2 _)
theorem sc_19:FnScope ["_law_one","_law_signs","_law_table_here","_law_heads_here"] ["_law_one"] (defScope s_19):=⟨rfl,rfl,rfl,by decide +kernel,rfl,by decide +kernel,by decide +kernel⟩
theorem ok_19 (T:Txt K mg t) :Has P w K mg base 1 t.f_19 ["_law_one"] (spFrame65):=by
 refine has_mk0 T.d_19 sc_19 (fun _ _ _ _ _ _ us hl=>match us,hl with | [_],_=>rfl) (fun vs H Q E h=>?_) (fun cdv A outer s H vs Q E hr h=>?_)
 ·obtain ⟨r,g,lo,tab,m,rfl,ok,q⟩:=h
  rfl
 obtain ⟨r,g,lo,tab,m,rfl,ok,q⟩:=h
 refine ⟨_,(pss_cons (ps_set (i:=1) sc_19.nd rfl (Or.inr rfl) (pe_ix ix_tup (pv 0) pe_int (fun _ _=>rfl)))
  (pss_cons (ps_set (i:=2) sc_19.nd rfl (Or.inr rfl) (pe_callTy call_list_of rfl T.z_list PyProof.Rows.boot_list (pa_cons (pe_ix ix_tup (pv 0) pe_int (fun _ _=>rfl)) pa_nil)))
  (pss_cons (ps_while PassesOwn.never (PW.pt (pw_and (pt_cmpR op_gt (pe_callB call_len_seq rfl T.z_len PySem.boot_len (pa_cons (pv 2) pa_nil)) (pv 1) (nomark _)) (pw_and1 (pt_cmpR (op_eqL hr.units) (pv 2) (pe_op op_rep (pe_slice sl_list (pv 2) po_none (po_some (pe_op op_fdiv (pe_callB call_len_seq rfl T.z_len PySem.boot_len (pa_cons (pv 2) pa_nil)) (pv 1)))) (pv 1)) (nomark _))))) (pss_one (ps_set (i:=2) sc_19.nd rfl (Or.inr rfl) (pe_slice sl_list (pv 2) po_none (po_some (pe_op op_fdiv (pe_callB call_len_seq rfl T.z_len PySem.boot_len (pa_cons (pv 2) pa_nil)) (pv 1)))))))
  (pss_cons (ps_comp (iy:=3) (fv:=[(2,"_law_table_here"),(1,"_law_signs")]) (cl:=[("_law_table_here",_),("_law_signs",_)]) rfl sc_19.nd rfl (Or.inl rfl) (pi_range1 rfl T.z_range (pa_cons (pe_callB call_len_seq rfl T.z_len PySem.boot_len (pa_cons (pv 2) pa_nil)) pa_nil)) (by with_unfolding_all rfl) (by with_unfolding_all rfl) (by decide +kernel) rfl (by decide +kernel) rfl ⟨(by with_unfolding_all rfl),⟨(by with_unfolding_all rfl),trivial⟩⟩ (by with_unfolding_all rfl) ⟨⟨rfl,rfl,(by with_unfolding_all rfl),rfl⟩,⟨⟨rfl,rfl,(by with_unfolding_all rfl),rfl⟩,trivial⟩⟩ (by decide) (fun _ _ _ _=>pf_nil) (fun _ _ _ _=>(pe_ix (ix_listK (K:=K) rfl) (pv 1) (pe_op op_sub (pv 0) (pe_op op_mod (pv 0) (pv 2))) (fun _ _=>rfl))))
  (pss_cons (ps_while PassesOwn.never (PW.pt (pw_and (pt_cmpR op_gt (pe_callB call_len_seq rfl T.z_len PySem.boot_len (pa_cons (pv 2) pa_nil)) (pv 1) (nomark _)) (pw_and1 (pt_cmpR (op_eqL hr.units) (pv 2) (pv 3) (nomark _))))) (pss_cons (ps_set (i:=2) sc_19.nd rfl (Or.inr rfl) (pe_comp (fv:=[(2,"_law_table_here")]) (cl:=[("_law_table_here",_)]) rfl (pi_range3 rfl T.z_range (pa_consC (pa_cons (pe_callB call_len_seq rfl T.z_len PySem.boot_len (pa_cons (pv 2) pa_nil)) (pa_cons (pv 1) pa_nil)))) (by with_unfolding_all rfl) (by decide +kernel) rfl (by decide +kernel) rfl ⟨(by with_unfolding_all rfl),trivial⟩ (by with_unfolding_all rfl) ⟨⟨rfl,rfl,(by with_unfolding_all rfl),rfl⟩,trivial⟩ (by decide) (fun _ _ _ _=>pf_nil) (fun _ _ _ _=>(pe_ix (ix_listK (K:=K) rfl) (pv 1) (pv 0) (fun _ _=>rfl)))) (hs:=by with_unfolding_all rfl))
  (pss_one (ps_comp (iy:=3) (fv:=[(2,"_law_table_here"),(1,"_law_signs")]) (cl:=[("_law_table_here",_),("_law_signs",_)]) rfl sc_19.nd rfl (Or.inl rfl) (pi_range1 rfl T.z_range (pa_cons (pe_callB call_len_seq rfl T.z_len PySem.boot_len (pa_cons (pv 2) pa_nil)) pa_nil)) (by with_unfolding_all rfl) (by with_unfolding_all rfl) (by decide +kernel) rfl (by decide +kernel) rfl ⟨(by with_unfolding_all rfl),⟨(by with_unfolding_all rfl),trivial⟩⟩ (by with_unfolding_all rfl) ⟨⟨rfl,rfl,(by with_unfolding_all rfl),rfl⟩,⟨⟨rfl,rfl,(by with_unfolding_all rfl),rfl⟩,trivial⟩⟩ (by decide) (fun _ _ _ _=>pf_nil) (fun _ _ _ _=>(pe_ix (ix_listK (K:=K) rfl) (pv 1) (pe_op op_sub (pv 0) (pe_op op_mod (pv 0) (pv 2))) (fun _ _=>rfl)))))))
  (pss_cons (ps_if (pt_cmpR op_eq (pe_callB call_len_seq rfl T.z_len PySem.boot_len (pa_cons (pv 2) pa_nil)) (pv 1) (nomark _)) (pss_one (ps_set (i:=2) sc_19.nd rfl (Or.inr rfl) (pe_comp (fv:=[(2,"_law_table_here"),(1,"_law_signs")]) (cl:=[("_law_table_here",_),("_law_signs",_)]) rfl (pi_range1 rfl T.z_range (pa_cons (pe_op op_mul (pv 1) (pv 1)) pa_nil)) (by with_unfolding_all rfl) (by decide +kernel) rfl (by decide +kernel) rfl ⟨(by with_unfolding_all rfl),⟨(by with_unfolding_all rfl),trivial⟩⟩ (by with_unfolding_all rfl) ⟨⟨rfl,rfl,(by with_unfolding_all rfl),rfl⟩,⟨⟨rfl,rfl,(by with_unfolding_all rfl),rfl⟩,trivial⟩⟩ (by decide) (fun _ _ _ _=>pf_nil) (fun _ _ _ _=>(pe_ix (ix_listK (K:=K) rfl) (pv 1) (pe_op op_fdiv (pv 0) (pv 2)) (fun _ _=>rfl)))) (hs:=by with_unfolding_all rfl))) pss_nil)
  (pss_one (ps_ret (pv 2))))))))),?_⟩
 obtain ⟨tb,r1,r2⟩:=id ok.v
 have g2:=ok.g2
 have g9:=ok.g9
 have hl:=ok.len
 have m1:=ok.m1
 have m8:=ok.m8
 have sz:=ok.sz
 have tbb:=ok.tb
 refine hide fun N hN=>?_
 walk_at "rd"
 refine ⟨r,_,0,_,rfl,rfl,SqT.of r1,rfl,hN _ _ ?_⟩
 clear hN N
 refine hide fun N hN=>?_
 walk_at "rd"
 refine ⟨r,_,2,_,rfl,rfl,SqT.of r1,rfl,tb,rfl,_,.inr (SqT.of r2),fun p0 hp0=>hN _ _ ?_⟩
 clear hN N
 have e0:=Same.new hp0 (.lst (tab.map V.int))
 refine forget (fun HX=>Same H HX∧HX p0=some (.lst (tab.map V.int))) ⟨e0,upd_same⟩ ?_
 clear e0 hp0
 rintro H0 ⟨e0,h0⟩
 have gn:((g.toNat:Nat):Int)=g:=by lia
 have c0:CutW g lo tab m lo tab m:=⟨m1,Nat.le_refl _,hl,tbb,fun _ _=>rfl⟩
 refine cut (fun σ HX=>∃ (p:Addr) (lo':Int) (tab':List Int) (m':Nat),σ=[some (.ref r),some (.int g),some (.ref p),none]∧Same H HX∧HX p=some (.lst (tab'.map V.int))∧CutW g lo tab m lo' tab' m'∧(2≤m'→cntB g tab' (g^(m' - 1))=true)) (fun N hN=>?_) ?_
 ·refine while_by (fun σ HX=>∃ (p:Addr) (lo':Int) (tab':List Int) (m':Nat),σ=[some (.ref r),some (.int g),some (.ref p),none]∧Same H HX∧HX p=some (.lst (tab'.map V.int))∧CutW g lo tab m lo' tab' m')
   (fun (σ:St) (HX:Hp)=>match σ[2]? with | some (some (V.ref d))=>(match HX d with | some (.lst xs)=>xs.length | _=>0) | _=>0) ⟨p0,lo,tab,m,rfl,e0,h0,c0⟩ ?_ ?_
  ·rintro σ HX ⟨p,lo',tab',m',rfl,eX,hpX,c⟩
   have hh:=c.half g2
   have cl:=c.len
   have g1:g^1=g:=by rw [Z7,Z13,Z23]
   have hlm:(tab'.map V.int).length=tab'.length:=List.length_map ..
   have hsz:tab'.length≤256:=by have:=pow_mono g2 c.le;lia
   have e:(((tab'.map V.int).length:Nat):Int) / g=((tab'.length / g.toNat:Nat):Int):=by rw [hlm,Z18,gn]
   walk_at "rd"
   refine ⟨_,.inl (SqL.of hpX),?_⟩
   by_cases z:g<(((tab'.map V.int).length:Nat):Int)
   ·rw [if_pos z]
    have m2:2≤m':=by
     have m1:=c.m1
     by_cases y:m'=1
     ·subst y;lia
     ·lia
    refine ⟨_,.inl (SqL.of hpX),by lia,by lia,?_⟩
    rw [e]
    refine sl_new (SqL.of hpX) fun p2 H2 e2 _ h2'=>?_
    rw [cutV_to,←List.map_take] at h2'
    refine rep_new5 h2' (by lia) (by lia) ?_ fun p3 H3 e3 _ h3=>?_
    ·rw [Z1,Z16]
     have:=hh.2
     have:tab'.length / g.toNat≤tab'.length:=Nat.div_le_self ..
     have:min (tab'.length / g.toNat) tab'.length*g.toNat≤tab'.length:=by rw [Nat.min_eq_left this];lia
     lia
    rw [←List.map_replicate,←List.map_flatten] at h3
    have e23:=e2.trans e3
    refine ⟨p3,rfl,tab',SqL.of (e23 _ _ hpX),_,SqL.of h3,?_⟩
    by_cases y:tab'=(List.replicate g.toNat (tab'.take (tab'.length / g.toNat))).flatten
    ·rw [if_pos y]
     refine ⟨_,.inl (SqL.of (e23 _ _ hpX)),by lia,by lia,?_⟩
     rw [e]
     refine sl_new (SqL.of (e23 _ _ hpX)) fun p4 H4 e4 _ h4=>?_
     rw [cutV_to,←List.map_take] at h4
     have c2:=c.first g2 m2 y
     refine ⟨⟨p4,rfl,(eX.trans e23).trans e4,lo'+1,_,h4,_,c2⟩,?_⟩
     dsimp only
     rw [h4,hpX]
     show ((tab'.take _).map V.int).length<(tab'.map V.int).length
     rw [Z1,Z16,hlm]
     have:tab'.length / g.toNat<tab'.length:=Nat.div_lt_self (by lia) (by lia)
     lia
    ·rw [if_neg y]
     exact hN _ _ ⟨p,lo',tab',m',rfl,eX.trans e23,e23 _ _ hpX,c,fun _=>c.first_counts g2 y⟩
   ·rw [if_neg z]
    refine hN _ _ ⟨p,lo',tab',m',rfl,eX,hpX,c,fun m2=>?_⟩
    have:=pow_lt g2 (show 1<m' by lia)
    lia
  ·intro σ H1 Q1 Q2 hq
   walk_at "rd"
   rintro ⟨v,h1,p,e1,x,h2,v2,h3,x1,e3,hh⟩
   refine ⟨v,h1,p,e1,x,h2,v2,h3,x1,e3,?_⟩
   by_cases z:x1<(x.length:Int)
   ·rw [if_pos z] at hh ⊢
    obtain ⟨a1,b1,a2,b2,a3,b3,p4,b4,x4,b5,a6,b6,x7,b7,y1,y2,s1,s2,s3,s4,hh⟩:=hh
    refine ⟨a1,b1,a2,b2,a3,b3,p4,b4,x4,b5,a6,b6,x7,b7,y1,y2,s1,s2,s3,s4,fun q hq2=>?_⟩
    obtain ⟨a8,b8,l,k,xs,c1,c2,c3,c4,c5,c6,hh⟩:=hh q hq2
    refine ⟨a8,b8,l,k,xs,c1,c2,c3,c4,c5,c6,fun q2 hq3=>?_⟩
    obtain ⟨d1,d2,d3,d4,d5,d6,d7,d8,hh⟩:=hh q2 hq3
    exact ⟨d1,d2,d3,d4,d5,d6,d7,d8,hq _ _ hh⟩
   ·rw [if_neg z] at hh ⊢
    exact hq _ _ hh
 clear c0
 rintro σ HX ⟨p,lo',tab',m',rfl,eX,hpX,c,k0⟩
 have hsz:tab'.length≤256:=by have:=pow_mono g2 c.le;have:=c.len;lia
 refine hide fun N hN=>?_
 refine ⟨_,rfl,p,_,rfl,.inl (SqL.of hpX),_,rfl,by rw [Z1];lia,by rw [Z1];lia,fun D hD=>?_⟩
 rw [Z1]
 refine comp_range (n:=tab'.length) (fun i acc Hx=>acc=((List.range i).map fun k=>tab'.getD (k - k%g.toNat) 0).map V.int∧Same HX Hx∧Hx D=some (.lst acc)) ⟨rfl,Same.new hD _,upd_same⟩ ?_ ?_
 ·rintro i acc Hx hi ⟨rfl,ex,hDx⟩
  have ei:(0+(i:Int)) - (0+(i:Int))%g=((i - i%g.toNat:Nat):Int):=by
   have:=Nat.mod_le i g.toNat
   rw [Z8,Int.natCast_sub this,Z27,gn]
  walk_at "rd"
  rw [ei]
  refine ⟨by lia,p,_,_,_,rfl,rfl,SqL.of (ex _ _ hpX),getAt (by lia),hDx,?_,?_,ex.into hD,upd_same⟩
  ·rw [Z1,Z1,Z2]
   exact small1000 (by lia)
  ·rw [range_succ_map,Z3]
   rfl
 rintro acc H5 ⟨rfl,e5,h5⟩
 refine hN _ _ ?_
 clear hN N hsz
 refine cut (fun σ HX=>∃ (p:Addr) (x4:Option V) (lo':Int) (tab':List Int) (m':Nat),σ=[some (.ref r),some (.int g),some (.ref p),x4]∧Same H HX∧HX p=some (.lst (tab'.map V.int))∧CutW g lo tab m lo' tab' m'∧(2≤m'→cntB g tab' (g^(m' - 1))=true∧cntB g tab' 1=true)) (fun N hN=>?_) ?_
 ·refine while_by (fun σ HX=>∃ (p q:Addr) (lo':Int) (tab':List Int) (m':Nat),σ=[some (.ref r),some (.int g),some (.ref p),some (.ref q)]∧Same H HX∧HX p=some (.lst (tab'.map V.int))∧HX q=some (.lst (((List.range tab'.length).map fun k=>tab'.getD (k - k%g.toNat) 0).map V.int))∧CutW g lo tab m lo' tab' m'∧(2≤m'→cntB g tab' (g^(m' - 1))=true))
   (fun (σ:St) (HX:Hp)=>match σ[2]? with | some (some (V.ref d))=>(match HX d with | some (.lst xs)=>xs.length | _=>0) | _=>0) ⟨p,_,lo',tab',m',rfl,eX.trans e5,e5 _ _ hpX,h5,c,k0⟩ ?_ ?_
  ·clear k0 c h5 e5 hpX eX
   rintro σ HX ⟨p,q',lo',tab',m',rfl,eX,hpX,hqX,c,k0⟩
   have hh:=c.half g2
   have cl:=c.len
   have g1:g^1=g:=by rw [Z7,Z13,Z23]
   have hlm:(tab'.map V.int).length=tab'.length:=List.length_map ..
   have hsz:tab'.length≤256:=by have:=pow_mono g2 c.le;lia
   walk_at "rd"
   refine ⟨_,.inl (SqL.of hpX),?_⟩
   by_cases z:g<(((tab'.map V.int).length:Nat):Int)
   ·rw [if_pos z]
    have m2:2≤m':=by
     have m1:=c.m1
     by_cases y:m'=1
     ·subst y;lia
     ·lia
    refine ⟨tab',SqL.of hpX,_,SqL.of hqX,?_⟩
    by_cases y:tab'=(List.range tab'.length).map fun k=>tab'.getD (k - k%g.toNat) 0
    ·rw [if_pos y]
     have c2:=c.last g2 m2 y
     have s2:2≤m' - 1→_:=fun m3=>c.stays g2 (by lia) y (k0 m2)
     have hpos:1≤tab'.length / g.toNat:=by
      have:=RW.pow_pos g2 (m' - 1)
      lia
     refine ⟨_,rfl,p,rfl,_,.inl (SqL.of hpX),_,rfl,0,_,g,rfl,⟨by decide,by decide,by lia,by lia,by lia,by lia⟩,fun D hD=>?_⟩
     rw [hlm,rsz_cut g2 hh.2 hpos]
     have hle:tab'.length / g.toNat≤tab'.length:=Nat.div_le_self ..
     refine comp_rangeS (lo:=0) (c:=g) (n:=tab'.length / g.toNat) (fun i acc Hx=>acc=((List.range i).map fun k=>tab'.getD (k*g.toNat) 0).map V.int∧Same HX Hx∧Hx D=some (.lst acc)) ⟨rfl,Same.new hD _,upd_same⟩ ?_ ?_
     ·rintro i acc Hx hi ⟨rfl,ex,hDx⟩
      have ei:0+(i:Int)*g=((i*g.toNat:Nat):Int):=by rw [Z8,Z12,gn]
      have il:i*g.toNat<tab'.length:=by
       have:=Nat.mul_lt_mul_of_pos_right hi (show 0<g.toNat by lia)
       lia
      walk_at "rd"
      rw [ei]
      refine ⟨p,_,_,_,rfl,rfl,SqL.of (ex _ _ hpX),getAt il,hDx,?_,?_,ex.into hD,upd_same⟩
      ·rw [Z1,Z1,Z2]
       exact small1000 (by lia)
      ·rw [range_succ_map,Z3]
       rfl
     rintro acc H6 ⟨rfl,e6,h6⟩
     have ll:((List.range (tab'.length / g.toNat)).map fun k=>tab'.getD (k*g.toNat) 0).length<tab'.length:=by
      rw [Z1,Z2]
      exact Nat.div_lt_self (by lia) (by lia)
     obtain ⟨T2,hT2⟩:∃ T2,T2=(List.range (tab'.length / g.toNat)).map fun k=>tab'.getD (k*g.toNat) 0:=⟨_,rfl⟩
     rw [←hT2] at h6 c2 s2 ll
     refine ⟨_,rfl,D,rfl,_,.inl (SqL.of h6),_,rfl,by rw [Z1];lia,by rw [Z1];lia,fun D2 hD2=>?_⟩
     rw [Z1]
     refine comp_range (n:=T2.length) (fun i acc Hx=>acc=((List.range i).map fun k=>T2.getD (k - k%g.toNat) 0).map V.int∧Same H6 Hx∧Hx D2=some (.lst acc)) ⟨rfl,Same.new hD2 _,upd_same⟩ ?_ ?_
     ·rintro i acc Hx hi ⟨rfl,ex,hDx⟩
      have ei:(0+(i:Int)) - (0+(i:Int))%g=((i - i%g.toNat:Nat):Int):=by
       have:=Nat.mod_le i g.toNat
       rw [Z8,Int.natCast_sub this,Z27,gn]
      walk_at "rd"
      rw [ei]
      refine ⟨by lia,D,_,_,_,rfl,rfl,SqL.of (ex _ _ h6),getAt (by lia),hDx,?_,?_,ex.into hD2,upd_same⟩
      ·rw [Z1,Z1,Z2]
       exact small1000 (by lia)
      ·rw [range_succ_map,Z3]
       rfl
     rintro acc H7 ⟨rfl,e7,h7⟩
     refine ⟨⟨D,rfl,D2,rfl,(eX.trans e6).trans e7,lo',T2,e7 _ _ h6,h7,_,c2,s2⟩,?_⟩
     dsimp only
     rw [e7 _ _ h6,hpX]
     show (T2.map V.int).length<(tab'.map V.int).length
     rw [Z1,hlm]
     exact ll
    ·rw [if_neg y]
     exact hN _ _ ⟨p,_,lo',tab',m',rfl,eX,hpX,c,fun _=>⟨k0 m2,c.last_counts g2 y⟩⟩
   ·rw [if_neg z]
    refine hN _ _ ⟨p,_,lo',tab',m',rfl,eX,hpX,c,fun m2=>?_⟩
    have:=pow_lt g2 (show 1<m' by lia)
    lia
  ·intro σ H1 Q1 Q2 hq
   walk_at "rd"
   rintro ⟨v,h1,p,e1,x,h2,v2,h3,x1,e3,hh⟩
   refine ⟨v,h1,p,e1,x,h2,v2,h3,x1,e3,?_⟩
   by_cases z:x1<(x.length:Int)
   ·rw [if_pos z] at hh ⊢
    obtain ⟨a1,b1,a2,b2,a3,b3,a4,b4,a5,b5,a6,b6,hh⟩:=hh
    exact ⟨a1,b1,a2,b2,a3,b3,a4,b4,a5,b5,a6,b6,hq _ _ hh⟩
   ·rw [if_neg z] at hh ⊢
    exact hq _ _ hh
 clear k0 c h5 e5 hpX eX
 rintro σ HX ⟨p,x4,lo',tab',m',rfl,eX,hpX,c,k0⟩
 refine cut (fun σ HX=>∃ (p:Addr) (x4:Option V) (lf:Int) (tf:List Int) (mf:Nat),σ=[some (.ref r),some (.int g),some (.ref p),x4]∧Same H HX∧HX p=some (.lst (tf.map V.int))∧FrameW g lo tab m lf tf mf∧(tf.length:Int)=g^mf∧mf≤8) (fun N hN=>?_) ?_
 ·have cl:=c.len
  have g1:g^1=g:=by rw [Z7,Z13,Z23]
  have hlm:(tab'.map V.int).length=tab'.length:=List.length_map ..
  walk_at "rd"
  refine ⟨_,.inl (SqL.of hpX),?_⟩
  rw [hlm]
  by_cases z:(tab'.length:Int)=g
  ·rw [if_pos z]
   have mf1:m'=1:=pow_inj g2 (by rw [g1,←cl];exact z)
   have ggn:g*g=((g.toNat*g.toNat:Nat):Int):=by rw [Z12,gn]
   have gg0:0≤g*g:=Int.mul_nonneg (by lia) (by lia)
   have gg1:g*g≤9*9:=Int.mul_le_mul g9 g9 (by lia) (by lia)
   refine ⟨_,rfl,_,rfl,_,_,rfl,rfl,.inr ⟨by lia,by lia⟩,_,rfl,by lia,by lia,fun D hD=>?_⟩
   rw [show (g*g).toNat=g.toNat*g.toNat by rw [ggn,Z5]]
   refine comp_range (n:=g.toNat*g.toNat) (fun i acc Hx=>acc=((List.range i).map fun k=>tab'.getD (k / g.toNat) 0).map V.int∧Same HX Hx∧Hx D=some (.lst acc)) ⟨rfl,Same.new hD _,upd_same⟩ ?_ ?_
   ·rintro i acc Hx hi ⟨rfl,ex,hDx⟩
    have ei:(0+(i:Int)) / g=((i / g.toNat:Nat):Int):=by rw [Z8,Z18,gn]
    have il:i / g.toNat<tab'.length:=by
     have:=Nat.div_lt_of_lt_mul hi
     lia
    walk_at "rd"
    rw [ei]
    refine ⟨by lia,by lia,p,_,_,_,rfl,rfl,SqL.of (ex _ _ hpX),getAt il,hDx,?_,?_,ex.into hD,upd_same⟩
    ·rw [Z1,Z1,Z2]
     exact small1000 (by lia)
    ·rw [range_succ_map,Z3]
     rfl
   rintro acc H7 ⟨rfl,e7,h7⟩
   obtain ⟨x,hx0,hx1⟩:∃ x:Int,(tab'=List.replicate g.toNat (tab'.getD 0 0)→x=0)∧(¬ tab'=List.replicate g.toNat (tab'.getD 0 0)→x=lo'):=by
    by_cases y:tab'=List.replicate g.toNat (tab'.getD 0 0)
    ·exact ⟨0,fun _=>rfl,fun ne=>absurd y ne⟩
    ·exact ⟨lo',fun e=>absurd e y,fun _=>rfl⟩
   exact hN _ _ ⟨D,x4,x,_,2,rfl,eX.trans e7,h7,c.frame1 g2 hl mf1 x hx0 hx1,by rw [Z1,Z2,←ggn,show (2:Nat)=1+1 from rfl,Z7,g1],by decide⟩
  ·rw [if_neg z]
   have m2:2≤m':=by
    have m1:=c.m1
    by_cases y:m'=1
    ·subst y;lia
    ·lia
   exact hN _ _ ⟨p,x4,lo',tab',m',rfl,eX,hpX,c.frame g2 hl m2 (k0 m2).1 (k0 m2).2,cl,Nat.le_trans c.le m8⟩
 rintro σ H8 ⟨p',x4',lf,tf,mf,rfl,e8,h8,fw,tl,mf8⟩
 walk_at "rd"
 exact q p' lf tf mf _ e8 fw h8 tl mf8
theorem sc_32:FnScope ["_law_row","_law_many","_law_number"] ["_law_row","_law_many"] (defScope s_32):=⟨rfl,rfl,rfl,by decide +kernel,rfl,by decide +kernel,by decide +kernel⟩
theorem ok_32 (T:Txt K mg t) (G_25:Has P w K mg base 1 t.f_25 ["_law_found"] (spWhole)):Has P w K mg base 2 t.f_32 ["_law_row","_law_many"] (spList65):=by
 refine has_mk0 T.d_32 sc_32 (fun _ _ _ _ _ _ us hl=>match us,hl with | [_,_],_=>rfl) (fun vs H Q E h=>?_) (fun cdv A outer s H vs Q E hr h=>?_)
 ·obtain ⟨p,ns,n,rfl,hp,hl,q⟩:=h
  rfl
 obtain ⟨p,ns,n,rfl,hp,hl,q⟩:=h
 refine ⟨_,(pss_cons (ps_if (PW.pt (pw_or (pt_not (pt_val (pe_isi rfl T.z_isinstance (pv 0) (pe_ty rfl T.z_list PyProof.Rows.boot_list)))) (pw_or1 (pt_cmpR op_ne (pe_callB call_len_seq rfl T.z_len PySem.boot_len (pa_cons (pv 0) pa_nil)) (pv 1) (nomark _))))) (pss_one (ps_ret pe_bl)) pss_nil)
  (pss_cons (ps_for PassesOwn.never rfl (pi_list (pv 0)) (pg_name (i:=2) sc_32.nd rfl (Or.inl rfl)) (pss_one (ps_if (pt_not (pt_val (pe_callH G_25 (hr.mono (by decide)) rfl T.m_25 passF (pa_cons (pv 2) pa_nil)))) (pss_one (ps_ret pe_bl)) pss_nil)))
  (pss_one (ps_ret pe_bl)))),?_⟩
 refine cut (fun σ HX=>σ=[some (.ref p),some (.int n),none]∧HX=H) (fun N hN=>?_) ?_
 ·walk_at "rd"
  refine ⟨_,.of (.lst hp),_,ki_ll,?_⟩
  rw [if_neg (by decide)]
  refine ⟨_,.inl (SqL.of hp),?_⟩
  rw [Z1,if_neg (fun z=>z hl)]
  exact hN _ _ ⟨rfl,rfl⟩
 rintro σ HX ⟨rfl,rfl⟩
 refine cut (fun σ HY=>(∃ x,σ=[some (.ref p),some (.int n),x])∧HY=HX) (fun N hN=>?_) ?_
 ·refine ⟨_,rfl,p,rfl,⟨_,SqL.of hp⟩,?_⟩
  refine for_list (xs:=ns.map V.int) (fun i σ HY=>(∃ x,σ=[some (.ref p),some (.int n),x])∧HY=HX) ⟨⟨_,rfl⟩,rfl⟩ (fun i σ HY _ z=>by rw [z.2];exact SqL.of hp) ?_ fun σ HY z=>hN _ _ z
  rintro i x σ HY hx ⟨⟨y,rfl⟩,rfl⟩
  obtain ⟨v,hv,rfl⟩:=getInt hx
  walk_at "rd"
  refine ⟨.int _,rfl,True.intro,true,rfl,?_⟩
  rw [if_neg (by decide)]
  exact ⟨⟨_,rfl⟩,rfl⟩
 rintro σ HY ⟨⟨x,rfl⟩,rfl⟩
 walk_at "rd"
 exact q
theorem sc_31:FnScope ["_law_row","_law_k"] ["_law_row"] (defScope s_31):=⟨rfl,rfl,rfl,by decide +kernel,rfl,by decide +kernel,by decide +kernel⟩
theorem ok_31 (T:Txt K mg t) :Has P w K mg base 1 t.f_31 ["_law_row"] (spHead65):=by
 refine has_mk0 T.d_31 sc_31 (fun _ _ _ _ _ _ us hl=>match us,hl with | [_],_=>rfl) (fun vs H Q E h=>?_) (fun cdv A outer s H vs Q E hr h=>?_)
 ·obtain ⟨p,ns,k,rfl,hp,hl,hk,hlo,q⟩:=h
  rfl
 obtain ⟨p,ns,k,rfl,hp,hl,hk,hlo,q⟩:=h
 refine ⟨_,(pss_cons (ps_for PassesOwn.never rfl (pi_range1 rfl T.z_range (pa_cons (pe_callB call_len_seq rfl T.z_len PySem.boot_len (pa_cons (pv 0) pa_nil)) pa_nil)) (pg_name (i:=1) sc_31.nd rfl (Or.inl rfl)) (pss_one (ps_if (pt_cmpR op_ne (pe_ix ix_list (pv 0) (pv 1) (fun _ _=>rfl)) pe_int (nomark _)) (pss_one (ps_ret (pv 1))) pss_nil)))
  (pss_one (ps_ret (pe_un un_neg pe_int)))),?_⟩
 have kl:k<ns.length:=by
  refine Nat.lt_of_not_le fun w=>hk ?_
  rw [Z0,List.getElem?_eq_none w]
  rfl
 refine cut (fun σ HX=>False) (fun N hN=>?_) ?_
 ·refine ⟨_,rfl,p,_,rfl,.inl (SqL.of hp),_,rfl,by rw [Z1];lia,by rw [Z1];lia,?_⟩
  rw [Z1,Z5]
  refine for_range (n:=ns.length) (fun i σ HX=>(∃ x,σ=[some (.ref p),x])∧HX=H∧i≤k) ⟨⟨_,rfl⟩,rfl,Nat.zero_le _⟩ ?_ ?_
  ·rintro i σ HX hi ⟨⟨x,rfl⟩,rfl,ik⟩
   walk_at "rd"
   rw [Z8]
   refine ⟨p,_,_,_,rfl,rfl,SqL.of hp,getAt hi,?_⟩
   refine ⟨rfl,?_⟩
   by_cases y:i=k
   ·subst y
    rw [if_pos (fun z=>hk (V.int.inj z))]
    exact q
   ·rw [hlo i (by lia),if_neg (fun z=>z rfl)]
    exact ⟨⟨_,rfl⟩,rfl,by lia⟩
  ·rintro σ HX ⟨⟨x,rfl⟩,rfl,ik⟩
   lia
 rintro σ HX fal
 exact fal.elim
theorem sc_13:FnScope ["_law_row","_law_here","_law_number","_law_there","_law_rest"] ["_law_row"] (defScope s_13):=⟨rfl,rfl,rfl,by decide +kernel,rfl,by decide +kernel,by decide +kernel⟩
theorem ok_13 (T:Txt K mg t) :Has P w K mg base 1 t.f_13 ["_law_row"] (spSimple65):=by
 refine has_mk0 T.d_13 sc_13 (fun _ _ _ _ _ _ us hl=>match us,hl with | [_],_=>rfl) (fun vs H Q E h=>?_) (fun cdv A outer s H vs Q E hr h=>?_)
 ·obtain ⟨a,ns,rfl,ha,g1,q⟩:=h
  rfl
 obtain ⟨a,ns,rfl,ha,g1,q⟩:=h
 refine ⟨_,(pss_cons (ps_set (i:=1) sc_13.nd rfl (Or.inl rfl) pe_int)
  (pss_cons (ps_for PassesOwn.never rfl (pi_list (pv 0)) (pg_name (i:=2) sc_13.nd rfl (Or.inl rfl)) (pss_cons (ps_set (i:=3) sc_13.nd rfl (Or.inl rfl) (pe_callB call_abs_of rfl T.z_abs PyProof.Rows.boot_abs (pa_cons (pv 2) pa_nil)))
  (pss_one (ps_while PassesOwn.never (pt_cmpR op_ne (pv 3) pe_int (nomark _)) (pss_cons (ps_set (i:=4) sc_13.nd rfl (Or.inl rfl) (pe_op op_mod (pv 1) (pv 3)))
  (pss_cons (ps_set (i:=1) sc_13.nd rfl (Or.inl rfl) (pv 3))
  (pss_one (ps_set (i:=3) sc_13.nd rfl (Or.inl rfl) (pv 4)))))))))
  (pss_one (ps_ret (pe_cmpR op_eq (pv 1) pe_int (nomark _)))))),?_⟩
 refine hide fun N hN=>?_
 walk_at "rd"
 refine hN _ _ ?_
 clear hN N
 refine cut (fun σ HX=>(∃ x2 x3 x4,σ=[some (.ref a),some (.int ((gcdL ns:Nat):Int)),x2,x3,x4])∧HX=H) (fun N hN=>?_) ?_
 ·refine ⟨_,rfl,a,rfl,⟨_,SqL.of ha⟩,?_⟩
  refine for_list (xs:=ns.map V.int) (fun i σ HX=>(∃ x2 x3 x4,σ=[some (.ref a),some (.int ((gcdL (ns.take i):Nat):Int)),x2,x3,x4])∧HX=H) ⟨⟨none,none,none,rfl⟩,rfl⟩ (fun i σ HX _ z=>by rw [z.2];exact SqL.of ha) ?_ ?_
  ·rintro i x σ HX hx ⟨⟨x2,x3,x4,rfl⟩,rfl⟩
   obtain ⟨v,hv,rfl⟩:=getInt hx
   refine hide fun N2 hN2=>?_
   walk_at "rd"
   refine hN2 _ _ ?_
   clear hN2 N2
   have av:(if v<0 then -v else v)=((v.natAbs:Nat):Int):=by split <;> lia
   rw [av]
   have gt:gcdL (ns.take (i+1))=Nat.gcd (gcdL (ns.take i)) v.natAbs:=by
    unfold gcdL
    rw [Z22,hv]
    show (ns.take i++[v]).foldl _ 0=_
    rw [List.foldl_append]
    rfl
   refine while_by (fun σ HY=>∃ (x y:Nat) (x4:Option V),σ=[some (.ref a),some (.int ((x:Nat):Int)),some (.int v),some (.int ((y:Nat):Int)),x4]∧HY=HX∧Nat.gcd x y=gcdL (ns.take (i+1)))
    (fun (σ:St) (HY:Hp)=>match σ[3]? with | some (some (V.int x))=>x.toNat | _=>0) ⟨_,_,x4,rfl,rfl,gt.symm⟩ ?_ ?_
   ·rintro σ HY ⟨x,y,x4,rfl,rfl,gxy⟩
    walk_at "rd"
    by_cases z:(y:Int)=0
    ·rw [if_neg (fun w=>w z)]
     have y0:y=0:=by lia
     subst y0
     rw [Nat.gcd_zero_right] at gxy
     exact ⟨by rw [gxy],_,rfl⟩
    ·rw [if_pos z]
     have m0:(x:Int)%(y:Int)=((x%y:Nat):Int):=(Int.natCast_emod ..).symm
     have ml:=Nat.mod_lt x (show 0<y by lia)
     rw [m0]
     refine ⟨by lia,⟨y,rfl,x%y,rfl,?_⟩,by lia⟩
     rw [←gxy,Nat.gcd_comm x y,Nat.gcd_rec y x,Nat.gcd_comm]
   ·intro σ HZ Q1 Q2 hq
    walk_at "rd"
    rintro ⟨v,h1,hm,hh⟩
    exact ⟨v,h1,hm,hq _ _ hh⟩
  ·rintro σ HX ⟨⟨x2,x3,x4,rfl⟩,rfl⟩
   rw [Z1,Z14]
   exact hN _ _ ⟨⟨_,_,_,rfl⟩,rfl⟩
 rintro σ HX ⟨⟨x2,x3,x4,rfl⟩,rfl⟩
 walk_at "rd"
 rw [g1]
 exact q
theorem sc_21:FnScope ["_law_found","_law_signs","_law_row","_law_heads_here","_law_k","_law_j"] ["_law_found","_law_signs"] (defScope s_21):=⟨rfl,rfl,rfl,by decide +kernel,rfl,by decide +kernel,by decide +kernel⟩
theorem ok_21 (T:Txt K mg t) (G_31:Has P w K mg base 1 t.f_31 ["_law_row"] (spHead65)) (G_32:Has P w K mg base 2 t.f_32 ["_law_row","_law_many"] (spList65)) (G_13:Has P w K mg base 1 t.f_13 ["_law_row"] (spSimple65)):Has P w K mg base 3 t.f_21 ["_law_found","_law_signs"] (spHeads65):=by
 refine has_mk0 T.d_21 sc_21 (fun _ _ _ _ _ _ us hl=>match us,hl with | [_,_],_=>rfl) (fun vs H Q E h=>?_) (fun cdv A outer s H vs Q E hr h=>?_)
 ·obtain ⟨pf,ps,G,Rs,fs,rfl,vF,rok,G9,q⟩:=h
  rfl
 obtain ⟨pf,ps,G,Rs,fs,rfl,vF,rok,G9,q⟩:=h
 refine ⟨_,(pss_cons (ps_for PassesOwn.never rfl (pi_list (pv 0)) (pg_name (i:=2) sc_21.nd rfl (Or.inl rfl)) (pss_cons (ps_if (PW.pt (pw_or (pt_not (pt_val (pe_callH G_32 (hr.mono (by decide)) rfl T.m_32 passF (pa_cons (pv 2) (pa_cons (pv 1) pa_nil))))) (pw_or1 (pt_cmpR op_lt (pe_callH G_31 (hr.mono (by decide)) rfl T.m_31 passF (pa_cons (pv 2) pa_nil)) pe_int (nomark _))))) (pss_one (ps_ret pe_bl)) pss_nil)
  (pss_one (ps_if (PW.pt (pw_or (pt_cmpR op_lt (pe_ix ix_list (pv 2) (pe_callH G_31 (hr.mono (by decide)) rfl T.m_31 passF (pa_cons (pv 2) pa_nil)) (fun _ _=>rfl)) pe_int (nomark _)) (pw_or1 (pt_not (pt_val (pe_callH G_13 (hr.mono (by decide)) rfl T.m_13 passF (pa_cons (pv 2) pa_nil))))))) (pss_one (ps_ret pe_bl)) pss_nil))))
  (pss_cons (ps_comp (iy:=3) (fv:=[]) (cl:=[]) rfl sc_21.nd rfl (Or.inl rfl) (pi_list (pv 0)) (by with_unfolding_all rfl) (by with_unfolding_all rfl) (by decide +kernel) rfl (by decide +kernel) rfl trivial (by with_unfolding_all rfl) trivial (by decide) (fun _ _ _ _=>pf_nil) (fun _ _ _ _=>(pe_callH G_31 (hr.mono (by decide)) rfl T.m_31 passF (pa_cons (pv 0) pa_nil))))
  (pss_cons (ps_for PassesOwn.never rfl (pi_range1 rfl T.z_range (pa_cons (pe_callB call_len_seq rfl T.z_len PySem.boot_len (pa_cons (pv 0) pa_nil)) pa_nil)) (pg_name (i:=4) sc_21.nd rfl (Or.inl rfl)) (pss_cons (ps_if (PW.pt (pw_and (pt_cmpR op_gt (pv 4) pe_int (nomark _)) (pw_and1 (pt_cmpR op_ge (pe_ix ix_list (pv 3) (pe_op op_sub (pv 4) pe_int) (fun _ _=>rfl)) (pe_ix ix_list (pv 3) (pv 4) (fun _ _=>rfl)) (nomark _))))) (pss_one (ps_ret pe_bl)) pss_nil)
  (pss_one (ps_for PassesOwn.never rfl (pi_range1 rfl T.z_range (pa_cons (pe_callB call_len_seq rfl T.z_len PySem.boot_len (pa_cons (pv 0) pa_nil)) pa_nil)) (pg_name (i:=5) sc_21.nd rfl (Or.inl rfl)) (pss_one (ps_if (PW.pt (pw_and (pt_cmpR op_ne (pv 5) (pv 4) (nomark _)) (pw_and1 (pt_cmpR op_ne (pe_ix ix_list (pe_ix ix_list (pv 0) (pv 5) (fun _ _=>rfl)) (pe_ix ix_list (pv 3) (pv 4) (fun _ _=>rfl)) (fun _ _=>rfl)) pe_int (nomark _))))) (pss_one (ps_ret pe_bl)) pss_nil))))))
  (pss_one (ps_ret pe_bl))))),?_⟩
 obtain ⟨hs,hhs⟩:∃ hs,hs=hdsL fs G:=⟨_,rfl⟩
 obtain ⟨found,hfd⟩:∃ found,found=keptL G Rs fs G:=⟨_,rfl⟩
 have fe:found=hs.map (headW G Rs fs):=by rw [hfd,kept_hds,hhs]
 rw [←hfd] at vF
 have fl:found.length=hs.length:=by rw [fe,Z1]
 have hsl:hs.length≤9:=by
  have:=hds_len rok
  rw [←hhs] at this
  lia
 have psl:ps.length=hs.length:=by rw [vF.n,fl]
 have hm:∀ k,k<hs.length→hs.getD k 0<G∧¬ hs.getD k 0∈fs:=fun k hk=>by
  have:hs.getD k 0∈hs:=by
   rw [Z0,List.getElem?_eq_getElem hk]
   exact List.getElem_mem _
  rw [hhs] at this ⊢
  exact hds_mem.mp this
 have fat:∀ k,k<hs.length→found.getD k []=headW G Rs fs (hs.getD k 0):=fun k hk=>by
  rw [fe,Z0,Z6,List.getElem?_eq_getElem hk,Z0,List.getElem?_eq_getElem hk]
  rfl
 have hinj:∀ j k,j<hs.length→k<hs.length→j<k→hs.getD j 0<hs.getD k 0:=fun j k hj hk jk=>by
  have:=List.pairwise_iff_getElem.mp (hds_rise fs G) j k (by rw [←hhs];exact hj) (by rw [←hhs];exact hk) jk
  rw [Z0,List.getElem?_eq_getElem hj,Z0,List.getElem?_eq_getElem hk]
  subst hhs
  exact this
 refine cut (fun σ HX=>(∃ x2,σ=[some (.ref pf),some (.int ((G:Nat):Int)),x2,none,none,none])∧Same H HX) (fun N hN=>?_) ?_
 ·refine ⟨_,rfl,pf,rfl,⟨_,SqL.of vF.l⟩,?_⟩
  refine for_list (xs:=ps.map V.ref) (fun i σ HX=>(∃ x2,σ=[some (.ref pf),some (.int ((G:Nat):Int)),x2,none,none,none])∧Same H HX) ⟨⟨none,rfl⟩,Same.refl _⟩ (fun i σ HX _ z=>SqL.of (z.2 _ _ vF.l)) ?_ fun σ HX z=>hN _ _ z
  rintro i y σ HX hy ⟨⟨x2,rfl⟩,eX⟩
  obtain ⟨o,rfl,ho1,il,ho2,hoH⟩:=vF.at hy
  rw [fl] at il
  rw [fat i il] at hoH
  obtain ⟨hl,hnf⟩:=hm i il
  have wl:=headW_len G Rs fs (hs.getD i 0)
  have h0:=headW_head rok hl
  have hlow:=fun j hj=>headW_low rok hnf (i:=j) hj
  have hg:=headW_gcd rok hl
  generalize headW G Rs fs (hs.getD i 0)=w at hoH wl h0 hlow hg
  have hoX:=eX _ _ hoH
  walk_at "rd"
  refine ⟨o,w,_,rfl,hoX,by rw [wl],true,rfl,?_⟩
  rw [if_neg (by decide)]
  refine ⟨o,w,hs.getD i 0,rfl,hoX,by lia,by lia,hlow,_,rfl,?_⟩
  rw [if_neg (by lia)]
  refine ⟨o,w,hs.getD i 0,rfl,hoX,by lia,by lia,hlow,?_⟩
  refine ⟨o,_,_,_,rfl,rfl,SqL.of hoX,getAt (by lia),_,rfl,?_⟩
  rw [if_neg (by lia)]
  refine ⟨o,w,rfl,hoX,hg,true,rfl,?_⟩
  rw [if_neg (by decide)]
  exact ⟨⟨_,rfl⟩,eX⟩
 rintro σ HX ⟨⟨x2,rfl⟩,eX⟩
 refine hide fun N hN=>?_
 refine ⟨_,rfl,pf,rfl,⟨_,SqL.of (eX _ _ vF.l)⟩,fun D hD=>?_⟩
 have vX:=vF.same eX
 refine comp_list (xs:=ps.map V.ref) (fun i acc Hx=>acc=((hs.take i).map fun k:Nat=>(k:Int)).map V.int∧Same HX Hx∧Hx D=some (.lst acc)) ⟨rfl,Same.new hD _,upd_same⟩ (fun i acc Hx _ z=>SqL.of (z.2.1 _ _ vX.l)) ?_ ?_
 ·rintro i x acc Hx hx ⟨rfl,ex,hDx⟩
  obtain ⟨o,rfl,ho1,il,ho2,hoH⟩:=vX.at hx
  rw [fl] at il
  rw [fat i il] at hoH
  obtain ⟨hl,hnf⟩:=hm i il
  have wl:=headW_len G Rs fs (hs.getD i 0)
  have h0:=headW_head rok hl
  have hlow:=fun j hj=>headW_low rok hnf (i:=j) hj
  generalize headW G Rs fs (hs.getD i 0)=w at hoH wl h0 hlow
  walk_at "rd"
  refine ⟨o,w,hs.getD i 0,rfl,ex _ _ hoH,by lia,by lia,hlow,hDx,?_,?_,ex.into hD,upd_same⟩
  ·rw [Z1,Z1,Z16]
   exact small1000 (by lia)
  ·have tk:hs.take (i+1)=hs.take i++[hs.getD i 0]:=by
    rw [Z22,List.getElem?_eq_getElem il,Z0,List.getElem?_eq_getElem il]
    rfl
   rw [tk,Z3,Z3]
   rfl
 rintro acc H2 ⟨rfl,e2,h2⟩
 rw [Z1,psl,Z14] at h2
 refine hN _ _ ?_
 clear hN N
 have e12:=eX.trans e2
 have hsl':(hs.map fun k:Nat=>(k:Int)).length=hs.length:=List.length_map ..
 have hat:∀ k,k<hs.length→(hs.map fun k:Nat=>(k:Int)).getD k 0=((hs.getD k 0:Nat):Int):=fun k hk=>by
  rw [Z0,Z6,List.getElem?_eq_getElem hk,Z0,List.getElem?_eq_getElem hk]
  rfl
 obtain ⟨hz,hhz⟩:∃ hz,hz=hs.map fun k:Nat=>(k:Int):=⟨_,rfl⟩
 rw [←hhz] at h2 hsl' hat
 refine cut (fun σ HY=>(∃ x4 x5,σ=[some (.ref pf),some (.int ((G:Nat):Int)),x2,some (.ref D),x4,x5])∧HY=H2) (fun N hN=>?_) ?_
 ·refine ⟨_,rfl,pf,_,rfl,.inl (SqL.of (e12 _ _ vF.l)),_,rfl,by rw [Z1];lia,by rw [Z1];lia,?_⟩
  rw [Z1,Z5,psl]
  refine for_range (n:=hs.length) (fun i σ HY=>(∃ x4 x5,σ=[some (.ref pf),some (.int ((G:Nat):Int)),x2,some (.ref D),x4,x5])∧HY=H2) ⟨⟨none,none,rfl⟩,rfl⟩ ?_ fun σ HY z=>hN _ _ z
  rintro k σ HY hk ⟨⟨x4,x5,rfl⟩,rfl⟩
  refine cut (fun σ HY'=>(∃ x5,σ=[some (.ref pf),some (.int ((G:Nat):Int)),x2,some (.ref D),some (.int ((k:Nat):Int)),x5])∧HY'=HY) (fun N2 hN2=>?_) ?_
  ·walk_at "rd"
   rw [Z8]
   by_cases y:0<(k:Int)
   ·rw [if_pos y]
    refine ⟨D,_,_,_,rfl,rfl,SqL.of h2,getAtZ (z:=(k:Int) - 1) (by lia) (by lia),D,_,_,_,rfl,rfl,SqL.of h2,getAt (by lia),_,rfl,_,rfl,?_⟩
    have lt:=hinj (k - 1) k (by lia) hk (by lia)
    rw [show ((k:Int) - 1).toNat=k - 1 by lia,hat (k - 1) (by lia),hat k hk,if_neg (by lia)]
    exact hN2 _ _ ⟨⟨_,rfl⟩,rfl⟩
   ·rw [if_neg y]
    exact hN2 _ _ ⟨⟨_,rfl⟩,rfl⟩
  rintro σ HY' ⟨⟨x5',rfl⟩,rfl⟩
  refine ⟨_,rfl,pf,_,rfl,.inl (SqL.of (e12 _ _ vF.l)),_,rfl,by rw [Z1];lia,by rw [Z1];lia,?_⟩
  rw [Z1,Z5,psl]
  refine for_range (n:=hs.length) (fun j σ HZ=>(∃ x5,σ=[some (.ref pf),some (.int ((G:Nat):Int)),x2,some (.ref D),some (.int ((k:Nat):Int)),x5])∧HZ=HY') ⟨⟨_,rfl⟩,rfl⟩ ?_ fun σ HZ z=>by obtain ⟨⟨x5,rfl⟩,rfl⟩:=z;exact ⟨⟨_,_,rfl⟩,rfl⟩
  rintro j σ HZ hj ⟨⟨x5,rfl⟩,rfl⟩
  have pj:ps[j]?=some (ps.getD j default):=by rw [Z0,List.getElem?_eq_getElem (by lia)];rfl
  have hoj:=vF.e j _ (found.getD j []) pj (by rw [Z0,List.getElem?_eq_getElem (by lia)];rfl)
  rw [fat j hj] at hoj
  have wl:=headW_len G Rs fs (hs.getD j 0)
  walk_at "rd"
  rw [Z8]
  by_cases y:(j:Int)=(k:Int)
  ·rw [if_neg (fun z=>z y)]
   exact ⟨_,rfl⟩
  ·rw [if_pos y]
   obtain ⟨hl,hnf⟩:=hm k hk
   refine ⟨pf,_,_,_,rfl,rfl,SqL.of (e12 _ _ vF.l),getRefAt pj,D,_,_,_,rfl,rfl,SqL.of h2,getAt (by lia),?_⟩
   rw [hat k hk]
   have ne:hs.getD k 0≠hs.getD j 0:=by
    rcases Nat.lt_trichotomy j k with z | z | z
    ·have:=hinj j k hj hk z
     lia
    ·lia
    ·have:=hinj k j hk hj z
     lia
   refine ⟨_,_,_,_,rfl,rfl,SqL.of (e12 _ _ hoj),getAt (by lia),rfl,?_⟩
   rw [headW_other rok ne hnf,if_neg (fun z=>z rfl)]
   exact ⟨⟨_,rfl⟩,rfl⟩
 rintro σ HY ⟨⟨x4,x5,rfl⟩,rfl⟩
 walk_at "rd"
 exact q _ e12
theorem sc_18:FnScope ["_law_one","_law_row","_law_table_here","_law_signs","_law_part","_law_found","_law_at","_law_gain_due"] ["_law_one","_law_row","_law_table_here"] (defScope s_18):=⟨rfl,rfl,rfl,by decide +kernel,rfl,by decide +kernel,by decide +kernel⟩
theorem ok_18 (T:Txt K mg t) (G_60:Has P w K mg base 10 t.f_60 ["one","weights"] (spFlowsN t.c_48 t.c_30)) (G_32:Has P w K mg base 2 t.f_32 ["_law_row","_law_many"] (spList65)):Has P w K mg base 11 t.f_18 ["_law_one","_law_row","_law_table_here"] (spFlows65):=by
 refine has_mk0 T.d_18 sc_18 (fun _ _ _ _ _ _ us hl=>match us,hl with | [_,_,_],_=>rfl) (fun vs H Q E h=>?_) (fun cdv A outer s H vs Q E hr h=>?_)
 ·obtain ⟨r,b,a,g,lo,tab,m,lf,tf,mf,ws,rfl,ok,fw,f9,mf8,hb,wl,ha,tfl,rt,q⟩:=h
  rfl
 obtain ⟨r,b,a,g,lo,tab,m,lf,tf,mf,ws,rfl,ok,fw,f9,mf8,hb,wl,ha,tfl,rt,q⟩:=h
 refine ⟨_,(pss_cons (ps_set (i:=3) sc_18.nd rfl (Or.inl rfl) (pe_ix ix_tup (pv 0) pe_int (fun _ _=>rfl)))
  (pss_cons (ps_set (i:=4) sc_18.nd rfl (Or.inl rfl) (pe_op op_fdiv (pe_callB call_len_seq rfl T.z_len PySem.boot_len (pa_cons (pv 2) pa_nil)) (pv 3)))
  (pss_cons (ps_set (i:=5) sc_18.nd rfl (Or.inl rfl) (pe_callH G_60 (hr.mono (by decide)) rfl T.m_60 passF (pa_cons (pv 0) (pa_cons (pe_callTy call_list_of rfl T.z_list PyProof.Rows.boot_list (pa_cons (pv 1) pa_nil)) pa_nil))))
  (pss_cons (ps_if (PW.pt (pw_or (pt_not (pt_val (pe_callH G_32 (hr.mono (by decide)) rfl T.m_32 passF (pa_cons (pv 5) (pa_cons (pv 4) pa_nil))))) (pw_or1 (pt_cmpR op_ne (pe_ix ix_list (pv 5) pe_int (fun _ _=>rfl)) pe_int (nomark _))))) (pss_one (ps_ret pe_bl)) pss_nil)
  (pss_cons (ps_for PassesOwn.never rfl (pi_range1 rfl T.z_range (pa_cons (pe_callB call_len_seq rfl T.z_len PySem.boot_len (pa_cons (pv 2) pa_nil)) pa_nil)) (pg_name (i:=6) sc_18.nd rfl (Or.inl rfl)) (pss_cons (ps_set (i:=7) sc_18.nd rfl (Or.inl rfl) (pe_op op_sub (pe_ix ix_list (pv 5) (pe_op op_fdiv (pv 6) (pv 3)) (fun _ _=>rfl)) (pe_ix ix_list (pv 5) (pe_op op_mod (pv 6) (pv 4)) (fun _ _=>rfl))))
  (pss_one (ps_if (pt_cmpR op_ne (pe_op op_sub (pe_ix ix_list (pv 1) (pe_ix ix_list (pv 2) (pv 6) (fun _ _=>rfl)) (fun _ _=>rfl)) (pe_ix ix_list (pv 1) (pe_op op_fdiv (pv 6) (pv 4)) (fun _ _=>rfl))) (pv 7) (nomark _)) (pss_one (ps_ret pe_bl)) pss_nil))))
  (pss_one (ps_ret pe_bl))))))),?_⟩
 obtain ⟨tb,h1,h2⟩:=id ok.v
 have g2:=ok.g2
 have g9:=ok.g9
 have mf2:=fw.two
 have wg:(ws.length:Int)=g^1:=by rw [wl,Z7,Z13,Z23];lia
 have s7:g^(mf - 1)*(ws.length:Int)≤729:=by
  have p:=RW.pow_pos g2 (mf - 1)
  have:=Int.mul_le_mul f9 (show (ws.length:Int)≤9 by lia) (by lia) (by decide)
  lia
 have gp:=RW.pow_pos g2 (mf - 1)
 have t81:(tf.length:Int)≤81:=by
  rw [tfl,show g^mf=g^(mf - 1)*g by rw [←Z7,show (mf - 1).succ=mf by lia]]
  exact Int.mul_le_mul f9 g9 (by lia) (by decide)
 have hpart:(tf.length:Int) / g=g^(mf - 1):=by
  rw [tfl,show mf=mf - 1+1 by lia,Z7,Int.mul_ediv_cancel _ (by lia),show mf - 1+1 - 1=mf - 1 by lia]
 refine hide fun N hN=>?_
 walk_at "rd"
 refine ⟨r,_,0,_,rfl,rfl,SqT.of h1,rfl,hN _ _ ?_⟩
 clear hN N
 refine hide fun N hN=>?_
 walk_at "rd"
 refine ⟨_,.inl (SqL.of ha),by lia,by lia,hN _ _ ?_⟩
 clear hN N
 rw [Z1,hpart]
 refine hide fun N hN=>?_
 walk_at "rd"
 refine ⟨_,.inl (SqL.of hb),fun l hl=>?_⟩
 have el:=Same.new hl (.lst (ws.map V.int))
 refine ⟨r,g,lo,tab,m,lf,tf,mf,.ref l,rfl,ok.same el,fw,ints_kd upd_same,.inr (.inr ⟨l,ws,1,f9,rfl,upd_same,wg,by decide,.inr ⟨s7,fun _ p H1 n1=>hN _ _ ?_,fun nr=>absurd rt nr⟩⟩)⟩
 clear hN N
 obtain ⟨fl,hfl⟩:∃ fl,fl=flowsL g.toNat (gainL g tf mf ws 1):=⟨_,rfl⟩
 rw [←hfl] at n1 rt
 have e1:=el.trans n1.1
 have p1:=n1.2.2
 have gsl:((gainL g tf mf ws 1).length:Int)=g^(mf - 1+1):=by
  rw [gainL_len,Z12,Int.toNat_of_nonneg (by lia),wg,←Int.pow_add]
 have fll:(fl.length:Int)=g^(mf - 1):=by rw [hfl];exact flows_pow g2 gsl
 have gst:(gainL g tf mf ws 1).length=tf.length:=by
  have:mf - 1+1=mf:=by lia
  rw [this] at gsl
  lia
 have f0:fl.getD 0 0=0:=by rw [hfl];exact flowL_zero ..
 refine forget (fun HX=>Same H HX∧HX p=some (.lst (fl.map V.int))) ⟨e1,p1⟩ ?_
 clear e1 p1 n1 el hl
 rintro H2 ⟨e2,hp⟩
 refine cut (fun σ HX=>σ=[some (.ref r),some (.ref b),some (.ref a),some (.int g),some (.int (g^(mf - 1))),some (.ref p),none,none]∧HX=H2) (fun N hN=>?_) ?_
 ·walk_at "rd"
  refine ⟨p,fl,_,rfl,hp,fll,true,rfl,?_⟩
  rw [if_neg (by decide)]
  refine ⟨p,_,0,_,rfl,rfl,SqL.of hp,getAtZ (z:=0) (by lia) (by show 0<fl.length;lia),rfl,?_⟩
  rw [show fl.getD (Int.toNat 0) 0=0 from f0,if_neg (fun z=>z rfl)]
  exact hN _ _ ⟨rfl,rfl⟩
 rintro σ HX ⟨rfl,rfl⟩
 have tfb:∀ n∈tf,0≤n∧n<g:=FrameW.lt g2 ok.tb fw
 refine cut (fun σ HY=>(∃ x6 x7,σ=[some (.ref r),some (.ref b),some (.ref a),some (.int g),some (.int (g^(mf - 1))),some (.ref p),x6,x7])∧HY=HX) (fun N hN=>?_) ?_
 ·refine ⟨_,rfl,a,_,rfl,.inl (SqL.of (e2 _ _ ha)),_,rfl,by rw [Z1];lia,by rw [Z1];lia,?_⟩
  rw [Z1,Z5]
  refine for_range (n:=tf.length) (fun i σ HY=>(∃ x6 x7,σ=[some (.ref r),some (.ref b),some (.ref a),some (.int g),some (.int (g^(mf - 1))),some (.ref p),x6,x7])∧HY=HX) ⟨⟨_,_,rfl⟩,rfl⟩ ?_ fun σ HY z=>hN _ _ z
  rintro i σ HY hi ⟨⟨x6,x7,rfl⟩,rfl⟩
  refine hide fun N2 hN2=>?_
  walk_at "rd"
  rw [Z8]
  have gn:((g.toNat:Nat):Int)=g:=by lia
  obtain ⟨P,hP⟩:∃ P:Nat,(P:Int)=g^(mf - 1):=⟨_,Int.toNat_of_nonneg (Int.le_of_lt gp)⟩
  have P0:0<P:=by lia
  have hP':(g^(mf - 1)).toNat=P:=by lia
  have tPg:tf.length=P*g.toNat:=by
   have:((P*g.toNat:Nat):Int)=g^mf:=by rw [Z12,hP,gn,←Z7,show (mf - 1).succ=mf by lia]
   lia
  have d1:(i:Int) / g=((i / g.toNat:Nat):Int):=by rw [Z18,gn]
  have d2:(i:Int)%g^(mf - 1)=((i%P:Nat):Int):=by rw [Z27,hP]
  have d3:(i:Int) / g^(mf - 1)=((i / P:Nat):Int):=by rw [Z18,hP]
  have i1:i / g.toNat<fl.length:=by
   have:=Nat.div_lt_of_lt_mul (m:=i) (n:=g.toNat) (k:=P) (by rw [Nat.mul_comm];lia)
   lia
  have i2:i%P<fl.length:=by
   have:=Nat.mod_lt i P0
   lia
  have i3:i / P<ws.length:=by
   have:=Nat.div_lt_of_lt_mul (m:=i) (n:=P) (k:=g.toNat) (by lia)
   lia
  have tb0:=tfb _ (by rw [Z0,List.getElem?_eq_getElem hi];exact List.getElem_mem _:tf.getD i 0∈tf)
  rw [d1,d2]
  refine ⟨by lia,by lia,p,_,_,_,rfl,rfl,SqL.of hp,getAt i1,by lia,p,_,_,_,rfl,rfl,SqL.of hp,getAt i2,_,rfl,_,rfl,hN2 _ _ ?_⟩
  clear hN2 N2
  have rr:=rt i (by lia)
  unfold wrongW at rr
  rw [gain_one g2 (by lia) tfl (by lia) hi,hP',show fl.length=P by lia] at rr
  walk_at "rd"
  rw [d3]
  refine ⟨a,_,_,_,rfl,rfl,SqL.of (e2 _ _ ha),getAt hi,b,_,_,_,rfl,rfl,SqL.of (e2 _ _ hb),getAtZ tb0.1 (by lia),gp,by lia,b,_,_,_,rfl,rfl,SqL.of (e2 _ _ hb),getAt i3,_,rfl,_,rfl,?_⟩
  rw [if_neg rr]
  exact ⟨⟨_,rfl⟩,rfl⟩
 rintro σ HY ⟨⟨x6,x7,rfl⟩,rfl⟩
 walk_at "rd"
 exact q _ e2
theorem sc_12:FnScope ["_law_ring","_law_signs","_law_table_here","_law_found","_law_k","_law_at","_law_by","_law_j"] ["_law_ring","_law_signs","_law_table_here"] (defScope s_12):=⟨rfl,rfl,rfl,by decide +kernel,rfl,by decide +kernel,by decide +kernel⟩
theorem ok_12 (T:Txt K mg t) :Has P w K mg base 1 t.f_12 ["_law_ring","_law_signs","_law_table_here"] (spChange65):=by
 refine has_mk0 T.d_12 sc_12 (fun _ _ _ _ _ _ us hl=>match us,hl with | [_,_,_],_=>rfl) (fun vs H Q E h=>?_) (fun cdv A outer s H vs Q E hr h=>?_)
 ·obtain ⟨pr,pt,g,tab,m,ring,rfl,g2,g9,ht,tl0,m8,tbb,ha,rb,n1,n8,q⟩:=h
  rfl
 obtain ⟨pr,pt,g,tab,m,ring,rfl,g2,g9,ht,tl0,m8,tbb,ha,rb,n1,n8,q⟩:=h
 refine ⟨_,(pss_cons (ps_set (i:=3) sc_12.nd rfl (Or.inl rfl) (pe_op op_rep (pe_lst (pa_consC pa_nil)) (pv 1)))
  (pss_cons (ps_for PassesOwn.never rfl (pi_range1 rfl T.z_range (pa_cons (pe_callB call_len_seq rfl T.z_len PySem.boot_len (pa_cons (pv 0) pa_nil)) pa_nil)) (pg_name (i:=4) sc_12.nd rfl (Or.inl rfl)) (pss_cons (ps_set (i:=5) sc_12.nd rfl (Or.inl rfl) pe_int)
  (pss_cons (ps_set (i:=6) sc_12.nd rfl (Or.inl rfl) (pe_callB call_len_seq rfl T.z_len PySem.boot_len (pa_cons (pv 2) pa_nil)))
  (pss_cons (ps_set (i:=7) sc_12.nd rfl (Or.inl rfl) (pv 4))
  (pss_cons (ps_while PassesOwn.never (pt_cmpR op_gt (pv 6) pe_int (nomark _)) (pss_cons (ps_set (i:=5) sc_12.nd rfl (Or.inl rfl) (pe_op op_add (pe_op op_mul (pv 5) (pv 1)) (pe_ix ix_list (pv 0) (pe_op op_mod (pv 7) (pe_callB call_len_seq rfl T.z_len PySem.boot_len (pa_cons (pv 0) pa_nil))) (fun _ _=>rfl))))
  (pss_cons (ps_set (i:=6) sc_12.nd rfl (Or.inl rfl) (pe_op op_fdiv (pv 6) (pv 1)))
  (pss_one (ps_set (i:=7) sc_12.nd rfl (Or.inl rfl) (pe_op op_add (pv 7) pe_int))))))
  (pss_cons (ps_asg (pe_op op_add (pe_ix ix_list (pv 3) (pe_ix ix_list (pv 2) (pv 5) (fun _ _=>rfl)) (fun _ _=>rfl)) pe_int) (pg_sub (pv 3) (pe_ix ix_list (pv 2) (pv 5) (fun _ _=>rfl)) set_list))
  (pss_one (ps_asg (pe_op op_sub (pe_ix ix_list (pv 3) (pe_ix ix_list (pv 0) (pv 4) (fun _ _=>rfl)) (fun _ _=>rfl)) pe_int) (pg_sub (pv 3) (pe_ix ix_list (pv 0) (pv 4) (fun _ _=>rfl)) set_list)))))))))
  (pss_one (ps_ret (pv 3))))),?_⟩
 obtain ⟨G,hG⟩:∃ G:Nat,(G:Int)=g:=⟨g.toNat,by lia⟩
 have hGn:g.toNat=G:=by lia
 refine hide fun N hN=>?_
 walk_at "rd"
 refine ⟨by decide,fun p1 hp1=>rep_new upd_same (by lia) (by lia) fun p2 H2 e2 f2 h2'=>hN _ _ ?_⟩
 clear hN N
 have n2:H p2=none:=by
  by_cases c:p2=p1
  ·rw [c,upd_same] at f2;cases f2
  ·rw [upd_ne c] at f2;exact f2
 have e12:=(Same.new hp1 (.lst [V.int 0])).trans e2
 have mz:List.replicate g.toNat (V.int 0)=(cntD G [] []).map V.int:=by
  unfold cntD
  rw [List.map_map,hGn]
  exact List.ext_getElem (by rw [Z9,Z1,Z2]) fun i a b=>by
   rw [List.getElem_replicate,List.getElem_map]
   rfl
 rw [mz] at h2'
 have rl:=ringL_len g 0 tab m ring
 have rlt:=ringL_lt g2 0 tbb m ring
 refine cut (fun σ HX=>(∃ x4 x5 x6 x7,σ=[some (.ref pr),some (.int g),some (.ref pt),some (.ref p2),x4,x5,x6,x7])∧Same H HX∧HX p2=some (.lst ((cntD G (ringL g 0 tab m ring) ring).map V.int))) (fun N hN=>?_) ?_
 ·refine ⟨_,rfl,pr,_,rfl,.inl (SqL.of (e12 _ _ ha)),_,rfl,by rw [Z1];lia,by rw [Z1];lia,?_⟩
  rw [Z1,Z5]
  refine for_range (n:=ring.length) (fun i σ HX=>(∃ x4 x5 x6 x7,σ=[some (.ref pr),some (.int g),some (.ref pt),some (.ref p2),x4,x5,x6,x7])∧Same H HX∧HX p2=some (.lst ((cntD G ((ringL g 0 tab m ring).take i) (ring.take i)).map V.int))) ⟨⟨_,_,_,_,rfl⟩,e12,h2'⟩ ?_ ?_
  ·rintro i σ HX hi ⟨⟨x4,x5,x6,x7,rfl⟩,eX,hX⟩
   refine hide fun N2 hN2=>?_
   walk_at "rd"
   refine hN2 _ _ ?_
   clear hN2 N2
   rw [Z8]
   refine hide fun N2 hN2=>?_
   walk_at "rd"
   refine ⟨_,.inl (SqL.of (eX _ _ ht)),hN2 _ _ ?_⟩
   clear hN2 N2
   rw [Z1,tl0]
   refine hide fun N2 hN2=>?_
   walk_at "rd"
   refine hN2 _ _ ?_
   clear hN2 N2
   have rA:∀ z:Int,0≤ringAt ring z∧ringAt ring z<g:=fun z=>by
    have:=ringW_lt g2 rb 1 z (ringAt ring z) (by rw [ringW_snoc];exact List.mem_append_right _ (by rw [show z+((0:Nat):Int)=z by lia];exact List.mem_singleton.mpr rfl))
    exact this
   refine cut (fun σ HY=>(∃ x6 x7,σ=[some (.ref pr),some (.int g),some (.ref pt),some (.ref p2),some (.int ((i:Nat):Int)),some (.int (num g (ringW ring m (i:Int)))),x6,x7])∧HY=HX) (fun N2 hN2=>?_) ?_
   ·refine while_by (fun σ HY=>∃ t:Nat,t≤m∧σ=[some (.ref pr),some (.int g),some (.ref pt),some (.ref p2),some (.int ((i:Nat):Int)),some (.int (num g (ringW ring t (i:Int)))),some (.int (g^(m - t))),some (.int ((i:Int)+(t:Int)))]∧HY=HX)
     (fun (σ:St) (HY:Hp)=>match σ[6]? with | some (some (V.int x))=>x.toNat | _=>0) ⟨0,Nat.zero_le _,by rw [Nat.sub_zero,show (i:Int)+((0:Nat):Int)=(i:Int) by lia];rfl,rfl⟩ ?_ ?_
    ·rintro σ HY ⟨t,tm,rfl,rfl⟩
     walk_at "rd"
     by_cases z:1<g^(m - t)
     ·rw [if_pos z]
      have tl:t<m:=by
       refine Nat.lt_of_not_le fun w=>?_
       rw [show m - t=0 by lia,Z13] at z
       lia
      have ps:g^(m - t) / g=g^(m - (t+1)):=by
       rw [show m - t=m - (t+1)+1 by lia,Z7,Int.mul_ediv_cancel _ (by lia)]
      have pp:=RW.pow_pos g2 (m - (t+1))
      have pq:g^(m - t)=g^(m - (t+1))*g:=by rw [show m - t=m - (t+1)+1 by lia,Z7]
      have p3:=Int.mul_le_mul_of_nonneg_left g2 (Int.le_of_lt pp)
      have l0:(0:Int)<(ring.length:Int):=by lia
      have k0:=Int.emod_nonneg ((i:Int)+(t:Int)) (show (ring.length:Int)≠0 by lia)
      have k1:=Int.emod_lt_of_pos ((i:Int)+(t:Int)) l0
      refine ⟨.inr ⟨by lia,by lia⟩,_,.inl (SqL.of (eX _ _ ha)),by rw [Z1];exact l0,?_⟩
      rw [Z1]
      refine ⟨pr,_,_,_,rfl,rfl,SqL.of (eX _ _ ha),getAtZ k0 (by lia),_,rfl,by lia,by lia,⟨t+1,by lia,?_,ps,by lia,rfl⟩,?_⟩
      ·rw [ringW_snoc,num_snoc]
       rfl
      ·rw [ps]
       lia
     ·rw [if_neg z]
      have tm':t=m:=by
       refine Nat.le_antisymm tm (Nat.le_of_not_lt fun w=>z ?_)
       have pp:=RW.pow_pos g2 (m - (t+1))
       have p3:=Int.mul_le_mul_of_nonneg_left g2 (Int.le_of_lt pp)
       rw [show m - t=m - (t+1)+1 by lia,Z7]
       lia
      subst tm'
      exact hN2 _ _ ⟨⟨_,_,rfl⟩,rfl⟩
    ·intro σ HZ Q1 Q2 hq
     walk_at "rd"
     rintro ⟨v,h1,i',e1,hh⟩
     exact ⟨v,h1,i',e1,hq _ _ hh⟩
   rintro σ HY ⟨⟨x6',x7',rfl⟩,rfl⟩
   have wl:=ringW_lt g2 rb m (i:Int)
   obtain ⟨w0,w1⟩:=num_lt g2 wl
   rw [ringW_len,←tl0] at w1
   have Rat:(ringL g 0 tab m ring)[i]?=some (tab.getD (num g (ringW ring m (i:Int))).toNat 0):=by
    unfold ringL
    rw [Z6,List.getElem?_range hi]
    show some (tab.getD (num g (ringW ring m ((i:Int)+0))).toNat 0)=_
    rw [Z20]
   have Tb:=rlt _ (List.mem_of_getElem? Rat)
   obtain ⟨τ,hτ⟩:∃ τ:Nat,(τ:Int)=tab.getD (num g (ringW ring m (i:Int))).toNat 0:=⟨_,Int.toNat_of_nonneg Tb.1⟩
   have Uat:ring[i]?=some (ring.getD i 0):=by rw [Z0,List.getElem?_eq_getElem hi];rfl
   have Ub:=rb _ (List.mem_of_getElem? Uat)
   obtain ⟨υ,hυ⟩:∃ υ:Nat,(υ:Int)=ring.getD i 0:=⟨_,Int.toNat_of_nonneg Ub.1⟩
   have τG:τ<G:=by lia
   have υG:υ<G:=by lia
   obtain ⟨A,hA⟩:∃ A,A=(ringL g 0 tab m ring).take i:=⟨_,rfl⟩
   obtain ⟨B,hB⟩:∃ B,B=ring.take i:=⟨_,rfl⟩
   have A1:(ringL g 0 tab m ring).take (i+1)=A++[(τ:Int)]:=by rw [Z22,Rat,←hτ,hA];rfl
   have B1:ring.take (i+1)=B++[(υ:Int)]:=by rw [Z22,Uat,←hυ,hB];rfl
   rw [←hA,←hB] at hX
   rw [A1,B1]
   have cl:=cntD_len G A B
   refine hide fun N2 hN2=>?_
   walk_at "rd"
   refine ⟨pt,_,_,_,rfl,rfl,SqL.of (eX _ _ ht),getAtZ w0 (by lia),?_⟩
   dsimp only
   rw [←hτ]
   refine ⟨p2,_,_,_,rfl,rfl,SqL.of hX,getAt (by lia),_,rfl,?_⟩
   refine ⟨_,rfl,_,rfl,_,rfl,pt,_,_,_,rfl,rfl,SqL.of (eX _ _ ht),getAtZ w0 (by lia),p2,_,((τ:Nat):Int),τ,rfl,(by rw [hτ]),hX,(by rw [Z1,cl];exact ixN_nat τG),hN2 _ _ ?_⟩
   clear hN2 N2
   rw [←List.map_set]
   obtain ⟨x,hx⟩:∃ x,x=(cntD G A B).getD τ 0+1:=⟨_,rfl⟩
   rw [←hx]
   obtain ⟨H3,hH3⟩:∃ H3,H3=upd HY p2 (.lst (((cntD G A B).set τ x).map V.int)):=⟨_,rfl⟩
   have e3:Same H H3:=by rw [hH3];exact eX.into n2
   have h3:H3 p2=some (.lst (((cntD G A B).set τ x).map V.int)):=by rw [hH3];exact upd_same
   rw [←hH3]
   clear hH3
   have cl2:((cntD G A B).set τ x).length=G:=by rw [Z11];exact cl
   walk_at "rd"
   refine ⟨pr,_,_,_,rfl,rfl,SqL.of (e3 _ _ ha),getAt hi,?_⟩
   dsimp only
   rw [←hυ]
   refine ⟨p2,_,_,_,rfl,rfl,SqL.of h3,getAt (by lia),_,rfl,?_⟩
   refine ⟨_,rfl,_,rfl,_,rfl,pr,_,_,_,rfl,rfl,SqL.of (e3 _ _ ha),getAt hi,p2,_,((υ:Nat):Int),υ,rfl,(by rw [hυ]),h3,(by rw [Z1,cl2];exact ixN_nat υG),⟨_,_,_,_,rfl⟩,e3.into n2,?_⟩
   rw [upd_same,←List.map_set,cntD_step A B τG υG hx rfl]
  ·rintro σ HX ⟨⟨x4,x5,x6,x7,rfl⟩,eX,hX⟩
   rw [←rl,Z14,rl,Z14] at hX
   exact hN _ _ ⟨⟨_,_,_,_,rfl⟩,eX,hX⟩
 rintro σ HX ⟨⟨x4,x5,x6,x7,rfl⟩,eX,hX⟩
 walk_at "rd"
 refine q p2 HX ⟨eX,n2,?_⟩
 rw [hX]
 unfold cntD chgL
 rw [hGn]
theorem sc_33:FnScope ["_law_rows","_law_signs","_law_rank_here","_law_column","_law_some","_law_top","_law_k","_law_by","_law_row"] ["_law_rows","_law_signs"] (defScope s_33):=⟨rfl,rfl,rfl,by decide +kernel,rfl,by decide +kernel,by decide +kernel⟩
theorem ok_33 (T:Txt K mg t) :Has P w K mg base 1 t.f_33 ["_law_rows","_law_signs"] (spRank65):=by
 refine has_mk0 T.d_33 sc_33 (fun _ _ _ _ _ _ us hl=>match us,hl with | [_,_],_=>rfl) (fun vs H Q E h=>?_) (fun cdv A outer s H vs Q E hr h=>?_)
 ·obtain ⟨p,ps,g,rows,rfl,g2,g9,vR,n9,hrw,ind,q⟩:=h
  rfl
 obtain ⟨p,ps,g,rows,rfl,g2,g9,vR,n9,hrw,ind,q⟩:=h
 refine ⟨_,(pss_cons (ps_set (i:=2) sc_33.nd rfl (Or.inl rfl) pe_int)
  (pss_cons (ps_for PassesOwn.never rfl (pi_range1 rfl T.z_range (pa_cons (pv 1) pa_nil)) (pg_name (i:=3) sc_33.nd rfl (Or.inr rfl)) (pss_cons (ps_comp (iy:=4) (fv:=[(0,"_law_rows"),(3,"_law_column")]) (cl:=[("_law_rows",_),("_law_column",_)]) rfl sc_33.nd rfl (Or.inl rfl) (pi_range2 rfl T.z_range (pa_cons (pv 2) (pa_cons (pe_callB call_len_seq rfl T.z_len PySem.boot_len (pa_cons (pv 0) pa_nil)) pa_nil))) (by with_unfolding_all rfl) (by with_unfolding_all rfl) (by decide +kernel) rfl (by decide +kernel) rfl ⟨(by with_unfolding_all rfl),⟨(by with_unfolding_all rfl),trivial⟩⟩ (by with_unfolding_all rfl) ⟨⟨rfl,rfl,(by with_unfolding_all rfl),rfl⟩,⟨⟨rfl,rfl,(by with_unfolding_all rfl),rfl⟩,trivial⟩⟩ (by decide) (fun _ _ _ _=>(pf_one (pt_cmpR op_ne (pe_ix (ix_listK (K:=K) rfl) (pe_ix (ix_listK (K:=K) rfl) (pv 1) (pv 0) (fun _ _=>rfl)) (pv 2) (fun _ _=>rfl)) pe_int (nomark _)))) (fun _ _ _ _=>(pv 0)))
  (pss_one (ps_if (pt_cmpR (op_neL hr.units) (pv 4) (pe_lst pa_nil) (nomark _)) (pss_cons (ps_set (i:=5) sc_33.nd rfl (Or.inr rfl) (pe_ix ix_list (pv 0) (pe_ix ix_list (pv 4) pe_int (fun _ _=>rfl)) (fun _ _=>rfl)))
  (pss_cons (ps_asg (pe_ix ix_list (pv 0) (pv 2) (fun _ _=>rfl)) (pg_sub (pv 0) (pe_ix ix_list (pv 4) pe_int (fun _ _=>rfl)) set_list))
  (pss_cons (ps_asg (pv 5) (pg_sub (pv 0) (pv 2) set_list))
  (pss_cons (ps_for PassesOwn.never rfl (pi_range2 rfl T.z_range (pa_cons (pe_op op_add (pv 2) pe_int) (pa_cons (pe_callB call_len_seq rfl T.z_len PySem.boot_len (pa_cons (pv 0) pa_nil)) pa_nil))) (pg_name (i:=6) sc_33.nd rfl (Or.inl rfl)) (pss_cons (ps_set (i:=7) sc_33.nd rfl (Or.inr rfl) (pe_ix ix_list (pe_ix ix_list (pv 0) (pv 6) (fun _ _=>rfl)) (pv 3) (fun _ _=>rfl)))
  (pss_cons (ps_set (i:=8) sc_33.nd rfl (Or.inl rfl) (pe_ix ix_list (pv 0) (pv 6) (fun _ _=>rfl)))
  (pss_one (ps_asg (pe_comp2 (fv:=[(5,"_law_top"),(3,"_law_column"),(7,"_law_by")]) (cl:=[("_law_top",_),("_law_column",_),("_law_by",_)]) rfl (pi_zip rfl T.z_zip (pa_cons (pv 8) (pa_cons (pv 5) pa_nil))) (by with_unfolding_all rfl) (by decide +kernel) rfl (by decide +kernel) rfl rfl ⟨(by with_unfolding_all rfl),⟨(by with_unfolding_all rfl),⟨(by with_unfolding_all rfl),trivial⟩⟩⟩ (by with_unfolding_all rfl) ⟨⟨rfl,rfl,(by with_unfolding_all rfl),rfl⟩,⟨⟨rfl,rfl,(by with_unfolding_all rfl),rfl⟩,⟨⟨rfl,rfl,(by with_unfolding_all rfl),rfl⟩,trivial⟩⟩⟩ (by decide) (fun _ _ _ _=>pf_nil) (fun _ _ _ _=>(pe_op op_sub (pe_op op_mulC (pv 0) (pe_ix (ix_listK (K:=K) rfl) (pv 2) (pv 3) (fun _ _=>rfl))) (pe_op op_mulC (pv 1) (pv 4))))) (pg_sub (pv 0) (pv 6) set_list))))))
  (pss_one (ps_set (i:=2) sc_33.nd rfl (Or.inl rfl) (pe_op op_add (pv 2) pe_int))))))) pss_nil))))
  (pss_one (ps_ret (pv 2))))),?_⟩
 obtain ⟨G,hG⟩:∃ G:Nat,G=g.toNat:=⟨_,rfl⟩
 rw [←hG] at hrw
 have rk0:RkOk G rows 0 0 (bR 0):=⟨fun r h=>(hrw r h).1,ind,Nat.zero_le _,fun k _ _ i hi=>absurd hi (Nat.not_lt_zero _),fun k i=>by
  unfold rowsF
  by_cases c:k<rows.length
  ·have:=(hrw (rows.getD k []) (by rw [Z0,List.getElem?_eq_getElem c];exact List.getElem_mem _)).2 i
   exact this
  ·rw [show rows.getD k []=[] by rw [Z0,List.getElem?_eq_none (by lia)];rfl]
   exact Nat.two_pow_pos _⟩
 obtain ⟨n,hn⟩:∃ n,n=rows.length:=⟨_,rfl⟩
 refine hide fun N hN=>?_
 walk_at "rd"
 refine hN _ _ ?_
 clear hN N
 refine cut (fun σ HX=>∃ x3 x4 x5 x6 x7 x8,σ=[some (.ref p),some (.int g),some (.int ((n:Nat):Int)),x3,x4,x5,x6,x7,x8]∧∀ H2,Same H2 H→H2 p=none→Same H2 HX) (fun N hN=>?_) ?_
 ·refine ⟨_,rfl,_,rfl,by lia,by lia,?_⟩
  rw [←hG]
  refine for_range (n:=G) (fun i σ HX=>∃ x3 x4 x5 x6 x7 x8,∃ (ρ:Nat) (ps:List Addr) (rows:List (List Int)),σ=[some (.ref p),some (.int g),some (.int ((ρ:Nat):Int)),x3,x4,x5,x6,x7,x8]∧LsV HX p ps rows∧RkOk G rows ρ i (bR ρ)∧rows.length=n∧∀ H2,Same H2 H→H2 p=none→Same H2 HX) ⟨none,none,none,none,none,none,0,ps,rows,rfl,vR,rk0,hn.symm,fun H2 e _=>e⟩ ?_ ?_
  ·rintro col σ HX hcol ⟨x3,x4,x5,x6,x7,x8,ρ,ps,rows,rfl,vR,rk,hn',hs⟩
   have rl:∀ r∈rows,1≤r.length:=fun r h=>by
    have:=rk.len r h
    lia
   have pln:ps.length=n:=by rw [vR.n,hn']
   have at':∀ k,k<n→ps[k]?=some (ps.getD k default)∧HX (ps.getD k default)=some (.lst ((rows.getD k []).map V.int))∧(rows.getD k []).length=G:=fun k hk=>by
    have a1:ps[k]?=some (ps.getD k default):=by rw [Z0,List.getElem?_eq_getElem (by lia)];rfl
    have a2:rows[k]?=some (rows.getD k []):=by rw [Z0,List.getElem?_eq_getElem (by lia)];rfl
    exact ⟨a1,vR.e k _ _ a1 a2,rk.len _ (List.mem_of_getElem? a2)⟩
   refine hide fun N2 hN2=>?_
   refine ⟨_,rfl,_,rfl,p,_,rfl,.inl (SqL.of vR.l),_,_,rfl,?_⟩
   rw [Z1,pln]
   have ρn:ρ≤n:=by have:=rk.le;lia
   refine ⟨⟨by lia,by lia,by lia,by lia⟩,fun D hD=>?_⟩
   refine comp_range (lo:=(ρ:Int)) (n:=((n:Int) - (ρ:Int)).toNat) (fun i acc Hx=>∃ ks:List Int,acc=ks.map V.int∧Some65 (fun k=>rowsF rows k col) ρ (ρ+i) ks∧ks.length≤i∧Same HX Hx∧Hx D=some (.lst acc)) ⟨[],rfl,Some65.nil _ _,Nat.le_refl _,Same.new hD _,upd_same⟩ ?_ ?_
   ·rintro i acc Hx hi ⟨ks,rfl,sm,kl,ex,hDx⟩
    have kn:ρ+i<n:=by lia
    obtain ⟨a1,a2,a3⟩:=at' (ρ+i) kn
    walk_at "rd"
    rw [Z8,show (ρ:Int)+(i:Int)=((ρ+i:Nat):Int) by lia]
    refine ⟨p,_,_,_,rfl,rfl,SqL.of (ex _ _ vR.l),getRefAt a1,_,_,_,_,rfl,rfl,SqL.of (ex _ _ a2),getAt (by lia),rfl,?_⟩
    by_cases z:rowsF rows (ρ+i) col=0
    ·rw [show (rows.getD (ρ+i) []).getD col 0=0 from z,if_neg (fun y=>y rfl)]
     exact ⟨ks,rfl,sm.no z,by lia,ex,hDx⟩
    ·rw [if_pos (show ¬ V.int ((rows.getD (ρ+i) []).getD col 0)=V.int 0 from fun y=>z (V.int.inj y))]
     refine ⟨hDx,by rw [Z1];exact small1000 (by lia),ks++[((ρ+i:Nat):Int)],by rw [Z3];rfl,sm.yes (by lia) z,by rw [Z4];exact Nat.succ_le_succ kl,ex.into hD,upd_same⟩
   rintro acc H1 ⟨ks,rfl,sm,kl,e1,h1⟩
   rw [show ρ+((n:Int) - (ρ:Int)).toNat=n by lia] at sm
   refine hN2 _ _ ?_
   clear hN2 N2
   have vR1:=vR.same e1
   have hs1:∀ H2,Same H2 H→H2 p=none→Same H2 H1:=fun H2 a b=>(hs H2 a b).trans e1
   walk_at "rd"
   refine ⟨Nat.zero_le _,fun p9 hp9=>?_⟩
   have f9:=Same.new hp9 (.lst [])
   refine ⟨ks,SqL.of (f9 _ _ h1),[],SqL.of upd_same,?_⟩
   have vR9:=vR1.same f9
   have hs9:∀ H2,Same H2 H→H2 p=none→Same H2 (upd H1 p9 (.lst [])):=fun H2 a b=>(hs1 H2 a b).trans f9
   rcases sm with ⟨rfl,z⟩ | ⟨a,l,rfl,ρa,an,az⟩
   ·rw [if_neg (fun y=>y rfl)]
    have rk2:=rk.skip (fun k k1 k2=>z k k1 (by lia))
    exact ⟨_,_,_,_,_,_,ρ,rfl,rfl,rfl,rfl,rfl,rfl,rfl,ps,rows,vR9,rk2,hn',hs9⟩
   rw [if_pos (fun y=>by cases y)]
   have ρn':ρ<n:=by lia
   obtain ⟨a1,a2,a3⟩:=at' a an
   obtain ⟨b1,b2,b3⟩:=at' ρ ρn'
   have h19:=f9 _ _ h1
   have hA0:atI (((a:Int)::l).map V.int) 0=some (.int (a:Int)):=atI_nat (j:=0) rfl
   refine ⟨D,_,0,_,rfl,rfl,SqL.of h19,hA0,p,_,_,_,rfl,rfl,SqL.of vR9.l,getRefAt a1,p,_,_,_,rfl,rfl,SqL.of vR9.l,getRefAt b1,_,rfl,_,rfl,D,_,0,_,rfl,rfl,SqL.of h19,hA0,p,_,((a:Nat):Int),a,rfl,rfl,vR9.l,(by rw [Z1];exact ixN_nat (by lia)),?_⟩
   rw [←List.map_set]
   have vRa:=vR9.setRow a rl (w:=rows.getD ρ []) (by lia) ((e1.trans f9) _ _ b2)
   have hsa:∀ H2,Same H2 H→H2 p=none→Same H2 (upd (upd H1 p9 (.lst [])) p (.lst ((ps.set a (ps.getD ρ default)).map V.ref))):=fun H2 x y=>(hs9 H2 x y).into y
   have a2a:upd (upd H1 p9 (.lst [])) p (.lst ((ps.set a (ps.getD ρ default)).map V.ref)) (ps.getD a default)=some (.lst ((rows.getD a []).map V.int)):=by
    rw [upd_ne (kind_ne ((e1.trans f9) _ _ a2) (by lia) vR9.l)]
    exact (e1.trans f9) _ _ a2
   generalize upd (upd H1 p9 (.lst [])) p (.lst ((ps.set a (ps.getD ρ default)).map V.ref))=Ha at vRa hsa a2a ⊢
   walk_at "rd"
   have rla:∀ u∈rows.set a (rows.getD ρ []),1≤u.length:=fun u hu=>by
    rcases List.mem_or_eq_of_mem_set hu with y | y
    ·exact rl u y
    ·rw [y];lia
   refine ⟨_,rfl,_,rfl,p,_,((ρ:Nat):Int),ρ,rfl,rfl,vRa.l,(by rw [Z1,Z11];exact ixN_nat (by lia)),?_⟩
   rw [←List.map_set]
   have vRb:=vRa.setRow ρ rla (w:=rows.getD a []) (by lia) a2a
   have hsb:∀ H2,Same H2 H→H2 p=none→Same H2 (upd Ha p (.lst (((ps.set a (ps.getD ρ default)).set ρ (ps.getD a default)).map V.ref))):=fun H2 x y=>(hsa H2 x y).into y
   have a2b:upd Ha p (.lst (((ps.set a (ps.getD ρ default)).set ρ (ps.getD a default)).map V.ref)) (ps.getD a default)=some (.lst ((rows.getD a []).map V.int)):=by
    rw [upd_ne (kind_ne a2a (by lia) vRa.l)]
    exact a2a
   generalize upd Ha p (.lst (((ps.set a (ps.getD ρ default)).set ρ (ps.getD a default)).map V.ref))=Hb at vRb hsb a2b ⊢
   have rkb:=rk.swap ρa (show a<rows.length by lia)
   have lenb:((rows.set a (rows.getD ρ [])).set ρ (rows.getD a [])).length=n:=by rw [Z11,Z11,hn']
   have topb:((rows.set a (rows.getD ρ [])).set ρ (rows.getD a [])).getD ρ []=rows.getD a []:=by
    rw [Z0,List.getElem?_set,if_pos rfl,if_pos (by rw [Z11];lia)]
    rfl
   generalize (rows.set a (rows.getD ρ [])).set ρ (rows.getD a [])=rowsb at vRb rkb lenb topb
   generalize (ps.set a (ps.getD ρ default)).set ρ (ps.getD a default)=psb at vRb
   obtain ⟨tp,htp⟩:∃ tp,tp=rows.getD a []:=⟨_,rfl⟩
   rw [←htp] at topb a2b a3
   have tz:tp.getD col 0≠0:=by rw [htp];exact az
   have cl0:=rkb.clear (by lia) (by show (rowsb.getD ρ []).getD col 0≠0;rw [topb];exact tz)
   generalize ps.getD a default=tpa at a2b ⊢
   have bρ:bR ρ≤6000:=bR_le (by lia)
   clear vRa hsa a2a hs9 vR9 hs1 vR1 rk vR hs at' rl rla az
   rw [Z8]
   refine cut (fun σ HX=>∃ (x6 x7 x8:Option V) (ps:List Addr) (rows:List (List Int)),σ=[some (.ref p),some (.int g),some (.int ((ρ:Nat):Int)),some (.int (col:Int)),some (.ref D),some (.ref tpa),x6,x7,x8]∧LsV HX p ps rows∧ClrOk G rows ρ col (bR ρ) n∧rows.length=n∧∀ H2,Same H2 H→H2 p=none→Same H2 HX) (fun N2 hN2=>?_) ?_
   ·refine ⟨_,rfl,_,_,rfl,rfl,_,rfl,p,rfl,_,.inl (SqL.of vRb.l),_,_,rfl,?_⟩
    rw [Z1,vRb.n,lenb]
    refine ⟨⟨by lia,by lia,by lia,by lia⟩,?_⟩
    refine for_range (n:=((n:Int) - ((ρ:Int)+1)).toNat) (fun i σ HX=>∃ (x6 x7 x8:Option V) (ps:List Addr) (rows:List (List Int)),σ=[some (.ref p),some (.int g),some (.int ((ρ:Nat):Int)),some (.int (col:Int)),some (.ref D),some (.ref tpa),x6,x7,x8]∧LsV HX p ps rows∧ClrOk G rows ρ col (bR ρ) (ρ+1+i)∧rows.length=n∧rows.getD ρ []=tp∧HX tpa=some (.lst (tp.map V.int))∧∀ H2,Same H2 H→H2 p=none→Same H2 HX) ⟨x6,x7,x8,psb,rowsb,rfl,vRb,cl0,lenb,topb,a2b,hsb⟩ ?_ ?_
    ·rintro i σ HY hi ⟨x6,x7,x8,ps,rows,rfl,vY,cy,ly,ty,tY,hsy⟩
     obtain ⟨k,hk⟩:∃ k,k=ρ+1+i:=⟨_,rfl⟩
     rw [←hk] at cy
     have kn:k<n:=by lia
     have c1:ps[k]?=some (ps.getD k default):=by rw [Z0,List.getElem?_eq_getElem (by rw [vY.n];lia)];rfl
     have c2:rows[k]?=some (rows.getD k []):=by rw [Z0,List.getElem?_eq_getElem (by lia)];rfl
     have c3:=vY.e k _ _ c1 c2
     have c4:=cy.len _ (List.mem_of_getElem? c2)
     obtain ⟨rw',hrw'⟩:∃ rw',rw'=rows.getD k []:=⟨_,rfl⟩
     rw [←hrw'] at c3 c4
     refine hide fun N3 hN3=>?_
     walk_at "rd"
     rw [show (ρ:Int)+1+(i:Int)=((k:Nat):Int) by lia]
     refine ⟨p,_,_,_,rfl,rfl,SqL.of vY.l,getRefAt c1,_,_,_,_,rfl,rfl,SqL.of c3,getAt (by lia),hN3 _ _ ?_⟩
     clear hN3 N3
     refine hide fun N3 hN3=>?_
     walk_at "rd"
     refine ⟨p,_,_,_,rfl,rfl,SqL.of vY.l,getRefAt c1,hN3 _ _ ?_⟩
     clear hN3 N3
     obtain ⟨q',hq'⟩:∃ q',q'=ps.getD k default:=⟨_,rfl⟩
     rw [←hq'] at c1 c3 ⊢
     obtain ⟨tt',htt⟩:∃ tt':Int,tt'=tp.getD col 0:=⟨_,rfl⟩
     obtain ⟨bb,hbb⟩:∃ bb:Int,bb=rw'.getD col 0:=⟨_,rfl⟩
     rw [←hbb]
     have bt:∀ j,(tp.getD j 0).natAbs<2^6000:=fun j=>by
      have:=cy.bit ρ (.inl (Nat.le_refl _)) j
      unfold rowsF at this
      rw [ty] at this
      exact Nat.lt_of_lt_of_le this (Nat.pow_le_pow_right (by decide) bρ)
     have br:∀ j,(rw'.getD j 0).natAbs<2^6000:=fun j=>by
      have:=cy.bit k (.inr (Nat.le_refl _)) j
      unfold rowsF at this
      rw [←hrw'] at this
      exact Nat.lt_of_lt_of_le this (Nat.pow_le_pow_right (by decide) bρ)
     have big:∀ {x:Int},x.natAbs<2^6000→x.natAbs<2^100000:=fun h=>Nat.lt_of_lt_of_le h (Nat.pow_le_pow_right (by decide) (by decide))
     have cz:=cy.step (show ρ<k by lia) (show k<rows.length by lia)
     rw [ty,←hrw',show rowsF rows ρ col=tt' by unfold rowsF;rw [ty,htt],show rowsF rows k col=bb by unfold rowsF;rw [←hrw',hbb]] at cz
     refine ⟨_,rfl,_,rfl,q',tpa,_,_,rfl,SqL.of c3,SqL.of tY,fun D5 hD5=>?_⟩
     refine comp_zip2 (xs:=rw'.map V.int) (ys:=tp.map V.int) (by rw [Z1,Z1,c4,a3]) (fun j acc Hx=>acc=((List.range j).map fun j=>rw'.getD j 0*tt' - tp.getD j 0*bb).map V.int∧Same HY Hx∧Hx D5=some (.lst acc)) ⟨rfl,Same.new hD5 _,upd_same⟩ (fun i acc Hx _ z=>⟨SqL.of (z.2.1 _ _ c3),SqL.of (z.2.1 _ _ tY)⟩) ?_ ?_
     ·rintro j x y p' acc Hx hx hy ⟨rfl,ex,hDx⟩ hp
      obtain ⟨v,hv,rfl⟩:=getInt hx
      obtain ⟨u,hu,rfl⟩:=getInt hy
      have ev:rw'.getD j 0=v:=by rw [Z0,hv];rfl
      have eu:tp.getD j 0=u:=by rw [Z0,hu];rfl
      have hj:=(List.getElem?_eq_some_iff.mp hv).1
      have ep:=ex.trans (Same.new hp (.tup [.int v,.int u]))
      walk_at "rd"
      refine ⟨tpa,_,_,_,rfl,rfl,SqL.of (ep _ _ tY),getAt (by lia),_,rfl,⟨by rw [←ev];exact big (br j),big (bt col)⟩,⟨by rw [←eu];exact big (bt j),by rw [hbb];exact big (br col)⟩,(Same.new hp _) _ _ hDx,?_,?_,ep.into hD5,upd_same⟩
      ·rw [Z1,Z1,Z2]
       exact small1000 (by lia)
      ·rw [←htt,range_succ_map,Z3,ev,eu]
       rfl
     rintro acc H5 ⟨rfl,e5,h5⟩
     rw [Z1,c4] at h5
     have ml:(mixR G rw' tp tt' bb).length=G:=by unfold mixR;rw [Z1,Z2]
     refine ⟨_,rfl,_,rfl,p,_,((k:Nat):Int),k,rfl,rfl,e5 _ _ vY.l,(by rw [Z1,vY.n];exact ixN_nat (by lia)),?_⟩
     rw [←List.map_set]
     have vZ:=(vY.same e5).setRow k (fun u hu=>by have:=cy.len u hu;lia) (w:=mixR G rw' tp tt' bb) (by lia) h5
     refine ⟨_,_,_,ps.set k D5,rows.set k (mixR G rw' tp tt' bb),rfl,vZ,by rw [show ρ+1+(i+1)=k+1 by lia];exact cz,by rw [Z11];exact ly,?_,?_,fun H2 x y=>((hsy H2 x y).trans e5).into y⟩
     ·rw [Z0,List.getElem?_set,if_neg (by lia),←Z0]
      exact ty
     ·rw [upd_ne (kind_ne (e5 _ _ tY) (by lia) (e5 _ _ vY.l))]
      exact e5 _ _ tY
    ·rintro σ HY ⟨x6,x7,x8,ps,rows,rfl,vY,cy,ly,ty,tY,hsy⟩
     rw [show ρ+1+((n:Int) - ((ρ:Int)+1)).toNat=n by lia] at cy
     exact hN2 _ _ ⟨x6,x7,x8,ps,rows,rfl,vY,cy,ly,hsy⟩
   rintro σ HY ⟨x6,x7,x8,ps,rows,rfl,vY,cy,ly,hsy⟩
   have dn:=ClrOk.done (rows:=rows) (by rw [ly];exact cy)
   rw [←bR_succ] at dn
   walk_at "rd"
   exact ⟨_,_,_,_,_,_,ρ+1,by lia,rfl,rfl,rfl,rfl,rfl,rfl,ps,rows,vY,dn,ly,hsy⟩
  ·rintro σ HX ⟨x3,x4,x5,x6,x7,x8,ρ,ps,rows,rfl,vR,rk,hn',hs⟩
   have:=rk.done
   rw [this,hn']
   exact hN _ _ ⟨x3,x4,x5,x6,x7,x8,rfl,hs⟩
 rintro σ HX ⟨x3,x4,x5,x6,x7,x8,rfl,hs⟩
 walk_at "rd"
 rw [hn]
 exact q _ hs
theorem sc_23:FnScope ["_law_rings_here","_law_found","_law_signs","_law_table_here","_law_rows","_law_ring","_law_row","_law_weights"] ["_law_rings_here","_law_found","_law_signs","_law_table_here"] (defScope s_23):=⟨rfl,rfl,rfl,by decide +kernel,rfl,by decide +kernel,by decide +kernel⟩
theorem ok_23 (T:Txt K mg t) (G_33:Has P w K mg base 1 t.f_33 ["_law_rows","_law_signs"] (spRank65)) (G_12:Has P w K mg base 1 t.f_12 ["_law_ring","_law_signs","_law_table_here"] (spChange65)) (G_32:Has P w K mg base 2 t.f_32 ["_law_row","_law_many"] (spList65)):Has P w K mg base 3 t.f_23 ["_law_rings_here","_law_found","_law_signs","_law_table_here"] (spRings65):=by
 refine has_mk0 T.d_23 sc_23 (fun _ _ _ _ _ _ us hl=>match us,hl with | [_,_,_,_],_=>rfl) (fun vs H Q E h=>?_) (fun cdv A outer s H vs Q E hr h=>?_)
 ·obtain ⟨pr,pf,pt,rs,ps,g,lf,tf,mf,rings,Rs,fs,rings',Rs',fs',rfl,g2,g9,vR,vF,B,B',ht,tfl,mf2,mf8,tfb,q⟩:=h
  rfl
 obtain ⟨pr,pf,pt,rs,ps,g,lf,tf,mf,rings,Rs,fs,rings',Rs',fs',rfl,g2,g9,vR,vF,B,B',ht,tfl,mf2,mf8,tfb,q⟩:=h
 refine ⟨_,(pss_cons (ps_if (PW.pt (pw_or (pt_not (pt_val (pe_isi rfl T.z_isinstance (pv 0) (pe_ty rfl T.z_list PyProof.Rows.boot_list)))) (pw_or1 (pt_cmpR op_ne (pe_op op_add (pe_callB call_len_seq rfl T.z_len PySem.boot_len (pa_cons (pv 0) pa_nil)) (pe_callB call_len_seq rfl T.z_len PySem.boot_len (pa_cons (pv 1) pa_nil))) (pv 2) (nomark _))))) (pss_one (ps_ret pe_bl)) pss_nil)
  (pss_cons (ps_set (i:=4) sc_23.nd rfl (Or.inl rfl) (pe_lst pa_nil))
  (pss_cons (ps_for PassesOwn.never rfl (pi_list (pv 0)) (pg_name (i:=5) sc_23.nd rfl (Or.inl rfl)) (pss_cons (ps_if (PW.pt (pw_or (pt_not (pt_val (pe_isi rfl T.z_isinstance (pv 5) (pe_ty rfl T.z_list PyProof.Rows.boot_list)))) (pw_or (pt_cmpR op_lt (pe_callB call_len_seq rfl T.z_len PySem.boot_len (pa_cons (pv 5) pa_nil)) pe_int (nomark _)) (pw_or1 (pt_cmpR op_gt (pe_callB call_len_seq rfl T.z_len PySem.boot_len (pa_cons (pv 5) pa_nil)) pe_int (nomark _)))))) (pss_one (ps_ret pe_bl)) pss_nil)
  (pss_cons (ps_if (PW.pt (pw_or (pt_not (pt_val (pe_callH G_32 (hr.mono (by decide)) rfl T.m_32 passF (pa_cons (pv 5) (pa_cons (pe_callB call_len_seq rfl T.z_len PySem.boot_len (pa_cons (pv 5) pa_nil)) pa_nil))))) (pw_or (pt_cmpR op_lt (pe_callB (call_min_of rfl) rfl T.z_min PyProof.Rows.boot_min (pa_cons (pv 5) pa_nil)) pe_int (nomark _)) (pw_or1 (pt_cmpR op_ge (pe_callB (call_max_of rfl) rfl T.z_max PyProof.Rows.boot_max (pa_cons (pv 5) pa_nil)) (pv 2) (nomark _)))))) (pss_one (ps_ret pe_bl)) pss_nil)
  (pss_one (ps_expr (pe_bm PySem.F.plainAttrs_list PySem.F.slot_list_append PySem.F.type_list_append mt_append (pv 4) (pa_cons (pe_callH G_12 (hr.mono (by decide)) rfl T.m_12 passF (pa_cons (pv 5) (pa_cons (pv 2) (pa_cons (pv 3) pa_nil)))) pa_nil)))))))
  (pss_cons (ps_for PassesOwn.never rfl (pi_list (pv 4)) (pg_name (i:=6) sc_23.nd rfl (Or.inl rfl)) (pss_one (ps_for PassesOwn.never rfl (pi_list (pv 1)) (pg_name (i:=7) sc_23.nd rfl (Or.inl rfl)) (pss_one (ps_if (pt_cmpR op_ne (pe_callB (call_sum_of rfl) rfl T.z_sum PyProof.Rows.boot_sum (pa_cons (pe_comp2 (fv:=[]) (cl:=[]) rfl (pi_zip rfl T.z_zip (pa_cons (pv 6) (pa_cons (pv 7) pa_nil))) (by with_unfolding_all rfl) (by decide +kernel) rfl (by decide +kernel) rfl rfl trivial (by with_unfolding_all rfl) trivial (by decide) (fun _ _ _ _=>pf_nil) (fun _ _ _ _=>(pe_op op_mulC (pv 0) (pv 1)))) pa_nil)) pe_int (nomark _)) (pss_one (ps_ret pe_bl)) pss_nil)))))
  (pss_one (ps_ret (pe_cmpR op_eq (pe_callH G_33 (hr.mono (by decide)) rfl T.m_33 passF (pa_cons (pv 4) (pa_cons (pv 2) pa_nil))) (pe_callB call_len_seq rfl T.z_len PySem.boot_len (pa_cons (pv 0) pa_nil)) (nomark _)))))))),?_⟩
 obtain ⟨rfl,rfl,rfl⟩:=B.ran.uniq B'.ran
 obtain ⟨i1,i2,i3⟩:=ran_ind (chgL_len g lf tf mf) B.ran
 have fl:(keptL g.toNat Rs fs g.toNat).length+rings.length=g.toNat:=by
  rw [kept_hds,Z1,B.cnt]
  have:=hds_len i1
  lia
 have psl:ps.length=(keptL g.toNat Rs fs g.toNat).length:=vF.n
 have kd:∀ w∈keptL g.toNat Rs fs g.toNat,w.length=g.toNat∧BitsB w 3000∧∀ ring∈rings,dot g.toNat (chgL g 0 tf mf ring) w=0:=fun w hw=>by
  obtain ⟨hd,h1,h2,rfl⟩:=keptL_mem hw
  obtain ⟨b,Δ,M,hb,sc,_⟩:=B.scl
  refine ⟨headW_len ..,(headW_bits B.rows sc h1 h2).mono hb,fun ring hr=>?_⟩
  have hr':=B.sub ring hr
  rw [←chg_low lf g2 tfb (by lia) (ask_lt g2 hr') (ask_len mf2 mf8 hr').1,dot_comm]
  exact B.ask.all _ (headW_dot B.rows h1 h2) _ (List.mem_map.mpr ⟨ring,hr',rfl⟩)
 have k9:=keptL_len g.toNat Rs fs g.toNat
 obtain ⟨found,hfound⟩:∃ found,found=keptL g.toNat Rs fs g.toNat:=⟨_,rfl⟩
 rw [←hfound] at vF kd k9 fl psl
 have big:∀ {x:Int} {b:Nat},b≤100000→x.natAbs<2^b→x.natAbs<2^100000:=fun hb h=>Nat.lt_of_lt_of_le h (Nat.pow_le_pow_right (by decide) hb)
 refine cut (fun σ HX=>σ=[some (.ref pr),some (.ref pf),some (.int g),some (.ref pt),none,none,none,none]∧HX=H) (fun N hN=>?_) ?_
 ·walk_at "rd"
  refine ⟨_,.of (.lst vR.l),_,ki_ll,?_⟩
  rw [if_neg (by decide)]
  refine ⟨_,.inl (SqL.of vR.l),_,.inl (SqL.of vF.l),?_⟩
  rw [Z1,Z1,vR.n,psl,if_neg (fun z=>z (by lia))]
  exact hN _ _ ⟨rfl,rfl⟩
 rintro σ HX ⟨rfl,rfl⟩
 refine hide fun N hN=>?_
 walk_at "rd"
 refine ⟨Nat.zero_le _,fun D hD=>hN _ _ ?_⟩
 clear hN N
 have e1:=Same.new hD (.lst [])
 have v0:LsV (upd HX D (.lst [])) D [] []:=⟨upd_same,rfl,fun i q w h=>by cases h⟩
 have cl:∀ ring,(chgL g 0 tf mf ring).length=g.toNat:=chgL_len g 0 tf mf
 have r8:rings.length≤8:=by rw [B.cnt];exact B.few
 refine cut (fun σ HY=>(∃ (x5:Option V) (qs:List Addr),σ=[some (.ref pr),some (.ref pf),some (.int g),some (.ref pt),some (.ref D),x5,none,none]∧LsV HY D qs (rings.map (chgL g 0 tf mf)))∧Same HX HY) (fun N hN=>?_) ?_
 ·refine ⟨_,rfl,pr,rfl,⟨_,SqL.of (e1 _ _ vR.l)⟩,?_⟩
  refine for_list (xs:=rs.map V.ref) (fun i σ HY=>(∃ (x5:Option V) (qs:List Addr),σ=[some (.ref pr),some (.ref pf),some (.int g),some (.ref pt),some (.ref D),x5,none,none]∧LsV HY D qs ((rings.take i).map (chgL g 0 tf mf)))∧Same HX HY) ⟨⟨none,[],rfl,v0⟩,e1⟩ (fun i σ HY _ z=>SqL.of (z.2 _ _ vR.l)) ?_ ?_
  ·rintro i x σ HY hx ⟨⟨x5,qs,rfl,vQ⟩,eY⟩
   obtain ⟨o,rfl,ho1,il,ho2,hoH⟩:=vR.at hx
   obtain ⟨rg,hrg⟩:∃ rg,rg=rings.getD i []:=⟨_,rfl⟩
   rw [←hrg] at ho2 hoH
   have om:=B.sub _ (List.mem_of_getElem? ho2)
   have ol:=ask_len mf2 mf8 om
   have olt:=ask_lt g2 om
   have tk:rings.take (i+1)=rings.take i++[rg]:=by rw [Z22,ho2];rfl
   have oY:=eY _ _ hoH
   refine hide fun N2 hN2=>?_
   walk_at "rd"
   refine ⟨_,.of (.lst oY),_,ki_ll,?_⟩
   rw [if_neg (by decide)]
   refine ⟨_,.inl (SqL.of oY),?_⟩
   rw [Z1,if_neg (by lia)]
   refine ⟨_,.inl (SqL.of oY),?_⟩
   rw [Z1,if_neg (by lia)]
   refine hN2 _ _ ?_
   clear hN2 N2
   refine hide fun N2 hN2=>?_
   walk_at "rd"
   refine ⟨_,.inl (SqL.of oY),o,rg,_,rfl,oY,by rw [Z1],true,rfl,?_⟩
   rw [if_neg (by decide)]
   refine ⟨rg,SqL.of oY,by lia,fun mn hmn _=>?_⟩
   rw [if_neg (by have:=olt mn hmn;lia)]
   refine ⟨rg,SqL.of oY,by lia,fun mx hmx _=>?_⟩
   rw [if_neg (by have:=olt mx hmx;lia)]
   refine hN2 _ _ ?_
   clear hN2 N2
   walk_at "rd"
   refine ⟨.inl ⟨_,SqL.of vQ.l⟩,o,pt,g,tf,mf,rg,rfl,g2,g9,eY _ _ ht,tfl,mf8,tfb,oY,olt,ol.1,by lia,fun p3 H3 n3=>?_⟩
   have vQ3:=vQ.same n3.1
   refine ⟨_,vQ3.l,?_,⟨qs++[p3],?_⟩,(eY.trans n3.1).into hD⟩
   ·rw [Z1,vQ3.n,Z1,Z16]
    exact small1000 (by lia)
   ·rw [tk,Z3]
    exact vQ3.snoc (fun u hu=>by
     obtain ⟨ring,_,rfl⟩:=List.mem_map.mp hu
     rw [cl];lia) (by rw [cl];lia) n3.2.2
  ·rintro σ HY ⟨⟨x5,qs,rfl,vQ⟩,eY⟩
   rw [Z1,vR.n,Z14] at vQ
   exact hN _ _ ⟨⟨x5,qs,rfl,vQ⟩,eY⟩
 rintro σ HY ⟨⟨x5,qs,rfl,vQ⟩,eY⟩
 refine cut (fun σ HZ=>(∃ x6 x7,σ=[some (.ref pr),some (.ref pf),some (.int g),some (.ref pt),some (.ref D),x5,x6,x7])∧Same HY HZ) (fun N hN=>?_) ?_
 ·refine ⟨_,rfl,D,rfl,⟨_,SqL.of vQ.l⟩,?_⟩
  refine for_list (xs:=qs.map V.ref) (fun i σ HZ=>(∃ x6 x7,σ=[some (.ref pr),some (.ref pf),some (.int g),some (.ref pt),some (.ref D),x5,x6,x7])∧Same HY HZ) ⟨⟨none,none,rfl⟩,Same.refl _⟩ (fun i σ HZ _ z=>SqL.of (z.2 _ _ vQ.l)) ?_ fun σ HZ z=>hN _ _ z
  rintro i x σ HZ hx ⟨⟨x6,x7,rfl⟩,eZ⟩
  obtain ⟨o,rfl,ho1,il,ho2,hoH⟩:=vQ.at hx
  obtain ⟨rw',hrw⟩:∃ rw',rw'=(rings.map (chgL g 0 tf mf)).getD i []:=⟨_,rfl⟩
  rw [←hrw] at ho2 hoH
  obtain ⟨ring,hring,hre⟩:=List.mem_map.mp (List.mem_of_getElem? ho2)
  have rb:BitsB rw' 10:=by rw [←hre];exact chg_bits10 (by have:=ask_len mf2 mf8 (B.sub ring hring);lia)
  have rl:rw'.length=g.toNat:=by rw [←hre];exact cl ring
  have oZ:=eZ _ _ hoH
  have vFZ:=vF.same (eY.trans eZ)
  refine ⟨_,rfl,pf,rfl,⟨_,SqL.of vFZ.l⟩,?_⟩
  refine for_list (xs:=ps.map V.ref) (fun j σ HW=>(∃ x7,σ=[some (.ref pr),some (.ref pf),some (.int g),some (.ref pt),some (.ref D),x5,some (.ref o),x7])∧Same HZ HW) ⟨⟨_,rfl⟩,Same.refl _⟩ (fun j σ HW _ z=>SqL.of (z.2 _ _ vFZ.l)) ?_ fun σ HW z=>by obtain ⟨⟨x7,rfl⟩,e⟩:=z;exact ⟨⟨_,_,rfl⟩,eZ.trans e⟩
  rintro j y σ HW hy ⟨⟨x7',rfl⟩,eW⟩
  obtain ⟨o2,rfl,ho3,jl,ho4,hoW⟩:=vFZ.at hy
  obtain ⟨wt,hwt⟩:∃ wt,wt=found.getD j []:=⟨_,rfl⟩
  rw [←hwt] at ho4 hoW
  obtain ⟨wl,wb,wd⟩:=kd wt (List.mem_of_getElem? ho4)
  have d0:=wd ring hring
  rw [hre] at d0
  have oW1:=eW _ _ oZ
  have oW2:=eW _ _ hoW
  walk_at "rd"
  refine ⟨_,rfl,_,rfl,o,o2,_,_,rfl,SqL.of oW1,SqL.of oW2,fun D2 hD2=>?_⟩
  refine comp_zip2 (xs:=rw'.map V.int) (ys:=wt.map V.int) (by rw [Z1,Z1,rl,wl]) (fun i acc Hx=>acc=((List.range i).map fun i=>rw'.getD i 0*wt.getD i 0).map V.int∧Same HW Hx∧Hx D2=some (.lst acc)) ⟨rfl,Same.new hD2 _,upd_same⟩ (fun i acc Hx _ z=>⟨SqL.of (z.2.1 _ _ oW1),SqL.of (z.2.1 _ _ oW2)⟩) ?_ ?_
  ·rintro i x y p' acc Hx hx hy ⟨rfl,ex,hDx⟩ hp
   obtain ⟨v,hv,rfl⟩:=getInt hx
   obtain ⟨u,hu,rfl⟩:=getInt hy
   have ev:rw'.getD i 0=v:=by rw [Z0,hv];rfl
   have eu:wt.getD i 0=u:=by rw [Z0,hu];rfl
   have hi:=(List.getElem?_eq_some_iff.mp hv).1
   have ep:=ex.trans (Same.new hp (.tup [.int v,.int u]))
   walk_at "rd"
   refine ⟨⟨by rw [←ev];exact big (by decide) (rb i),by rw [←eu];exact big (by decide) (wb i)⟩,(Same.new hp _) _ _ hDx,?_,?_,ep.into hD2,upd_same⟩
   ·rw [Z1,Z1,Z2]
    exact small1000 (by lia)
   ·rw [range_succ_map,Z3,ev,eu]
    rfl
  rintro acc H2 ⟨rfl,e2,h2⟩
  rw [Z1,rl] at h2
  refine ⟨D2,rfl,_,SqL.of h2,?_⟩
  rw [show ((List.range g.toNat).map fun i=>rw'.getD i 0*wt.getD i 0).sum=0 from d0]
  rw [if_neg (fun z=>z rfl)]
  exact ⟨⟨_,rfl⟩,eW.trans e2⟩
 rintro σ HZ ⟨⟨x6,x7,rfl⟩,eZ⟩
 have eXZ:=eY.trans eZ
 have rm:rings.map (chgL g 0 tf mf)=rings.map (chgL g lf tf mf):=List.map_congr_left fun ring hr=>(chg_low lf g2 tfb (by lia) (ask_lt g2 (B.sub ring hr)) (ask_len mf2 mf8 (B.sub ring hr)).1).symm
 walk_at "rd"
 refine ⟨D,qs,g,rings.map (chgL g 0 tf mf),rfl,g2,g9,vQ.same eZ,by rw [Z1];lia,fun r hr=>?_,by rw [rm];exact i3,fun H' hs=>?_⟩
 ·obtain ⟨ring,hring,rfl⟩:=List.mem_map.mp hr
  exact ⟨cl ring,chg_bits10 (by have:=ask_len mf2 mf8 (B.sub ring hring);lia)⟩
 have e':=hs HX eXZ hD
 refine ⟨_,.inl (SqL.of (e' _ _ vR.l)),rfl,?_⟩
 rw [Z1,Z1,vR.n,decide_eq_true rfl]
 exact q _ e'
theorem sc_8:FnScope ["_law_cell","_law_signs","_law_many","_law_part","_law_one","_law_way","_law_came","error"] ["_law_cell"] (defScope s_8):=⟨rfl,rfl,rfl,by decide +kernel,rfl,by decide +kernel,by decide +kernel⟩
theorem ok_8 (T:Txt K mg t) (G_22:Has P w K mg base 1 t.f_22 ["_law_signs","_law_many"] (spPower)) (G_42:Has P w K mg base 10 t.f_42 ["one"] (spAK t.c_48)) (G_49:Has P w K mg base 10 t.f_49 ["one"] (spChanges t.c_48)):Has P w K mg base 11 t.f_8 ["_law_cell"] (spRefused65):=by
 refine has_mk0 T.d_8 sc_8 (fun _ _ _ _ _ _ us hl=>match us,hl with | [_],_=>rfl) (fun vs H Q E h=>?_) (fun cdv A outer s H vs Q E hr h=>?_)
 ·obtain ⟨c,rfl,q⟩:=h
  rfl
 obtain ⟨c,rfl,q⟩:=h
 refine ⟨_,(pss_cons (ps_set (i:=1) sc_8.nd rfl (Or.inr rfl) (pe_op op_add pe_int (pe_op op_mod (pv 0) pe_int)))
  (pss_cons (ps_set (i:=2) sc_8.nd rfl (Or.inl rfl) (pe_ix ix_list (pe_lst (pa_cons (pe_op op_add pe_int (pe_op op_mod (pe_op op_fdiv (pv 0) pe_int) pe_int)) (pa_cons (pe_op op_add pe_int (pe_op op_mod (pe_op op_fdiv (pv 0) pe_int) pe_int)) (pa_cons (pe_op op_add pe_int (pe_op op_mod (pe_op op_fdiv (pv 0) pe_int) pe_int)) (pa_consC (pa_consC pa_nil)))))) (pe_op op_sub (pv 1) pe_int) (fun _ _=>rfl)))
  (pss_cons (ps_set (i:=3) sc_8.nd rfl (Or.inr rfl) (pe_callH G_22 (hr.mono (by decide)) rfl T.m_22 passF (pa_cons (pv 1) (pa_cons (pe_op op_sub (pv 2) pe_int) pa_nil))))
  (pss_cons (ps_set (i:=4) sc_8.nd rfl (Or.inl rfl) (pe_tup (pa_cons (pv 1) (pa_cons (pe_op op_sub (pe_op op_mod (pe_op op_fdiv (pv 0) pe_int) pe_int) pe_int) (pa_cons (pe_callTy call_tuple_of rfl T.z_tuple PyProof.Rows.boot_tuple (pa_cons (pe_comp (fv:=[(1,"_law_signs"),(3,"_law_part")]) (cl:=[("_law_signs",_),("_law_part",_)]) rfl (pi_range1 rfl T.z_range (pa_cons (pe_op op_mul (pv 3) (pv 1)) pa_nil)) (by with_unfolding_all rfl) (by decide +kernel) rfl (by decide +kernel) rfl ⟨(by with_unfolding_all rfl),⟨(by with_unfolding_all rfl),trivial⟩⟩ (by with_unfolding_all rfl) ⟨⟨rfl,rfl,(by with_unfolding_all rfl),rfl⟩,⟨⟨rfl,rfl,(by with_unfolding_all rfl),rfl⟩,trivial⟩⟩ (by decide) (fun _ _ _ _=>pf_nil) (fun _ _ _ _=>(pe_op op_mod (pe_op op_add (pe_op op_fdiv (pv 0) (pv 2)) (pv 0)) (pv 1)))) pa_nil)) pa_nil)))))
  (pss_cons (ps_for PassesOwn.never rfl (pi_range1 rfl T.z_range (pa_consC pa_nil)) (pg_name (i:=5) sc_8.nd rfl (Or.inl rfl)) (pss_cons (ps_set (i:=6) sc_8.nd rfl (Or.inl rfl) pe_non)
  (pss_cons (ps_try (i:=7) (W:=fun σ cls D H'=>(∃ (g m pt wy:Int) (r:Addr),σ=[some (.int c),some (.int g),some (.int m),some (.int pt),some (.ref r),some (.int wy),some .non,none]∧RF65 H' r)∧Same H H'∧D=none∧cls=.ref t.c_48) sc_8.nd rfl rfl rfl T.m_41 rfl rfl (fun _=>(pss_one (ps_if (pt_cmpR op_eq (pv 5) pe_int (nomark _)) (pss_one (ps_expr (pe_callH G_42 (hr.mono (by decide)) rfl T.m_42 passes_try (pa_cons (pv 4) pa_nil)))) (pss_one (ps_expr (pe_callH G_49 (hr.mono (by decide)) rfl T.m_49 passes_try (pa_cons (pv 4) pa_nil))))))) (fun _=>(pss_one (ps_set (i:=6) sc_8.nd rfl (Or.inl rfl) (pv 7)))))
  (pss_cons (ps_if (PW.pt (pw_or (pt_cmpR op_isN (pv 6) pe_non (nomark _)) (pw_or (pt_not (pt_val (pe_isi rfl T.z_isinstance (pv 6) (pe_cls rfl T.m_48)))) (pw_or1 (pt_not (pt_val (pe_isi rfl T.z_isinstance (pv 6) (pe_ty rfl T.z_ValueError PyProof.Rows.Boot.«ValueError»)))))))) (pss_one (ps_ret pe_bl)) pss_nil)
  (pss_one (ps_if (PW.pt (pw_or (pt_val (pe_isi rfl T.z_isinstance (pv 6) (pe_cls rfl T.m_54))) (pw_or1 (pt_val (pe_isi rfl T.z_isinstance (pv 6) (pe_cls rfl T.m_30)))))) (pss_one (ps_ret pe_bl)) pss_nil))))))
  (pss_one (ps_ret pe_bl))))))),?_⟩
 refine hide fun N hN=>?_
 walk_at "rd"
 refine ⟨by decide,hN _ _ ?_⟩
 clear hN N
 obtain ⟨g,hg⟩:∃ g:Int,g=2+c%5:=⟨_,rfl⟩
 rw [←hg]
 have g2:2≤g:=by lia
 have g6:g≤6:=by lia
 clear hg
 obtain ⟨m,hx,m3,m8,sz,wd⟩:=great_ok g2 g6 (c / 5)
 refine hide fun N hN=>?_
 walk_at "rd"
 refine ⟨by decide,by decide,by decide,by decide,by decide,by decide,by decide,by decide,by decide,by decide,fun p hp=>⟨p,_,_,_,rfl,rfl,SqL.of upd_same,hx,hN _ _ ?_⟩⟩
 clear hN N hx
 have e1:=Same.new hp (.lst [V.int (5+c / 5%4),V.int (4+c / 5%2),V.int (3+c / 5%2),V.int 3,V.int 3])
 refine forget (fun HX=>Same H HX) e1 ?_
 clear e1 hp
 intro H1 e1
 refine hide fun N hN=>?_
 walk_at "rd"
 refine ⟨g,_,rfl,g2,by lia,by lia,by lia,hN _ _ ?_⟩
 clear hN N
 rw [show ((m:Int) - 1).toNat=m - 1 by lia]
 have gp:=RW.pow_pos g2 (m - 1)
 have gm:g^(m - 1)*g=g^m:=by rw [←Z7,show (m - 1).succ=m by lia]
 refine hide fun N hN=>?_
 walk_at "rd"
 have gmp:=RW.pow_pos g2 m
 have gmm:=pow_mono g2 (show m - 1≤m by lia)
 have hP:((g^(m - 1)).toNat:Int)=g^(m - 1):=by lia
 refine ⟨by decide,by decide,by decide,_,rfl,_,rfl,_,_,rfl,rfl,.inr ⟨by lia,by lia⟩,_,rfl,by lia,by lia,fun D hD=>?_⟩
 rw [gm]
 refine comp_range (n:=(g^m).toNat) (fun i acc Hx=>acc=((List.range i).map fun k:Nat=>((k / (g^(m - 1)).toNat+k:Nat):Int)%g).map V.int∧Same H1 Hx∧Hx D=some (.lst acc)) ⟨rfl,Same.new hD _,upd_same⟩ ?_ ?_
 ·rintro i acc Hx hi ⟨rfl,ex,hDx⟩
  have ei:(0+(i:Int)) / g^(m - 1)+(0+(i:Int))=((i / (g^(m - 1)).toNat+i:Nat):Int):=by rw [Z8,Int.natCast_add,Z18,hP]
  walk_at "rd"
  rw [ei]
  refine ⟨gp,by lia,by lia,hDx,?_,?_,ex.into hD,upd_same⟩
  ·rw [Z1,Z1,Z2]
   exact small1000 (by lia)
  ·rw [range_succ_map,Z3]
   rfl
 rintro acc H2 ⟨rfl,e2,h2⟩
 obtain ⟨gl,gf⟩:=great_frame g2 (c / 20%9 - 4) (m:=m) (by lia)
 refine ⟨D,rfl,_,.inl ⟨SqL.of h2,fun l9 hl9=>⟨by decide,fun p9 hp9=>hN _ _ ?_⟩⟩⟩
 clear hN N
 have f8:=Same.new hl9 (.tup ((greatT g m).map V.int))
 have f9:=Same.new hp9 (.tup [.int g,.int (c / 20%9 - 4),.ref l9])
 have rf:RF65 (upd (upd H2 l9 (.tup ((greatT g m).map V.int))) p9 (.tup [.int g,.int (c / 20%9 - 4),.ref l9])) p9:=⟨g,_,greatT g m,m,_,_,m,⟨⟨l9,upd_same,f9 _ _ upd_same⟩,g2,by lia,by lia,m8,gl,sz,greatT_lt g2 m⟩,gf,wd⟩
 have e9:=((e1.trans e2).trans f8).trans f9
 refine forget (fun HX=>Same H HX∧RF65 HX p9) ⟨e9,rf⟩ ?_
 clear e9 rf f9 f8
 rintro H3 ⟨e3,rf3⟩
 refine cut (fun σ HX=>(∃ (g m pt:Int) (r:Addr) (x5 x6:Option V),σ=[some (.int c),some (.int g),some (.int m),some (.int pt),some (.ref r),x5,x6,none])∧Same H HX) (fun N hN=>?_) ?_
 ·refine ⟨2,rfl,by decide,by decide,?_⟩
  refine for_range (n:=2) (fun i σ HX=>(∃ (g m pt:Int) (r:Addr) (x5 x6:Option V),σ=[some (.int c),some (.int g),some (.int m),some (.int pt),some (.ref r),x5,x6,none]∧RF65 HX r)∧Same H HX) ⟨⟨_,_,_,_,none,none,rfl,rf3⟩,e3⟩ ?_ fun σ HX z=>hN _ _ (by obtain ⟨⟨g,m,pt,r,x5,x6,h,_⟩,z⟩:=z;exact ⟨⟨g,m,pt,r,x5,x6,h⟩,z⟩)
  clear rf3 e3
  rintro i σ HX hi ⟨⟨g,m,pt,r,x5,x6,rfl,rf⟩,eX⟩
  walk_at "rd"
  refine ⟨?_,?_⟩
  ·obtain ⟨g',lo,tab,m',lf,tf,mf,ok,fw,wd⟩:=id rf
   split
   ·exact ⟨r,g',lo,tab,m',lf,tf,mf,rfl,ok,fw,fun s9=>absurd s9 (by lia),fun _ H' e=>⟨rf.same e,eX.trans e,rfl,rfl⟩⟩
   ·exact ⟨r,g',lo,tab,m',lf,tf,mf,rfl,ok,fw,fun s9=>absurd s9 (by lia),fun _ H' e=>⟨rf.same e,eX.trans e,rfl,rfl⟩⟩
  rintro σ' cls D' H' ⟨⟨g',m',pt',wy,r',rfl,rf'⟩,e',rfl,rfl⟩
  refine ⟨T.em_48_41,fun ea hea=>?_⟩
  have he:upd H' ea (exo ea (.ref t.c_48) none false) ea=some (exo ea (.ref t.c_48) none false):=upd_same
  refine ⟨_,rfl,_,rfl,?_⟩
  rw [if_neg (by intro z;cases z)]
  refine ⟨_,rfl,_,.exc he T.ek_48,_,T.kt_48_48,?_⟩
  rw [if_neg (by decide)]
  refine ⟨_,rfl,_,.exc he T.ek_48,_,T.kt_TooWide_ValueError,?_⟩
  rw [if_neg (by decide)]
  refine ⟨_,rfl,_,.exc he T.ek_48,_,T.kt_48_54,?_⟩
  rw [if_neg (by decide)]
  refine ⟨_,rfl,_,.exc he T.ek_48,_,T.kt_48_30,?_⟩
  rw [if_neg (by decide)]
  have fe:=Same.new hea (exo ea (.ref t.c_48) none false)
  exact ⟨⟨g',m',pt',r',⟨_,_,rfl⟩,rf'.same fe⟩,e'.trans fe⟩
 rintro σ HX ⟨⟨g',m',pt',r',x5,x6,rfl⟩,eX⟩
 walk_at "rd"
 exact q _ eX
theorem sc_66:FnScope ["_law_script","_law_one","_law_signs","_law_table_here","_law_found","_law_rings_here","_law_row","_law_old"] ["_law_script"] (defScope s_66):=⟨rfl,rfl,rfl,by decide +kernel,rfl,by decide +kernel,by decide +kernel⟩
theorem ok_66 {f:Addr} {fd:FuncData} (T:Txt K mg t) (F:Fun K "law" "law" s_66 f fd) (G_34:Has P w K mg base 3 t.f_34 ["_law_script"] (spRule65 K)) (G_19:Has P w K mg base 1 t.f_19 ["_law_one"] (spFrame65)) (G_42:Has P w K mg base 10 t.f_42 ["one"] (spAK t.c_48)) (G_49:Has P w K mg base 10 t.f_49 ["one"] (spChanges t.c_48)) (G_8:Has P w K mg base 11 t.f_8 ["_law_cell"] (spRefused65)) (G_23:Has P w K mg base 3 t.f_23 ["_law_rings_here","_law_found","_law_signs","_law_table_here"] (spRings65)) (G_7:Has P w K mg base 1 t.f_7 ["_law_script","_law_k"] (spCell K)) (G_21:Has P w K mg base 3 t.f_21 ["_law_found","_law_signs"] (spHeads65)) (G_18:Has P w K mg base 11 t.f_18 ["_law_one","_law_row","_law_table_here"] (spFlows65)):FnOk P w K mg base (CXF P w) 12 f fd ["_law_script"] (spLaw K):=by
 refine F.ok0 sc_66 (fun vs H Q E h=>?_) (fun cdv A outer s H vs Q E hr h=>?_)
 ·obtain ⟨a,ns,rfl,hS,h63,q⟩:=h
  rfl
 obtain ⟨a,ns,rfl,hS,h63,q⟩:=h
 refine ⟨_,(PSsI.out (psi_cons (psi_if (pt_not (pt_val (pe_callH G_8 (hr.mono (by decide)) rfl T.m_8 passF (pa_cons (pe_callH G_7 (hr.mono (by decide)) rfl T.m_7 passF (pa_cons (pv 0) (pa_consC pa_nil))) pa_nil)))) (psi_one (.of (ps_ret pe_bl))) psi_nil)
  (psi_cons (psi_set (i:=1) sc_66.nd rfl (Or.inl rfl) (.of (pe_callH G_34 (hr.mono (by decide)) rfl T.m_34 passF (pa_cons (pv 0) pa_nil))) rfl (by first | exact .inl rfl | exact .inr rfl))
  (psi_cons (psi_set (i:=2) sc_66.nd rfl (Or.inl rfl) (.of (pe_ix ix_tup (pv 1) pe_int (fun _ _=>rfl))) rfl (by first | exact .inl rfl | exact .inr rfl))
  (psi_cons (psi_set (i:=3) sc_66.nd rfl (Or.inl rfl) (.of (pe_callH G_19 (hr.mono (by decide)) rfl T.m_19 passF (pa_cons (pv 1) pa_nil))) rfl (by first | exact .inl rfl | exact .inr rfl))
  (psi_cons (psi_set (i:=4) sc_66.nd rfl (Or.inl rfl) (.of (pe_callH G_42 (hr.mono (by decide)) rfl T.m_42 passF (pa_cons (pv 1) pa_nil))) rfl (by first | exact .inl rfl | exact .inr rfl))
  (psi_cons (psi_set (i:=5) sc_66.nd rfl (Or.inl rfl) (.of (pe_callH G_49 (hr.mono (by decide)) rfl T.m_49 passF (pa_cons (pv 1) pa_nil))) rfl (by first | exact .inl rfl | exact .inr rfl))
  (psi_cons (psi_if (PW.pt (pw_or (pt_not (pt_val (pe_isi rfl T.z_isinstance (pv 4) (pe_ty rfl T.z_list PyProof.Rows.boot_list)))) (pw_or1 (pt_not (pt_val (pe_callH G_21 (hr.mono (by decide)) rfl T.m_21 passF (pa_cons (pv 4) (pa_cons (pv 2) pa_nil)))))))) (psi_one (.of (ps_ret pe_bl))) psi_nil)
  (psi_cons (psi_if (pt_not (pt_val (pe_callH G_23 (hr.mono (by decide)) rfl T.m_23 passF (pa_cons (pv 5) (pa_cons (pv 4) (pa_cons (pv 2) (pa_cons (pv 3) pa_nil))))))) (psi_one (.of (ps_ret pe_bl))) psi_nil)
  (psi_cons (.of (ps_for PassesOwn.never rfl (pi_list (pv 4)) (pg_name (i:=6) sc_66.nd rfl (Or.inl rfl)) (pss_one (ps_if (pt_not (pt_val (pe_callH G_18 (hr.mono (by decide)) rfl T.m_18 passF (pa_cons (pv 1) (pa_cons (pv 6) (pa_cons (pv 3) pa_nil)))))) (pss_one (ps_ret pe_bl)) pss_nil))))
  (psi_cons (psi_set (i:=7) sc_66.nd rfl (Or.inl rfl) (.of (pe_lst (pa_cons (pe_comp (fv:=[]) (cl:=[]) rfl (pi_list (pv 4)) (by with_unfolding_all rfl) (by decide +kernel) rfl (by decide +kernel) rfl trivial (by with_unfolding_all rfl) trivial (by decide) (fun _ _ _ _=>pf_nil) (fun _ _ _ _=>(pe_callTy (call_list_ofK (K:=K) rfl) rfl T.z_list PyProof.Rows.boot_list (pa_cons (pv 0) pa_nil)))) (pa_cons (pe_comp (fv:=[]) (cl:=[]) rfl (pi_list (pv 5)) (by with_unfolding_all rfl) (by decide +kernel) rfl (by decide +kernel) rfl trivial (by with_unfolding_all rfl) trivial (by decide) (fun _ _ _ _=>pf_nil) (fun _ _ _ _=>(pe_callTy (call_list_ofK (K:=K) rfl) rfl T.z_list PyProof.Rows.boot_list (pa_cons (pv 0) pa_nil)))) pa_nil)))) rfl (by first | exact .inl rfl | exact .inr rfl))
  (psi_cons (.of (ps_for PassesOwn.never rfl (pi_list (pe_op op_cat (pv 4) (pv 5))) (pg_name (i:=6) sc_66.nd rfl (Or.inl rfl)) (pss_one (ps_expr (pe_bm PySem.F.plainAttrs_list PySem.F.slot_list_append PySem.F.type_list_append mt_append (pv 6) (pa_consC pa_nil))))))
  (psi_cons (.of (ps_expr (pe_bm0 PySem.F.plainAttrs_list PySem.F.slot_list_clear PySem.F.type_list_clear mt_clear (pv 4))))
  (psi_cons (.of (ps_expr (pe_bm PySem.F.plainAttrs_list PySem.F.slot_list_append PySem.F.type_list_append mt_append (pv 5) (pa_cons (pe_lst (pa_consC pa_nil)) pa_nil))))
  (psi_one (.of (ps_ret (pe_and (pe_cmpR (op_eqD hr.units) (pe_callH G_42 (hr.mono (by decide)) rfl T.m_42 passF (pa_cons (pv 1) pa_nil)) (pe_ix ix_list (pv 7) pe_int (fun _ _=>rfl)) (nomark _)) (pe_one (pe_cmpR (op_eqD hr.units) (pe_callH G_49 (hr.mono (by decide)) rfl T.m_49 passF (pa_cons (pv 1) pa_nil)) (pe_ix ix_list (pv 7) pe_int (fun _ _=>rfl)) (nomark _))))))))))))))))))))),?_⟩
 refine cut (fun σ HX=>σ=[some (.ref a),none,none,none,none,none,none,none]∧Same H HX) (fun N hN=>?_) ?_
 ·walk_at "rd"
  refine ⟨a,ns,1,rfl,hS,h63,_,rfl,fun H1 e1=>⟨true,rfl,?_⟩⟩
  rw [if_neg (by decide)]
  exact hN _ _ ⟨rfl,e1⟩
 rintro σ HX ⟨rfl,eX⟩
 refine hide fun N hN=>?_
 walk_at "rd"
 refine ⟨a,ns,rfl,eX.seq hS,h63,fun r H1 g lo tab m e1 ok frm=>hN _ _ ?_⟩
 clear hN N
 have g2:=ok.g2
 have g9:=ok.g9
 have gn:((g.toNat:Nat):Int)=g:=by lia
 obtain ⟨tb,h1,h2⟩:=id ok.v
 refine hide fun N hN=>?_
 walk_at "rd"
 refine ⟨r,_,0,_,rfl,rfl,SqT.of h1,rfl,hN _ _ ?_⟩
 clear hN N
 refine hide fun N hN=>?_
 walk_at "rd"
 refine ⟨r,g,lo,tab,m,rfl,ok,fun pt lf tf mf H2 e2 fw ht tfl mf8=>hN _ _ ?_⟩
 clear hN N
 have f9:=frm lf tf mf fw
 have mf2:=fw.two
 have tfb:=FrameW.lt g2 ok.tb fw
 have ok2:=ok.same e2
 refine hide fun N hN=>?_
 walk_at "rd"
 refine ⟨r,g,lo,tab,m,lf,tf,mf,rfl,ok2,fw,fun _ pf ps rings Rs fs H3 e3 v3 B=>hN _ _ ?_,fun s9=>absurd s9 (by lia)⟩
 clear hN N
 refine hide fun N hN=>?_
 walk_at "rd"
 refine ⟨r,g,lo,tab,m,lf,tf,mf,rfl,ok2.same e3,fw,fun _ pr rs rings' Rs' fs' H4 e4 v4 B'=>hN _ _ ?_,fun s9=>absurd s9 (by lia)⟩
 clear hN N
 obtain ⟨rfl,rfl,rfl⟩:=B.ran.uniq B'.ran
 have kr:=fun w hw=>kept_right g2 ok.len fw ok.tb mf8 B (w:=w) hw
 have k9:=keptL_len g.toNat Rs fs g.toNat
 have r8:rings.length≤8:=by rw [B.cnt];exact B.few
 have rlen:∀ ring∈rings,1≤ring.length∧ring.length<32:=fun ring h=>ask_len mf2 mf8 (B.sub ring h)
 have ok4:=ok2.same (e3.trans e4)
 have ht4:=(e3.trans e4) _ _ ht
 have vf4:=v3.same e4
 refine forget (fun HX=>RuleOk HX r g lo tab m∧HX pt=some (.lst (tf.map V.int))∧LsV HX pf ps (keptL g.toNat Rs fs g.toNat)∧LsV HX pr rs rings) ⟨ok4,ht4,vf4,v4⟩ ?_
 clear ok4 ht4 vf4 v4 e4 v3 e3 ok2 ht e2 h1 h2 tb ok e1 eX hS frm B'
 rintro H5 ⟨ok5,ht5,vf5,vr5⟩
 refine cut (fun σ HX=>σ=[some (.ref a),some (.ref r),some (.int g),some (.ref pt),some (.ref pf),some (.ref pr),none,none]∧Same H5 HX) (fun N hN=>?_) ?_
 ·walk_at "rd"
  refine ⟨_,.of (.lst vf5.l),_,ki_ll,?_⟩
  rw [if_neg (by decide)]
  refine ⟨pf,ps,g.toNat,Rs,fs,by rw [gn],vf5,B.rows,by lia,fun H6 e6=>⟨true,rfl,?_⟩⟩
  rw [if_neg (by decide)]
  exact hN _ _ ⟨rfl,e6⟩
 rintro σ HX ⟨rfl,e6⟩
 refine cut (fun σ HX=>σ=[some (.ref a),some (.ref r),some (.int g),some (.ref pt),some (.ref pf),some (.ref pr),none,none]∧Same H5 HX) (fun N hN=>?_) ?_
 ·walk_at "rd"
  refine ⟨pr,pf,pt,rs,ps,g,lf,tf,mf,rings,Rs,fs,rings,Rs,fs,rfl,g2,g9,vr5.same e6,vf5.same e6,B,B,e6 _ _ ht5,tfl,mf2,mf8,tfb,fun H7 e7=>⟨true,rfl,?_⟩⟩
  rw [if_neg (by decide)]
  exact hN _ _ ⟨rfl,e6.trans e7⟩
 clear e6
 rintro σ HX ⟨rfl,e6⟩
 refine cut (fun σ HY=>(∃ x6,σ=[some (.ref a),some (.ref r),some (.int g),some (.ref pt),some (.ref pf),some (.ref pr),x6,none])∧Same H5 HY) (fun N hN=>?_) ?_
 ·refine ⟨_,rfl,pf,rfl,⟨_,SqL.of (e6 _ _ vf5.l)⟩,?_⟩
  refine for_list (xs:=ps.map V.ref) (fun i σ HY=>(∃ x6,σ=[some (.ref a),some (.ref r),some (.int g),some (.ref pt),some (.ref pf),some (.ref pr),x6,none])∧Same H5 HY) ⟨⟨none,rfl⟩,e6⟩ (fun i σ HY _ z=>SqL.of (z.2 _ _ vf5.l)) ?_ fun σ HY z=>hN _ _ z
  rintro i x σ HY hx ⟨⟨x6,rfl⟩,eY⟩
  obtain ⟨o,rfl,ho1,il,ho2,hoH⟩:=vf5.at hx
  have om:=List.mem_of_getElem? ho2
  obtain ⟨w1,w2,w3⟩:=kr _ om
  walk_at "rd"
  refine ⟨r,o,pt,g,lo,tab,m,lf,tf,mf,_,rfl,ok5.same eY,fw,f9,mf8,eY _ _ hoH,w1,eY _ _ ht5,tfl,w3,fun H7 e7=>⟨true,rfl,?_⟩⟩
  rw [if_neg (by decide)]
  exact ⟨⟨_,rfl⟩,eY.trans e7⟩
 rintro σ HY ⟨⟨x6,rfl⟩,eY⟩
 have okY:=ok5.same eY
 have vfY:=vf5.same eY
 have vrY:=vr5.same eY
 clear e6 ht5 vf5 vr5 ok5 eY
 refine hide fun N hN=>?_
 walk_at "rd"
 obtain ⟨found,hfd⟩:∃ found,found=keptL g.toNat Rs fs g.toNat:=⟨_,rfl⟩
 rw [←hfd] at vfY k9 kr
 have fl9:∀ u∈found,u.length=g.toNat:=fun u hu=>(kr u hu).1
 refine ⟨_,rfl,pf,rfl,⟨_,SqL.of vfY.l⟩,fun D hD=>?_⟩
 refine comp_list (xs:=ps.map V.ref) (fun i acc Hx=>∃ qs:List Addr,acc=qs.map V.ref∧LsV Hx D qs (found.take i)∧Same HY Hx∧∀ q∈qs,HY q=none) ⟨[],rfl,⟨upd_same,rfl,fun i q w h=>by cases h⟩,Same.new hD _,fun q h=>by cases h⟩ (fun i acc Hx _ z=>by obtain ⟨_,_,_,z,_⟩:=z;exact SqL.of (z _ _ vfY.l)) ?_ ?_
 ·rintro i x acc Hx hx ⟨qs,rfl,vq,ex,nq⟩
  obtain ⟨o,rfl,ho1,il,ho2,hoH⟩:=vfY.at hx
  obtain ⟨w,hw⟩:∃ w,w=found.getD i []:=⟨_,rfl⟩
  rw [←hw] at ho2 hoH
  have tk:found.take (i+1)=found.take i++[w]:=by rw [Z22,ho2];rfl
  have wl:=fl9 w (List.mem_of_getElem? ho2)
  walk_at "rd"
  refine ⟨_,.inl (SqL.of (ex _ _ hoH)),fun l hl=>?_⟩
  have fl:=Same.new hl (.lst (w.map V.int))
  refine ⟨(vq.same fl).l,?_,qs++[l],by rw [Z3];rfl,?_,(ex.trans fl).into hD,fun q hq=>by
   rcases List.mem_append.mp hq with z | z
   ·exact nq q z
   ·rw [List.mem_singleton.mp z];exact ex.free hl⟩
  ·rw [Z1,vq.n,Z16]
   exact small1000 (by lia)
  ·rw [tk]
   exact (vq.same fl).snoc (fun u hu=>by have:=fl9 u (List.mem_of_mem_take hu);lia) (by lia) upd_same
 rintro acc H6 ⟨q1,rfl,v6,e6,n1⟩
 rw [Z1,vfY.n,Z14] at v6
 have vr6:=vrY.same e6
 refine ⟨_,rfl,pr,rfl,⟨_,SqL.of vr6.l⟩,fun D2 hD2=>?_⟩
 refine comp_list (xs:=rs.map V.ref) (fun i acc Hx=>∃ qs:List Addr,acc=qs.map V.ref∧LsV Hx D2 qs (rings.take i)∧Same H6 Hx∧∀ q∈qs,HY q=none) ⟨[],rfl,⟨upd_same,rfl,fun i q w h=>by cases h⟩,Same.new hD2 _,fun q h=>by cases h⟩ (fun i acc Hx _ z=>by obtain ⟨_,_,_,z,_⟩:=z;exact SqL.of (z _ _ vr6.l)) ?_ ?_
 ·rintro i x acc Hx hx ⟨qs,rfl,vq,ex,nq⟩
  obtain ⟨o,rfl,ho1,il,ho2,hoH⟩:=vr6.at hx
  obtain ⟨w,hw⟩:∃ w,w=rings.getD i []:=⟨_,rfl⟩
  rw [←hw] at ho2 hoH
  have tk:rings.take (i+1)=rings.take i++[w]:=by rw [Z22,ho2];rfl
  have wl:=rlen w (List.mem_of_getElem? ho2)
  walk_at "rd"
  refine ⟨_,.inl (SqL.of (ex _ _ hoH)),fun l hl=>?_⟩
  have fl:=Same.new hl (.lst (w.map V.int))
  refine ⟨(vq.same fl).l,?_,qs++[l],by rw [Z3];rfl,?_,(ex.trans fl).into hD2,fun q hq=>by
   rcases List.mem_append.mp hq with z | z
   ·exact nq q z
   ·rw [List.mem_singleton.mp z];exact (e6.trans ex).free hl⟩
  ·rw [Z1,vq.n,Z16]
   exact small1000 (by lia)
  ·rw [tk]
   exact (vq.same fl).snoc (fun u hu=>(rlen u (List.mem_of_mem_take hu)).1) wl.1 upd_same
 rintro acc H7 ⟨q2,rfl,v7,e7,n2⟩
 rw [Z1,vr6.n,Z14] at v7
 refine ⟨by decide,fun p8 hp8=>hN _ _ ?_⟩
 clear hN N
 have f8:=Same.new hp8 (.lst [.ref D,.ref D2])
 have eY8:=(e6.trans e7).trans f8
 have old8:Old65 HY (upd H7 p8 (.lst [.ref D,.ref D2])) r g lo tab m p8 D D2 q1 q2 found rings:=⟨okY.same eY8,upd_same,v6.same (e7.trans f8),v7.same f8,(e6.trans e7).free hp8,hD,e6.free hD2,n1,n2⟩
 have pf8:=eY8 _ _ vfY.l
 have pr8:=eY8 _ _ vrY.l
 have all8:∀ o∈ps++rs,HY o≠none∧∃ w:List Int,upd H7 p8 (.lst [.ref D,.ref D2]) o=some (.lst (w.map V.int))∧1≤w.length∧w.length≤32:=fun o ho=>by
  rcases List.mem_append.mp ho with z | z
  ·obtain ⟨i,hi⟩:=List.mem_iff_getElem?.mp z
   have il:i<found.length:=by rw [←vfY.n];exact (List.getElem?_eq_some_iff.mp hi).1
   have a1:=vfY.e i o _ hi (List.getElem?_eq_getElem il)
   have a2:=fl9 _ (List.getElem_mem il)
   exact ⟨(by rw [a1];intro z;cases z),_,eY8 _ _ a1,by lia,by lia⟩
  ·obtain ⟨i,hi⟩:=List.mem_iff_getElem?.mp z
   have il:i<rings.length:=by rw [←vrY.n];exact (List.getElem?_eq_some_iff.mp hi).1
   have a1:=vrY.e i o _ hi (List.getElem?_eq_getElem il)
   have a2:=rlen _ (List.getElem_mem il)
   exact ⟨(by rw [a1];intro z;cases z),_,eY8 _ _ a1,by lia,by lia⟩
 have npf:HY pf≠none:=by rw [vfY.l];intro z;cases z
 have npr:HY pr≠none:=by rw [vrY.l];intro z;cases z
 have psn:ps.length+rs.length≤20:=by rw [vfY.n,vrY.n];lia
 generalize upd H7 p8 (.lst [.ref D,.ref D2])=H8 at old8 pf8 pr8 all8 ⊢
 clear f8 eY8 v7 v6 e7 e6 hp8 hD hD2 vr6
 refine cut (fun σ HX=>(∃ x6,σ=[some (.ref a),some (.ref r),some (.int g),some (.ref pt),some (.ref pf),some (.ref pr),x6,some (.ref p8)])∧Old65 HY HX r g lo tab m p8 D D2 q1 q2 found rings∧HX pf=some (.lst (ps.map V.ref))∧HX pr=some (.lst (rs.map V.ref))) (fun N hN=>?_) ?_
 ·refine ⟨_,rfl,_,rfl,cat_new pf8 pr8 (by rw [Z1,Z1];lia) fun pc H9 e9 _ h9=>⟨pc,rfl,⟨_,SqL.of h9⟩,?_⟩⟩
  rw [←Z3] at h9
  refine for_list (xs:=(ps++rs).map V.ref) (fun i σ HX=>(∃ x6,σ=[some (.ref a),some (.ref r),some (.int g),some (.ref pt),some (.ref pf),some (.ref pr),x6,some (.ref p8)])∧Old65 HY HX r g lo tab m p8 D D2 q1 q2 found rings∧HX pf=some (.lst (ps.map V.ref))∧HX pr=some (.lst (rs.map V.ref))∧HX pc=some (.lst ((ps++rs).map V.ref))∧∀ o∈ps++rs,HY o≠none∧∃ w:List Int,HX o=some (.lst (w.map V.int))∧1≤w.length∧w.length≤32+i) ⟨⟨_,rfl⟩,old8.same e9,e9 _ _ pf8,e9 _ _ pr8,h9,fun o ho=>by
   obtain ⟨z,w,h1,h2,h3⟩:=all8 o ho
   exact ⟨z,w,e9 _ _ h1,h2,h3⟩⟩ (fun i σ HX _ z=>SqL.of z.2.2.2.2.1) ?_ fun σ HX z=>hN _ _ ⟨z.1,z.2.1,z.2.2.1,z.2.2.2.1⟩
  rintro i x σ HX hx ⟨⟨x6,rfl⟩,oX,fX,rX,cX,aX⟩
  rw [Z6] at hx
  obtain ⟨o,ho,rfl⟩:∃ o,(ps++rs)[i]?=some o∧x=.ref o:=by
   cases z:(ps++rs)[i]? with
   | none=>rw [z] at hx;cases hx
   | some o=>rw [z] at hx;exact ⟨o,rfl,(Option.some.inj hx).symm⟩
  have il:=(List.getElem?_eq_some_iff.mp ho).1
  rw [Z4] at il
  obtain ⟨oz,w,ow,w1,w2⟩:=aX o (List.mem_of_getElem? ho)
  have kf:=kind_ne ow w1 fX
  have kr':=kind_ne ow w1 rX
  have kc:=kind_ne ow w1 cX
  walk_at "rd"
  refine ⟨.inl ⟨_,SqL.of ow⟩,_,ow,by rw [Z1];exact small1000 (by lia),⟨_,rfl⟩,oX.upd _ oz ow,by rw [upd_ne (Ne.symm kf)];exact fX,by rw [upd_ne (Ne.symm kr')];exact rX,by rw [upd_ne (Ne.symm kc)];exact cX,fun o' ho'=>?_⟩
  obtain ⟨z,w',h1,h2,h3⟩:=aX o' ho'
  refine ⟨z,?_⟩
  by_cases c:o'=o
  ·rw [c]
   exact ⟨w++[0],by rw [upd_same,Z3];rfl,by rw [Z4];lia,by rw [Z4];show w.length+1≤_;lia⟩
  ·exact ⟨w',by rw [upd_ne c];exact h1,h2,by lia⟩
 rintro σ HX ⟨⟨x6,rfl⟩,oX,fX,rX⟩
 refine hide fun N hN=>?_
 walk_at "rd"
 refine ⟨_,rfl,.inl ⟨rfl,_,SqL.of fX⟩,pf,_,rfl,rfl,fX,hN _ _ ?_⟩
 clear hN N
 have oZ:=oX.upd (.lst []) npf fX
 obtain ⟨xs,hxs,xl⟩:∃ xs:List V,upd HX pf (.lst []) pr=some (.lst xs)∧xs.length≤20:=by
  by_cases c:pr=pf
  ·exact ⟨[],by rw [c,upd_same],Nat.zero_le _⟩
  ·exact ⟨_,by rw [upd_ne c];exact rX,by rw [Z1];lia⟩
 generalize upd HX pf (.lst [])=HZ at oZ hxs ⊢
 refine hide fun N hN=>?_
 walk_at "rd"
 refine ⟨.inl ⟨_,SqL.of hxs⟩,by decide,fun p10 hp10=>?_⟩
 have f10:=Same.new hp10 (.lst [V.int 0])
 refine ⟨xs,f10 _ _ hxs,small1000 (by lia),hN _ _ ?_⟩
 clear hN N
 have oW:=(oZ.same f10).upd (.lst (xs++[V.ref p10])) npr (f10 _ _ hxs)
 generalize upd (upd HZ p10 (.lst [V.int 0])) pr (.lst (xs++[V.ref p10]))=HW at oW ⊢
 walk_at "rd"
 refine ⟨r,g,lo,tab,m,lf,tf,mf,rfl,oW.ok,fw,fun _ pA rA ringsA RsA fsA HA eA vA BA=>?_,fun s9=>absurd s9 (by lia)⟩
 obtain ⟨rfl,rfl,rfl⟩:=B.ran.uniq BA.ran
 rw [←hfd] at vA
 have oA:=oW.same eA
 refine ⟨p8,_,0,_,rfl,rfl,SqL.of oA.l,rfl,_,_,vA.dat,oA.v1.dat,datL_lay _,datL_lay _,datL_depth _,?_⟩
 rw [datL_eqv]
 refine ⟨true,rfl,?_⟩
 rw [if_pos rfl]
 refine ⟨r,g,lo,tab,m,lf,tf,mf,rfl,oA.ok,fw,fun _ pC rC ringsC RsC fsC HC eC vC BC=>?_,fun s9=>absurd s9 (by lia)⟩
 obtain ⟨rfl,rfl,rfl⟩:=B.ran.uniq BC.ran
 have oC:=oA.same eC
 refine ⟨p8,_,1,_,rfl,rfl,SqL.of oC.l,rfl,_,_,vC.dat,oC.v2.dat,datL_lay _,datL_lay _,datL_depth _,?_⟩
 rw [datL_eqv]
 exact q _
end
theorem all_mk {l:PySem.W.OpenLaw} {w:World} {K:PySem.W.Frag} {h:Heap} {mg:Str→Option Value} {fa c_41 c_54 c_59 c_55 c_40 c_48 c_30 f_4 f_46 f_51 f_27 f_9 f_39 f_53 f_26 f_29 f_11 f_15 f_65 f_58 f_38 f_62 f_56 f_43 f_3 f_35 f_57 f_52 f_61 f_64 f_37 f_36 f_10 f_1 f_47 f_63 f_50 f_2 f_0 f_42 f_49 f_5 f_17 f_28 f_45 f_6 f_44 f_16 f_60 f_25 f_7 f_14 f_22 f_20 f_24 f_34 f_19 f_32 f_31 f_13 f_21 f_18 f_12 f_33 f_23 f_8 f_66:Addr} {g_LONGEST_TABLE g_MOST_NODES g_MOST_GAINS:Tok} (X:K.In h) (G:h.Ns mainGlobals mg) (hfa:mg "law"=some (.ref fa))
  (n_41:PySem.W.nsIn K mainGlobals "RowError"=some (some (.ref c_41)))
  (n_54:PySem.W.nsIn K mainGlobals "NoRule"=some (some (.ref c_54)))
  (n_59:PySem.W.nsIn K mainGlobals "NoRow"=some (some (.ref c_59)))
  (n_55:PySem.W.nsIn K mainGlobals "NoSuch"=some (some (.ref c_55)))
  (n_40:PySem.W.nsIn K mainGlobals "NoWindow"=some (some (.ref c_40)))
  (n_48:PySem.W.nsIn K mainGlobals "TooWide"=some (some (.ref c_48)))
  (n_30:PySem.W.nsIn K mainGlobals "NoWeights"=some (some (.ref c_30)))
  (a_4:PySem.W.findIn K (.ref c_59) "__init__"=some (some (.ref f_4)))
  (h_4:∃ fd,Fun K "__init__" "NoRow.__init__" s_4 f_4 fd)
  (h_46:HasDef K "is_whole" s_46 f_46)
  (h_51:HasDef K "is_sign" s_51 f_51)
  (h_27:HasDef K "check_word" s_27 f_27)
  (h_9:HasDef K "check_length" s_9 f_9)
  (h_39:HasDef K "number_of" s_39 f_39)
  (h_53:HasDef K "word_of" s_53 f_53)
  (h_26:HasDef K "check_head" s_26 f_26)
  (h_29:HasDef K "places_for" s_29 f_29)
  (h_11:HasDef K "table_length" s_11 f_11)
  (h_15:HasDef K "check_table" s_15 f_15)
  (h_65:HasDef K "rule" s_65 f_65)
  (h_58:HasDef K "places" s_58 f_58)
  (h_38:HasDef K "next_sign" s_38 f_38)
  (h_62:HasDef K "heads" s_62 f_62)
  (h_56:HasDef K "counts" s_56 f_56)
  (h_43:HasDef K "counting" s_43 f_43)
  (h_3:HasDef K "sign_or_nought" s_3 f_3)
  (h_35:HasDef K "by_window" s_35 f_35)
  (h_57:HasDef K "narrow" s_57 f_57)
  (h_52:HasDef K "widened" s_52 f_52)
  (h_61:HasDef K "frame" s_61 f_61)
  (h_64:HasDef K "lead" s_64 f_64)
  (h_37:HasDef K "lead_ring" s_37 f_37)
  (h_36:HasDef K "change_of" s_36 f_36)
  (h_10:HasDef K "rings_to_ask" s_10 f_10)
  (h_1:HasDef K "common_divisor" s_1 f_1)
  (h_47:HasDef K "simplest" s_47 f_47)
  (h_63:HasDef K "foot" s_63 f_63)
  (h_50:HasDef K "cleared" s_50 f_50)
  (h_2:HasDef K "rings_and_rows" s_2 f_2)
  (h_0:HasDef K "weights_with_head" s_0 f_0)
  (h_42:HasDef K "all_kept" s_42 f_42)
  (h_49:HasDef K "changes" s_49 f_49)
  (h_5:HasDef K "check_weights" s_5 f_5)
  (h_17:HasDef K "gain_places" s_17 f_17)
  (h_28:HasDef K "many_gains" s_28 f_28)
  (h_45:HasDef K "gains_by" s_45 f_45)
  (h_6:HasDef K "checked_gains" s_6 f_6)
  (h_44:HasDef K "flows_by" s_44 f_44)
  (h_16:HasDef K "first_wrong" s_16 f_16)
  (h_60:HasDef K "flows" s_60 f_60)
  (h_25:HasDef K "_law_whole" s_25 f_25)
  (h_7:HasDef K "_law_cell_at" s_7 f_7)
  (h_14:HasDef K "_law_stream" s_14 f_14)
  (h_22:HasDef K "_law_power" s_22 f_22)
  (h_20:HasDef K "_law_going" s_20 f_20)
  (h_24:HasDef K "_law_table" s_24 f_24)
  (h_34:HasDef K "_law_rule" s_34 f_34)
  (h_19:HasDef K "_law_frame" s_19 f_19)
  (h_32:HasDef K "_law_list" s_32 f_32)
  (h_31:HasDef K "_law_head" s_31 f_31)
  (h_13:HasDef K "_law_simple" s_13 f_13)
  (h_21:HasDef K "_law_heads" s_21 f_21)
  (h_18:HasDef K "_law_flows" s_18 f_18)
  (h_12:HasDef K "_law_change" s_12 f_12)
  (h_33:HasDef K "_law_rank" s_33 f_33)
  (h_23:HasDef K "_law_rings" s_23 f_23)
  (h_8:HasDef K "_law_refused" s_8 f_8)
  (h_66:HasDef K "law" s_66 f_66)
  (z_len:PySem.W.nsIn K mainGlobals "len"=some none)
  (z_list:PySem.W.nsIn K mainGlobals "list"=some none)
  (z_reversed:PySem.W.nsIn K mainGlobals "reversed"=some none)
  (z_isinstance:PySem.W.nsIn K mainGlobals "isinstance"=some none)
  (z_range:PySem.W.nsIn K mainGlobals "range"=some none)
  (z_int:PySem.W.nsIn K mainGlobals "int"=some none)
  (z_bool:PySem.W.nsIn K mainGlobals "bool"=some none)
  (z_ValueError:PySem.W.nsIn K mainGlobals "ValueError"=some none)
  (z_tuple:PySem.W.nsIn K mainGlobals "tuple"=some none)
  (z_enumerate:PySem.W.nsIn K mainGlobals "enumerate"=some none)
  (z_min:PySem.W.nsIn K mainGlobals "min"=some none)
  (z_max:PySem.W.nsIn K mainGlobals "max"=some none)
  (z_sum:PySem.W.nsIn K mainGlobals "sum"=some none)
  (z_abs:PySem.W.nsIn K mainGlobals "abs"=some none)
  (z_any:PySem.W.nsIn K mainGlobals "any"=some none)
  (z_zip:PySem.W.nsIn K mainGlobals "zip"=some none)
  (w_LONGEST_TABLE:PySem.W.nsIn K mainGlobals "LONGEST_TABLE"=some (some (.int 256 g_LONGEST_TABLE)))
  (w_MOST_NODES:PySem.W.nsIn K mainGlobals "MOST_NODES"=some (some (.int 9 g_MOST_NODES)))
  (w_MOST_GAINS:PySem.W.nsIn K mainGlobals "MOST_GAINS"=some (some (.int 729 g_MOST_GAINS)))
  (x_54:PySem.W.excIn K c_54 bmVE "ValueError.__new__"=true)
  (x_55:PySem.W.excIn K c_55 bmVE "ValueError.__new__"=true)
  (x_40:PySem.W.excIn K c_40 bmVE "ValueError.__new__"=true)
  (x_48:PySem.W.excIn K c_48 bmVE "ValueError.__new__"=true)
  (x_30:PySem.W.excIn K c_30 bmVE "ValueError.__new__"=true)
  (xi_59:exI K c_59 f_4=true)
  (xt_59:PySem.W.typeIn K (.ref f_4)=some (.type "function"))
  (xk_59:PySem.W.keepIn K (.ref c_59)=true)
  (ci_59:(PySem.W.clsIn K c_59).isSome=true)
  (ga_59:PySem.W.findIn K (.ref c_59) "__getattribute__"=some (some (.builtin "BaseException.__getattribute__")))
  (gn_59:PySem.W.findIn K (.ref c_59) "__getattr__"=some none)
  (ca_59:PySem.W.findIn K (.ref c_59) "__class__"=some (some (.builtin "object.__class__")))
  (sg_59:PySem.W.specialIn K (.builtin "object.__class__") "__get__"=some (some (.builtin "getset_descriptor.__get__")))
  (tk_59:PySem.W.takesIn K (.builtin "object.__class__")=some true)
  (mo_59:PySem.W.mroIn K c_59 (.type "object")=some true)
  (mb_59:PySem.W.mroIn K c_59 (.type "BaseException")=some true)
  (ci_48:(PySem.W.clsIn K c_48).isSome=true)
  (ga_48:PySem.W.findIn K (.ref c_48) "__getattribute__"=some (some (.builtin "BaseException.__getattribute__")))
  (gn_48:PySem.W.findIn K (.ref c_48) "__getattr__"=some none)
  (ca_48:PySem.W.findIn K (.ref c_48) "__class__"=some (some (.builtin "object.__class__")))
  (sg_48:PySem.W.specialIn K (.builtin "object.__class__") "__get__"=some (some (.builtin "getset_descriptor.__get__")))
  (tk_48:PySem.W.takesIn K (.builtin "object.__class__")=some true)
  (mo_48:PySem.W.mroIn K c_48 (.type "object")=some true)
  (mb_48:PySem.W.mroIn K c_48 (.type "BaseException")=some true)
  (sa_59:PySem.W.findIn K (.ref c_59) "__setattr__"=some (some (.builtin "object.__setattr__")))
  (hd_59:PySem.W.hasDictIn K c_59=true)
  (mr_59:mroT K c_59 c_41=true)
  (no_59:PySem.W.findIn K (.ref c_59) "at"=some none)
  (kt_48_48:PySem.W.kitOne K (.ref c_48) (.ref c_48)=some true)
  (kt_TooWide_ValueError:PySem.W.kitOne K (.ref c_48) (.type "ValueError")=some true)
  (kt_48_54:PySem.W.kitOne K (.ref c_48) (.ref c_54)=some false)
  (kt_48_30:PySem.W.kitOne K (.ref c_48) (.ref c_30)=some false)
  (em_48_41:PySem.W.exmOne K (.ref c_48) (.ref c_41)=some true)
  : ∃ fd:FuncData,(∀ (s:Shared) (v:Value),BindsTo s fd ⟨[v],[]⟩ [("_law_script",v)])∧∀ base:Heap,K.In base→base.Ns mainGlobals mg→FnOk l.prog w K mg base (CXF l.prog w) 12 fa fd ["_law_script"] (spLaw K):=by
 have T:Txt K mg ⟨c_41,c_54,c_59,c_55,c_40,c_48,c_30,f_4,f_46,f_51,f_27,f_9,f_39,f_53,f_26,f_29,f_11,f_15,f_65,f_58,f_38,f_62,f_56,f_43,f_3,f_35,f_57,f_52,f_61,f_64,f_37,f_36,f_10,f_1,f_47,f_63,f_50,f_2,f_0,f_42,f_49,f_5,f_17,f_28,f_45,f_6,f_44,f_16,f_60,f_25,f_7,f_14,f_22,f_20,f_24,f_34,f_19,f_32,f_31,f_13,f_21,f_18,f_12,f_33,f_23,f_8,f_66⟩:=⟨PySem.W.mg_of X G n_41,PySem.W.mg_of X G n_54,PySem.W.mg_of X G n_59,PySem.W.mg_of X G n_55,PySem.W.mg_of X G n_40,PySem.W.mg_of X G n_48,PySem.W.mg_of X G n_30,h_4,PySem.W.mg_of X G h_46.2,h_46.1,PySem.W.mg_of X G h_51.2,h_51.1,PySem.W.mg_of X G h_27.2,h_27.1,PySem.W.mg_of X G h_9.2,h_9.1,PySem.W.mg_of X G h_39.2,h_39.1,PySem.W.mg_of X G h_53.2,h_53.1,PySem.W.mg_of X G h_26.2,h_26.1,PySem.W.mg_of X G h_29.2,h_29.1,PySem.W.mg_of X G h_11.2,h_11.1,PySem.W.mg_of X G h_15.2,h_15.1,PySem.W.mg_of X G h_65.2,h_65.1,PySem.W.mg_of X G h_58.2,h_58.1,PySem.W.mg_of X G h_38.2,h_38.1,PySem.W.mg_of X G h_62.2,h_62.1,PySem.W.mg_of X G h_56.2,h_56.1,PySem.W.mg_of X G h_43.2,h_43.1,PySem.W.mg_of X G h_3.2,h_3.1,PySem.W.mg_of X G h_35.2,h_35.1,PySem.W.mg_of X G h_57.2,h_57.1,PySem.W.mg_of X G h_52.2,h_52.1,PySem.W.mg_of X G h_61.2,h_61.1,PySem.W.mg_of X G h_64.2,h_64.1,PySem.W.mg_of X G h_37.2,h_37.1,PySem.W.mg_of X G h_36.2,h_36.1,PySem.W.mg_of X G h_10.2,h_10.1,PySem.W.mg_of X G h_1.2,h_1.1,PySem.W.mg_of X G h_47.2,h_47.1,PySem.W.mg_of X G h_63.2,h_63.1,PySem.W.mg_of X G h_50.2,h_50.1,PySem.W.mg_of X G h_2.2,h_2.1,PySem.W.mg_of X G h_0.2,h_0.1,PySem.W.mg_of X G h_42.2,h_42.1,PySem.W.mg_of X G h_49.2,h_49.1,PySem.W.mg_of X G h_5.2,h_5.1,PySem.W.mg_of X G h_17.2,h_17.1,PySem.W.mg_of X G h_28.2,h_28.1,PySem.W.mg_of X G h_45.2,h_45.1,PySem.W.mg_of X G h_6.2,h_6.1,PySem.W.mg_of X G h_44.2,h_44.1,PySem.W.mg_of X G h_16.2,h_16.1,PySem.W.mg_of X G h_60.2,h_60.1,PySem.W.mg_of X G h_25.2,h_25.1,PySem.W.mg_of X G h_7.2,h_7.1,PySem.W.mg_of X G h_14.2,h_14.1,PySem.W.mg_of X G h_22.2,h_22.1,PySem.W.mg_of X G h_20.2,h_20.1,PySem.W.mg_of X G h_24.2,h_24.1,PySem.W.mg_of X G h_34.2,h_34.1,PySem.W.mg_of X G h_19.2,h_19.1,PySem.W.mg_of X G h_32.2,h_32.1,PySem.W.mg_of X G h_31.2,h_31.1,PySem.W.mg_of X G h_13.2,h_13.1,PySem.W.mg_of X G h_21.2,h_21.1,PySem.W.mg_of X G h_18.2,h_18.1,PySem.W.mg_of X G h_12.2,h_12.1,PySem.W.mg_of X G h_33.2,h_33.1,PySem.W.mg_of X G h_23.2,h_23.1,PySem.W.mg_of X G h_8.2,h_8.1,PySem.W.mg_of X G h_66.2,h_66.1,PySem.W.mg_none_of X G z_len,PySem.W.mg_none_of X G z_list,PySem.W.mg_none_of X G z_reversed,PySem.W.mg_none_of X G z_isinstance,PySem.W.mg_none_of X G z_range,PySem.W.mg_none_of X G z_int,PySem.W.mg_none_of X G z_bool,PySem.W.mg_none_of X G z_ValueError,PySem.W.mg_none_of X G z_tuple,PySem.W.mg_none_of X G z_enumerate,PySem.W.mg_none_of X G z_min,PySem.W.mg_none_of X G z_max,PySem.W.mg_none_of X G z_sum,PySem.W.mg_none_of X G z_abs,PySem.W.mg_none_of X G z_any,PySem.W.mg_none_of X G z_zip,⟨_,PySem.W.mg_of X G w_LONGEST_TABLE⟩,⟨_,PySem.W.mg_of X G w_MOST_NODES⟩,⟨_,PySem.W.mg_of X G w_MOST_GAINS⟩,x_54,x_55,x_40,x_48,x_30,⟨xi_59,xt_59,xk_59⟩,⟨ci_59,ga_59,gn_59,ca_59,sg_59,tk_59,mo_59,mb_59⟩,⟨ci_48,ga_48,gn_48,ca_48,sg_48,tk_48,mo_48,mb_48⟩,⟨sa_59,hd_59,mr_59,no_59,⟨ci_59,ga_59,gn_59,ca_59,sg_59,tk_59,mo_59,mb_59⟩⟩,kt_48_48,kt_TooWide_ValueError,kt_48_54,kt_48_30,em_48_41⟩
 have e:=hfa.symm.trans T.m_66
 cases e
 obtain ⟨fd,F⟩:=T.d_66
 obtain ⟨oc,od,kV,doc,pm,an,cdv,ct,osl,ef,lk,hcd⟩:=F.ex
 refine ⟨fd,fun s v=>by rw [ef];exact .of_eq rfl,fun base _ _=>?_⟩
 have G_4:=ok_4 (P:=l.prog) (w:=w) (base:=base) T
 have G_46:=ok_46 (P:=l.prog) (w:=w) (base:=base) T
 have G_51:=ok_51 (P:=l.prog) (w:=w) (base:=base) T G_46
 have G_27:=ok_27 (P:=l.prog) (w:=w) (base:=base) T G_51 G_4
 have G_9:=ok_9 (P:=l.prog) (w:=w) (base:=base) T G_27 G_4
 have G_39:=ok_39 (P:=l.prog) (w:=w) (base:=base) T G_27
 have G_53:=ok_53 (P:=l.prog) (w:=w) (base:=base) T
 have G_26:=ok_26 (P:=l.prog) (w:=w) (base:=base) T G_46
 have G_29:=ok_29 (P:=l.prog) (w:=w) (base:=base) T
 have G_11:=ok_11 (P:=l.prog) (w:=w) (base:=base) T
 have G_15:=ok_15 (P:=l.prog) (w:=w) (base:=base) T G_29 G_51
 have G_65:=ok_65 (P:=l.prog) (w:=w) (base:=base) T G_26 G_15
 have G_58:=ok_58 (P:=l.prog) (w:=w) (base:=base) T G_29
 have G_38:=ok_38 (P:=l.prog) (w:=w) (base:=base) T G_9 G_58 G_39
 have G_62:=ok_62 (P:=l.prog) (w:=w) (base:=base) T
 have G_56:=ok_56 (P:=l.prog) (w:=w) (base:=base) T
 have G_43:=ok_43 (P:=l.prog) (w:=w) (base:=base) T G_58 G_56
 have G_3:=ok_3 (P:=l.prog) (w:=w) (base:=base) T
 have G_35:=ok_35 (P:=l.prog) (w:=w) (base:=base) T G_65 G_11 G_53 G_38 G_3 G_58
 have G_57:=ok_57 (P:=l.prog) (w:=w) (base:=base) T G_43 G_35
 have G_52:=ok_52 (P:=l.prog) (w:=w) (base:=base) T G_43 G_35 G_11
 have G_61:=ok_61 (P:=l.prog) (w:=w) (base:=base) T G_57 G_58 G_52 G_62
 have G_64:=ok_64 (P:=l.prog) (w:=w) (base:=base) T G_58
 have G_37:=ok_37 (P:=l.prog) (w:=w) (base:=base) T G_64 G_58
 have G_36:=ok_36 (P:=l.prog) (w:=w) (base:=base) T G_37
 have G_10:=ok_10 (P:=l.prog) (w:=w) (base:=base) T G_58 G_53 G_62
 have G_1:=ok_1 (P:=l.prog) (w:=w) (base:=base) T
 have G_47:=ok_47 (P:=l.prog) (w:=w) (base:=base) T G_1
 have G_63:=ok_63 (P:=l.prog) (w:=w) (base:=base) T
 have G_50:=ok_50 (P:=l.prog) (w:=w) (base:=base) T G_63 G_47
 have G_2:=ok_2 (P:=l.prog) (w:=w) (base:=base) T G_61 G_10 G_36 G_50
 have G_0:=ok_0 (P:=l.prog) (w:=w) (base:=base) T G_47 G_63
 have G_42:=ok_42 (P:=l.prog) (w:=w) (base:=base) T G_2 G_63 G_0
 have G_49:=ok_49 (P:=l.prog) (w:=w) (base:=base) T G_2
 have G_5:=ok_5 (P:=l.prog) (w:=w) (base:=base) T G_29 G_46
 have G_17:=ok_17 (P:=l.prog) (w:=w) (base:=base) T G_58 G_29
 have G_28:=ok_28 (P:=l.prog) (w:=w) (base:=base) T G_62
 have G_45:=ok_45 (P:=l.prog) (w:=w) (base:=base) T G_17 G_28 G_39 G_64 G_53 G_62
 have G_6:=ok_6 (P:=l.prog) (w:=w) (base:=base) T G_61 G_5 G_45 G_28
 have G_44:=ok_44 (P:=l.prog) (w:=w) (base:=base) T
 have G_16:=ok_16 (P:=l.prog) (w:=w) (base:=base) T
 have G_60:=ok_60 (P:=l.prog) (w:=w) (base:=base) T G_6 G_44 G_16
 have G_25:=ok_25 (P:=l.prog) (w:=w) (base:=base) T
 have G_7:=ok_7 (P:=l.prog) (w:=w) (base:=base) T
 have G_14:=ok_14 (P:=l.prog) (w:=w) (base:=base) T
 have G_22:=ok_22 (P:=l.prog) (w:=w) (base:=base) T
 have G_20:=ok_20 (P:=l.prog) (w:=w) (base:=base) T
 have G_24:=ok_24 (P:=l.prog) (w:=w) (base:=base) T G_20 G_22
 have G_34:=ok_34 (P:=l.prog) (w:=w) (base:=base) T G_7 G_14 G_24
 have G_19:=ok_19 (P:=l.prog) (w:=w) (base:=base) T
 have G_32:=ok_32 (P:=l.prog) (w:=w) (base:=base) T G_25
 have G_31:=ok_31 (P:=l.prog) (w:=w) (base:=base) T
 have G_13:=ok_13 (P:=l.prog) (w:=w) (base:=base) T
 have G_21:=ok_21 (P:=l.prog) (w:=w) (base:=base) T G_31 G_32 G_13
 have G_18:=ok_18 (P:=l.prog) (w:=w) (base:=base) T G_60 G_32
 have G_12:=ok_12 (P:=l.prog) (w:=w) (base:=base) T
 have G_33:=ok_33 (P:=l.prog) (w:=w) (base:=base) T
 have G_23:=ok_23 (P:=l.prog) (w:=w) (base:=base) T G_33 G_12 G_32
 have G_8:=ok_8 (P:=l.prog) (w:=w) (base:=base) T G_22 G_42 G_49
 exact ok_66 T F G_34 G_19 G_42 G_49 G_8 G_23 G_7 G_21 G_18
theorem walk {l:PySem.W.OpenLaw} {q:Program} {loose:List Str} {XP:(Str→Option Value)→Heap→Prop} {YP:World→Heap→Prop} {d:PySem.DefRec} {K:PySem.Params→PySem.W.Frag} (hn:l.most=some 63) (hdf:d.params.defaults=[])
  (hY:∀ (w:World) (h:Heap),YP w h→(K w.params).In h)
  (F:∀ (w:World) (mg:Str→Option Value) (fa:Addr) (h:Heap),(K w.params).In h→h.Ns mainGlobals mg→mg d.name=some (.ref fa) →
   ∃ fd:FuncData,(∀ (s:Shared) (u:Value),BindsTo s fd ⟨[u],[]⟩ [("_law_script",u)])∧∀ base:Heap,(K w.params).In base→base.Ns mainGlobals mg→FnOk l.prog w (K w.params) mg base (CXF l.prog w) 12 fa fd ["_law_script"] (spLaw (K w.params))) :
  PySem.W.WalkO q loose XP YP l.row.toRowW d [] (fun f vs=>PySem.call f vs) :=
 L2.walk_of (n:=63) (k:=12) (x:="_law_script") (CX:=fun w=>CXF l.prog w) (sp:=fun w=>spLaw (K w.params)) hn (by decide) hdf ⟨rfl,by decide,by decide⟩ hY F (fun _ _ a ns hl _ hS=>⟨a,ns,rfl,hS,hl,fun _=>rfl⟩) fun _ _ _ _ _ ⟨_,_,_,_,_,_,_,_,z⟩=>z
end K65
def PySem.W.Fast.tw11947990200446175081:=PySem.Challenge.pw_rowrules_k65_all_that_is_kept
theorem PySem.W.Fast.te11947990200446175081:PySem.Challenge.pw_rowrules_k65_all_that_is_kept=PySem.W.Fast.tw11947990200446175081:=rfl
namespace PySem.W.Fast
def tw10304340742666516661:Unit:=()
def tw16107117601842564218:Unit:=()
def tw6674929027034073279:Unit:=()
def tw1164040232139093871:Unit:=()
def tw8144382324414415455:Unit:=()
def tw13125806936722752469:Unit:=()
def tw10038838583947884319:Unit:=()
def tw15181057462279697288:Unit:=()
def tw3243088206198534750:Unit:=()
def tw11232419553545424565:Unit:=()
def tw9251675191995769426:Unit:=()
def tw14161973050807986167:Unit:=()
def tw18364115185424308509:Unit:=()
def tw14695370815046926009:Unit:=()
def tw8622465102875767823:Unit:=()
def tw15990149246376390384:Unit:=()
def tw17882604133191032973:Unit:=()
def tw680455479667006799:Unit:=()
def tw18238073439820171043:Unit:=()
def tw11207637138005161834:Unit:=()
def tw14004410812704812014:Unit:=()
def tw16414964868776513465:Unit:=()
def tw10886188163593159261:Unit:=()
def tw18439930605325058263:Unit:=()
def tw12610998476636034457:Unit:=()
def tw10864766876401928079:Unit:=()
def tw15513379575834542396:Unit:=()
def tw4142564847024583622:Unit:=()
def tw15237546169624859097:Unit:=()
def tw1482645132987901127:Unit:=()
def tw3291012795213298043:Unit:=()
def tw4117664343475254130:Unit:=()
def tw13005775424470668102:Unit:=()
def tw13885882005333798624:Unit:=()
def tw5524560614653957838:Unit:=()
def tw10334030716802770231:Unit:=()
def tw4596846333221935616:Unit:=()
def tw6332698905782595725:Unit:=()
def tw5993662109278380436:Unit:=()
def tw11426610179250275617:Unit:=()
def tw10491658628935241466:Unit:=()
def tw10375632144392207486:Unit:=()
def tw3582533103916688192:Unit:=()
def tw13427909240515462385:Unit:=()
def tw5703350017255671898:Unit:=()
def tw3207630917005273391:Unit:=()
def tw12482186978371873534:Unit:=()
def tw4866009910956838538:Unit:=()
def tw9374282949514899321:Unit:=()
def tw18374210888214225008:Unit:=()
def tw1850611671760087819:Unit:=()
def tw11578147418453337251:Unit:=()
def tw4987148205216809362:Unit:=()
def tw8807981360232826954:Unit:=()
def tw2854109999047207776:Unit:=()
def tw8881480960773988033:Unit:=()
def tw7909726117453134460:Unit:=()
def tw13249460826341672845:Unit:=()
def tw2849654019480184770:Unit:=()
def tw10583218636929810504:Unit:=()
def tw8507708553303089135:Unit:=()
def tw13399645813550053674:Unit:=()
def tw3943529485693072718:Unit:=()
def tw323509950309772483:Unit:=()
def tw2678300880473442675:Unit:=()
def tw8922907263624195654:Unit:=()
def tw17039486997494544838:Unit:=()
def tw13440667754418046591:Unit:=()
def tw4116160950681076658:Unit:=()
def tw18337609783899901621:Unit:=()
def tw9404817556626853297:Unit:=()
def tw16507891278481026151:Unit:=()
def tw4973743275738466396:Unit:=()
def tw7444573841819270569:Unit:=()
def tw11518383216606130429:Unit:=()
def tw15964235822588643599:Unit:=()
def tw3897810523928903221:Unit:=()
def tw8512962939570551902:Unit:=()
def tw1226844241820556909:Unit:=()
def tw749697334889679760:Unit:=()
def tw8866043526392007039:Unit:=()
def tw1831130669824173382:Unit:=()
def tw15242199897102061085:Unit:=()
def tw10119811136006017949:Unit:=()
def tw16466426663517308009:Unit:=()
def tw15427888127149846850:Unit:=()
def tw2887258853488242588:Unit:=()
def tw13788816333816291983:Unit:=()
def tw7150997704192833443:Unit:=()
def tw6761256874113038358:Unit:=()
def tw7123003133060703209:Unit:=()
def tw9858169486566968204:Unit:=()
def tw17831335290404653372:Unit:=()
def tw9968864158709707034:Unit:=()
def tw18227769406598994063:Unit:=()
def tw3530727439444189978:Unit:=()
def tw16198017653643157132:Unit:=()
def tw10595147497720951702:Unit:=()
def tw10166075558488938682:Unit:=()
def tw17463103877884389161:Unit:=()
def tw10549827196056012636:Unit:=()
def tw2408313699542294032:Unit:=()
def tw4680645208817984568:Unit:=()
def tw8095778601000720042:Unit:=()
def tw888396225826467197:Unit:=()
def tw9033527429342829157:Unit:=()
def tw14588278838449386096:Unit:=()
def tw10343741180157470191:Unit:=()
def tw12377352299362849428:Unit:=()
def tw6116033822256377001:Unit:=()
def tw7201197755381702142:Unit:=()
def tw4699063054566787422:Unit:=()
def tw1015206237451844964:Unit:=()
def tw4510217826329874435:Unit:=()
def tw7759910826444346349:Unit:=()
def tw14890549507924597438:Unit:=()
def tw10298631456637082878:Unit:=()
def tw1301007726508998687:Unit:=()
def tw3890613898982259637:Unit:=()
def tw11074042624621020057:Unit:=()
def tw6872757861433195104:Unit:=()
def tw1377037580530838470:Unit:=()
def tw15388597303877928310:Unit:=()
def tw11720121716871737619:Unit:=()
def tw3651529849878154752:Unit:=()
def tw14826818645419109061:Unit:=()
def tw15344787585796648774:Unit:=()
def tw17907731497722341660:Unit:=()
def tw125953513229867297:Unit:=()
def tw14991817182378613234:Unit:=()
def tw17993242442341633808:Unit:=()
def tw4105931026850291839:Unit:=()
def tw15074797485968095777:Unit:=()
def tw8731621908066136490:Unit:=()
def tw2103079642462775768:Unit:=()
def tw9074603286180129722:Unit:=()
def tw14298301673299266133:Unit:=()
def tw5934476936968467034:Unit:=()
def tw1969637909567062742:Unit:=()
def tw1103174344308036261:Unit:=()
def tw9024677461788565978:Unit:=()
def tw28237604754360480:Unit:=()
def tw510523105468941001:Unit:=()
def tw17160535262063820811:Unit:=()
def tw15908232078212271865:Unit:=()
def tw2445944571226905932:Unit:=()
def tw16256046535018636770:Unit:=()
def tw9930656472390713321:Unit:=()
def tw6719905431270536055:Unit:=()
def tw14955803043323082651:Unit:=()
def tw14166559060213717969:Unit:=()
def tw9743104618832076516:Unit:=()
def tw4875293115987160742:Unit:=()
def tw13116106864758634478:Unit:=()
def tw2882041837970853239:Unit:=()
def tw14191805392338288223:Unit:=()
def tw21798248645077070:Unit:=()
def tw12070649197927237290:Unit:=()
def tw8003396428053320367:Unit:=()
def tw5264010311257925799:Unit:=()
def tw1362184175819015407:Unit:=()
def tw612119838727738785:Unit:=()
def tw2260925128081674556:Unit:=()
def tw13960076366691775083:Unit:=()
def tw12348464066092274853:Unit:=()
def tw8538360703208371421:Unit:=()
def tw10953648240458766370:Unit:=()
def tw5738101346469865719:Unit:=()
def tw11817867604555157033:Unit:=()
def tw11793520250412862625:Unit:=()
def tw6211617964177536523:Unit:=()
def tw5646534263658459174:Unit:=()
def tw8695931966224922444:Unit:=()
def tw12463606780489325742:Unit:=()
def tw5003347658075801615:Unit:=()
def tw5975557523855748450:Unit:=()
def tw15804231550757015508:Unit:=()
def tw10769386381054555793:Unit:=()
def tw13433108179728508632:Unit:=()
def tw10673685848437994491:Unit:=()
def tw17017043993748108277:Unit:=()
def tw16412428788900283805:Unit:=()
def tw4543870811341805774:Unit:=()
def tw5510178562465449491:Unit:=()
def tw3212539944607526079:Unit:=()
def tw7573562462158712238:Unit:=()
def tw12944810632211349881:Unit:=()
def tw17475530377660461936:Unit:=()
def tw9332236232996673028:Unit:=()
def tw6355981733516967546:Unit:=()
def tw2606063902635158467:Unit:=()
def tw41616749449311140:Unit:=()
def tw7543799549306019383:Unit:=()
def tw13756183773291221119:Unit:=()
def tw10543335555439652195:Unit:=()
def tw12949028113858177582:Unit:=()
def tw14879047272952237016:Unit:=()
def tw16289654144916905206:Unit:=()
def tw8277594683447207771:Unit:=()
def tw16034168217922628921:Unit:=()
def tw2186868258918917471:Unit:=()
def tw3715047518230906120:Unit:=()
def tw10432185377566516049:Unit:=()
def tw2319431980194744124:Unit:=()
def tw15438635605840361262:Unit:=()
def tw9126641491967404751:Unit:=()
def tw9101463638068799002:Unit:=()
def tw1357803570876946401:Unit:=()
def tw8063863162538753880:Unit:=()
def tw8614916154047360043:Unit:=()
def tw3987168824823048956:Unit:=()
def tw8822430100638592132:Unit:=()
def tw14405152309613930659:Unit:=()
def tw11623039373249191428:Unit:=()
def tw1862969612242062698:Unit:=()
def tw10392821675595894090:Unit:=()
def tw15271532993033926295:Unit:=()
def tw10551175504610040896:Unit:=()
def tw11930744729563483036:Unit:=()
def tw16023400081103959225:Unit:=()
def tw17266320676567218262:Unit:=()
def tw11989266796419011298:Unit:=()
def tw457676815587636526:Unit:=()
def tw11002888649674037023:Unit:=()
def tw16866599711451392895:Unit:=()
def tw15279145613743902174:Unit:=()
def tw8709509723276419104:Unit:=()
def tw14530913842666551363:Unit:=()
def tw5571141219805903621:Unit:=()
def tw5681819524607068106:Unit:=()
def tw7463962380033072136:Unit:=()
def tw2775871526589333294:Unit:=()
def tw2911727609072060312:Unit:=()
def tw11779770195602824133:Unit:=()
def tw572481013841666798:Unit:=()
def tw17377391740592220616:Unit:=()
def tw5128598388505456409:Unit:=()
def tw8904818618561565670:Unit:=()
def tw359175565468991958:Unit:=()
def tw14667164964864422895:Unit:=()
def tw6483544162356492433:Unit:=()
def tw15681951784428434744:Unit:=()
def tw3994138496192414040:Unit:=()
def tw7340152219531202275:Unit:=()
def tw4504049569189777036:Unit:=()
def tw2639078477154499957:Unit:=()
def tw5105598551132831479:Unit:=()
def tw3861643298594727267:Unit:=()
def tw11236210410448957472:Unit:=()
def tw16830092092351595110:Unit:=()
def tw4846062210880613095:Unit:=()
def tw4806730951145358226:Unit:=()
def tw9067528992946631653:Unit:=()
def tw7377376317663603643:Unit:=()
def tw17021768815757008774:Unit:=()
def tw1557759352599987684:Unit:=()
def tw399513341113593400:Unit:=()
def tw8258699642813768093:Unit:=()
def tw16044474975078986855:Unit:=()
def tw11208903016607605230:Unit:=()
def tw14874649549441395855:Unit:=()
def tw16807227600313907564:Unit:=()
def tw15652025035852431946:Unit:=()
def tw7174647102497461085:Unit:=()
def tw3313250275741661987:Unit:=()
def tw6935734647423766365:Unit:=()
def tw16615480818930332816:Unit:=()
def tw4396507977184026072:Unit:=()
def tw2649646315047760308:Unit:=()
def tw12848636087946837997:Unit:=()
def tw13621699328320375101:Unit:=()
def tw13035565662174162311:Unit:=()
def tw6756978929741321182:Unit:=()
def tw8044249212956601216:Unit:=()
end PySem.W.Fast
open PySem PySem.W PyProof.Rows
set_option maxRecDepth 100000 in
set_option maxHeartbeats 0 in
theorem PySem.Challenge.cw_rowrules_k65_all_that_is_kept_holds : PySem.Challenge.rw_rowrules_k65_all_that_is_kept.Holds := by
 w_on;o_law;k_head;(case hw=>w_witness2)
 k_fill
 refine K65.walk (l:=PySem.Challenge.rw_rowrules_k65_all_that_is_kept) rfl rfl (fun w h Y=>PySem.W.kIn_of Y) ?F
 case F =>
  intro w mg fa h KX G hmg
  refine' K65.all_mk KX G hmg ?n_41 ?n_54 ?n_59 ?n_55 ?n_40 ?n_48 ?n_30 ?a_4 ⟨_,L2.fun_mk ?l_4 ?e_4 ?k_4⟩ (L2.def_mk ?a_46 ?l_46 ?e_46 ?k_46) (L2.def_mk ?a_51 ?l_51 ?e_51 ?k_51) (L2.def_mk ?a_27 ?l_27 ?e_27 ?k_27) (L2.def_mk ?a_9 ?l_9 ?e_9 ?k_9) (L2.def_mk ?a_39 ?l_39 ?e_39 ?k_39) (L2.def_mk ?a_53 ?l_53 ?e_53 ?k_53) (L2.def_mk ?a_26 ?l_26 ?e_26 ?k_26) (L2.def_mk ?a_29 ?l_29 ?e_29 ?k_29) (L2.def_mk ?a_11 ?l_11 ?e_11 ?k_11) (L2.def_mk ?a_15 ?l_15 ?e_15 ?k_15) (L2.def_mk ?a_65 ?l_65 ?e_65 ?k_65) (L2.def_mk ?a_58 ?l_58 ?e_58 ?k_58) (L2.def_mk ?a_38 ?l_38 ?e_38 ?k_38) (L2.def_mk ?a_62 ?l_62 ?e_62 ?k_62) (L2.def_mk ?a_56 ?l_56 ?e_56 ?k_56) (L2.def_mk ?a_43 ?l_43 ?e_43 ?k_43) (L2.def_mk ?a_3 ?l_3 ?e_3 ?k_3) (L2.def_mk ?a_35 ?l_35 ?e_35 ?k_35) (L2.def_mk ?a_57 ?l_57 ?e_57 ?k_57) (L2.def_mk ?a_52 ?l_52 ?e_52 ?k_52) (L2.def_mk ?a_61 ?l_61 ?e_61 ?k_61) (L2.def_mk ?a_64 ?l_64 ?e_64 ?k_64) (L2.def_mk ?a_37 ?l_37 ?e_37 ?k_37) (L2.def_mk ?a_36 ?l_36 ?e_36 ?k_36) (L2.def_mk ?a_10 ?l_10 ?e_10 ?k_10) (L2.def_mk ?a_1 ?l_1 ?e_1 ?k_1) (L2.def_mk ?a_47 ?l_47 ?e_47 ?k_47) (L2.def_mk ?a_63 ?l_63 ?e_63 ?k_63) (L2.def_mk ?a_50 ?l_50 ?e_50 ?k_50) (L2.def_mk ?a_2 ?l_2 ?e_2 ?k_2) (L2.def_mk ?a_0 ?l_0 ?e_0 ?k_0) (L2.def_mk ?a_42 ?l_42 ?e_42 ?k_42) (L2.def_mk ?a_49 ?l_49 ?e_49 ?k_49) (L2.def_mk ?a_5 ?l_5 ?e_5 ?k_5) (L2.def_mk ?a_17 ?l_17 ?e_17 ?k_17) (L2.def_mk ?a_28 ?l_28 ?e_28 ?k_28) (L2.def_mk ?a_45 ?l_45 ?e_45 ?k_45) (L2.def_mk ?a_6 ?l_6 ?e_6 ?k_6) (L2.def_mk ?a_44 ?l_44 ?e_44 ?k_44) (L2.def_mk ?a_16 ?l_16 ?e_16 ?k_16) (L2.def_mk ?a_60 ?l_60 ?e_60 ?k_60) (L2.def_mk ?a_25 ?l_25 ?e_25 ?k_25) (L2.def_mk ?a_7 ?l_7 ?e_7 ?k_7) (L2.def_mk ?a_14 ?l_14 ?e_14 ?k_14) (L2.def_mk ?a_22 ?l_22 ?e_22 ?k_22) (L2.def_mk ?a_20 ?l_20 ?e_20 ?k_20) (L2.def_mk ?a_24 ?l_24 ?e_24 ?k_24) (L2.def_mk ?a_34 ?l_34 ?e_34 ?k_34) (L2.def_mk ?a_19 ?l_19 ?e_19 ?k_19) (L2.def_mk ?a_32 ?l_32 ?e_32 ?k_32) (L2.def_mk ?a_31 ?l_31 ?e_31 ?k_31) (L2.def_mk ?a_13 ?l_13 ?e_13 ?k_13) (L2.def_mk ?a_21 ?l_21 ?e_21 ?k_21) (L2.def_mk ?a_18 ?l_18 ?e_18 ?k_18) (L2.def_mk ?a_12 ?l_12 ?e_12 ?k_12) (L2.def_mk ?a_33 ?l_33 ?e_33 ?k_33) (L2.def_mk ?a_23 ?l_23 ?e_23 ?k_23) (L2.def_mk ?a_8 ?l_8 ?e_8 ?k_8) (L2.def_mk ?a_66 ?l_66 ?e_66 ?k_66) ?z_len ?z_list ?z_reversed ?z_isinstance ?z_range ?z_int ?z_bool ?z_ValueError ?z_tuple ?z_enumerate ?z_min ?z_max ?z_sum ?z_abs ?z_any ?z_zip ?w_LONGEST_TABLE ?w_MOST_NODES ?w_MOST_GAINS ?x_54 ?x_55 ?x_40 ?x_48 ?x_30 ?xi_59 ?xt_59 ?xk_59 ?ci_59 ?ga_59 ?gn_59 ?ca_59 ?sg_59 ?tk_59 ?mo_59 ?mb_59 ?ci_48 ?ga_48 ?gn_48 ?ca_48 ?sg_48 ?tk_48 ?mo_48 ?mb_48 ?sa_59 ?hd_59 ?mr_59 ?no_59 ?kt_48_48 ?kt_TooWide_ValueError ?kt_48_54 ?kt_48_30 ?em_48_41
  (case n_41=>k_is)
  (case n_54=>k_is)
  (case n_59=>k_is)
  (case n_55=>k_is)
  (case n_40=>k_is)
  (case n_48=>k_is)
  (case n_30=>k_is)
  (case a_4=>k_is)
  (case l_4=>k_is)
  (case e_4=>k_is)
  (case k_4=>k_is)
  (case a_46=>k_is)
  (case l_46=>k_is)
  (case e_46=>k_is)
  (case k_46=>k_is)
  (case a_51=>k_is)
  (case l_51=>k_is)
  (case e_51=>k_is)
  (case k_51=>k_is)
  (case a_27=>k_is)
  (case l_27=>k_is)
  (case e_27=>k_is)
  (case k_27=>k_is)
  (case a_9=>k_is)
  (case l_9=>k_is)
  (case e_9=>k_is)
  (case k_9=>k_is)
  (case a_39=>k_is)
  (case l_39=>k_is)
  (case e_39=>k_is)
  (case k_39=>k_is)
  (case a_53=>k_is)
  (case l_53=>k_is)
  (case e_53=>k_is)
  (case k_53=>k_is)
  (case a_26=>k_is)
  (case l_26=>k_is)
  (case e_26=>k_is)
  (case k_26=>k_is)
  (case a_29=>k_is)
  (case l_29=>k_is)
  (case e_29=>k_is)
  (case k_29=>k_is)
  (case a_11=>k_is)
  (case l_11=>k_is)
  (case e_11=>k_is)
  (case k_11=>k_is)
  (case a_15=>k_is)
  (case l_15=>k_is)
  (case e_15=>k_is)
  (case k_15=>k_is)
  (case a_65=>k_is)
  (case l_65=>k_is)
  (case e_65=>k_is)
  (case k_65=>k_is)
  (case a_58=>k_is)
  (case l_58=>k_is)
  (case e_58=>k_is)
  (case k_58=>k_is)
  (case a_38=>k_is)
  (case l_38=>k_is)
  (case e_38=>k_is)
  (case k_38=>k_is)
  (case a_62=>k_is)
  (case l_62=>k_is)
  (case e_62=>k_is)
  (case k_62=>k_is)
  (case a_56=>k_is)
  (case l_56=>k_is)
  (case e_56=>k_is)
  (case k_56=>k_is)
  (case a_43=>k_is)
  (case l_43=>k_is)
  (case e_43=>k_is)
  (case k_43=>k_is)
  (case a_3=>k_is)
  (case l_3=>k_is)
  (case e_3=>k_is)
  (case k_3=>k_is)
  (case a_35=>k_is)
  (case l_35=>k_is)
  (case e_35=>k_is)
  (case k_35=>k_is)
  (case a_57=>k_is)
  (case l_57=>k_is)
  (case e_57=>k_is)
  (case k_57=>k_is)
  (case a_52=>k_is)
  (case l_52=>k_is)
  (case e_52=>k_is)
  (case k_52=>k_is)
  (case a_61=>k_is)
  (case l_61=>k_is)
  (case e_61=>k_is)
  (case k_61=>k_is)
  (case a_64=>k_is)
  (case l_64=>k_is)
  (case e_64=>k_is)
  (case k_64=>k_is)
  (case a_37=>k_is)
  (case l_37=>k_is)
  (case e_37=>k_is)
  (case k_37=>k_is)
  (case a_36=>k_is)
  (case l_36=>k_is)
  (case e_36=>k_is)
  (case k_36=>k_is)
  (case a_10=>k_is)
  (case l_10=>k_is)
  (case e_10=>k_is)
  (case k_10=>k_is)
  (case a_1=>k_is)
  (case l_1=>k_is)
  (case e_1=>k_is)
  (case k_1=>k_is)
  (case a_47=>k_is)
  (case l_47=>k_is)
  (case e_47=>k_is)
  (case k_47=>k_is)
  (case a_63=>k_is)
  (case l_63=>k_is)
  (case e_63=>k_is)
  (case k_63=>k_is)
  (case a_50=>k_is)
  (case l_50=>k_is)
  (case e_50=>k_is)
  (case k_50=>k_is)
  (case a_2=>k_is)
  (case l_2=>k_is)
  (case e_2=>k_is)
  (case k_2=>k_is)
  (case a_0=>k_is)
  (case l_0=>k_is)
  (case e_0=>k_is)
  (case k_0=>k_is)
  (case a_42=>k_is)
  (case l_42=>k_is)
  (case e_42=>k_is)
  (case k_42=>k_is)
  (case a_49=>k_is)
  (case l_49=>k_is)
  (case e_49=>k_is)
  (case k_49=>k_is)
  (case a_5=>k_is)
  (case l_5=>k_is)
  (case e_5=>k_is)
  (case k_5=>k_is)
  (case a_17=>k_is)
  (case l_17=>k_is)
  (case e_17=>k_is)
  (case k_17=>k_is)
  (case a_28=>k_is)
  (case l_28=>k_is)
  (case e_28=>k_is)
  (case k_28=>k_is)
  (case a_45=>k_is)
  (case l_45=>k_is)
  (case e_45=>k_is)
  (case k_45=>k_is)
  (case a_6=>k_is)
  (case l_6=>k_is)
  (case e_6=>k_is)
  (case k_6=>k_is)
  (case a_44=>k_is)
  (case l_44=>k_is)
  (case e_44=>k_is)
  (case k_44=>k_is)
  (case a_16=>k_is)
  (case l_16=>k_is)
  (case e_16=>k_is)
  (case k_16=>k_is)
  (case a_60=>k_is)
  (case l_60=>k_is)
  (case e_60=>k_is)
  (case k_60=>k_is)
  (case a_25=>k_is)
  (case l_25=>k_is)
  (case e_25=>k_is)
  (case k_25=>k_is)
  (case a_7=>k_is)
  (case l_7=>k_is)
  (case e_7=>k_is)
  (case k_7=>k_is)
  (case a_14=>k_is)
  (case l_14=>k_is)
  (case e_14=>k_is)
  (case k_14=>k_is)
  (case a_22=>k_is)
  (case l_22=>k_is)
  (case e_22=>k_is)
  (case k_22=>k_is)
  (case a_20=>k_is)
  (case l_20=>k_is)
  (case e_20=>k_is)
  (case k_20=>k_is)
  (case a_24=>k_is)
  (case l_24=>k_is)
  (case e_24=>k_is)
  (case k_24=>k_is)
  (case a_34=>k_is)
  (case l_34=>k_is)
  (case e_34=>k_is)
  (case k_34=>k_is)
  (case a_19=>k_is)
  (case l_19=>k_is)
  (case e_19=>k_is)
  (case k_19=>k_is)
  (case a_32=>k_is)
  (case l_32=>k_is)
  (case e_32=>k_is)
  (case k_32=>k_is)
  (case a_31=>k_is)
  (case l_31=>k_is)
  (case e_31=>k_is)
  (case k_31=>k_is)
  (case a_13=>k_is)
  (case l_13=>k_is)
  (case e_13=>k_is)
  (case k_13=>k_is)
  (case a_21=>k_is)
  (case l_21=>k_is)
  (case e_21=>k_is)
  (case k_21=>k_is)
  (case a_18=>k_is)
  (case l_18=>k_is)
  (case e_18=>k_is)
  (case k_18=>k_is)
  (case a_12=>k_is)
  (case l_12=>k_is)
  (case e_12=>k_is)
  (case k_12=>k_is)
  (case a_33=>k_is)
  (case l_33=>k_is)
  (case e_33=>k_is)
  (case k_33=>k_is)
  (case a_23=>k_is)
  (case l_23=>k_is)
  (case e_23=>k_is)
  (case k_23=>k_is)
  (case a_8=>k_is)
  (case l_8=>k_is)
  (case e_8=>k_is)
  (case k_8=>k_is)
  (case a_66=>k_is)
  (case l_66=>k_is)
  (case e_66=>k_is)
  (case k_66=>k_is)
  (case z_len=>k_is)
  (case z_list=>k_is)
  (case z_reversed=>k_is)
  (case z_isinstance=>k_is)
  (case z_range=>k_is)
  (case z_int=>k_is)
  (case z_bool=>k_is)
  (case z_ValueError=>k_is)
  (case z_tuple=>k_is)
  (case z_enumerate=>k_is)
  (case z_min=>k_is)
  (case z_max=>k_is)
  (case z_sum=>k_is)
  (case z_abs=>k_is)
  (case z_any=>k_is)
  (case z_zip=>k_is)
  (case w_LONGEST_TABLE=>k_is)
  (case w_MOST_NODES=>k_is)
  (case w_MOST_GAINS=>k_is)
  (case x_54=>k_exc)
  (case x_55=>k_exc)
  (case x_40=>k_exc)
  (case x_48=>k_exc)
  (case x_30=>k_exc)
  (case xi_59=>kernel_rfl)
  (case xt_59=>k_is)
  (case xk_59=>k_is)
  (case ci_59=>show PySem.W.isClsIn _ _=true;k_is)
  (case ga_59=>k_is)
  (case gn_59=>k_is)
  (case ca_59=>k_is)
  (case sg_59=>k_is)
  (case tk_59=>k_is)
  (case mo_59=>k_is)
  (case mb_59=>k_is)
  (case ci_48=>show PySem.W.isClsIn _ _=true;k_is)
  (case ga_48=>k_is)
  (case gn_48=>k_is)
  (case ca_48=>k_is)
  (case sg_48=>k_is)
  (case tk_48=>k_is)
  (case mo_48=>k_is)
  (case mb_48=>k_is)
  (case sa_59=>k_is)
  (case hd_59=>k_is)
  (case mr_59=>kernel_rfl)
  (case no_59=>k_is)
  (case kt_48_48=>kit_is)
  (case kt_TooWide_ValueError=>kit_is)
  (case kt_48_54=>kit_is)
  (case kt_48_30=>kit_is)
  (case em_48_41=>kts_exm)
