import PyProof.Rows.All
import Wide.All
import OpenK.AllK
import Wide.FinOn
import Lean
import PyProof.EqAt
import PyProof.EqKinds
import PyProof.TupleCall
import PySem.Challenge.RW_rowrules_k73_papers_of_sums
set_option Elab.async false
set_option linter.all false
set_option maxRecDepth 100000
namespace L2
open PySem PySem.Spec PyProof.Rows
abbrev Key:=Sum Int Str
def keyIs:Key→Value→Bool
 | .inl k,v=>Value.isInt k v
 | .inr x,v=>Value.isStrOf x v
def keyH (w:World):Key→Int
 | .inl k=>hashInt k
 | .inr x=>hashStr w x
theorem keyIs_shape:∀ {k:Key} {v:Value},keyIs k v=true→(∃ i t,k=Sum.inl i∧v=Value.int i t)∨(∃ x t,k=Sum.inr x∧v=Value.str x t)
 | .inl i,v,h=>by
  obtain ⟨t,e⟩:=Value.isInt_shape (k:=i) (v:=v) h
  exact .inl ⟨i,t,rfl,e⟩
 | .inr x,v,h=>by
  obtain ⟨t,e⟩:=Value.isStrOf_shape (x:=x) (v:=v) h
  exact .inr ⟨x,t,rfl,e⟩
theorem key_ll (a b:Int):decide ((Sum.inl a:Key)=Sum.inl b)=(a == b):=by
 by_cases e:a=b
 ·subst e;simp
 ·have h:¬ (Sum.inl a:Key)=Sum.inl b:=fun q=>e (Sum.inl.inj q)
  rw [decide_eq_false h]
  exact (beq_eq_false_iff_ne.mpr e).symm
theorem key_rr (a b:Str):decide ((Sum.inr a:Key)=Sum.inr b)=decide (a=b):=by
 by_cases e:a=b
 ·subst e;simp
 ·have h:¬ (Sum.inr a:Key)=Sum.inr b:=fun q=>e (Sum.inr.inj q)
  rw [decide_eq_false h,decide_eq_false e]
theorem key_lr (a:Int) (b:Str):decide ((Sum.inl a:Key)=Sum.inr b)=false:=decide_eq_false (fun q=>nomatch q)
theorem key_rl (a:Str) (b:Int):decide ((Sum.inr a:Key)=Sum.inl b)=false:=decide_eq_false (fun q=>nomatch q)
def mixKind (prog:Program) (w:World):PySem.KeyKind prog w Key where
 is:=keyIs
 hash:=keyH w
 inj:=fun v a b ha hb=>by
  rcases keyIs_shape ha with ⟨i,t,rfl,rfl⟩ | ⟨x,t,rfl,rfl⟩
  ·rcases keyIs_shape hb with ⟨j,u,rfl,e⟩ | ⟨y,u,rfl,e⟩
   ·injection e with e1 _;rw [e1]
   ·exact nomatch e
  ·rcases keyIs_shape hb with ⟨j,u,rfl,e⟩ | ⟨y,u,rfl,e⟩
   ·exact nomatch e
   ·injection e with e1 _;rw [e1]
 byValue:=fun k v h=>by
  rcases keyIs_shape h with ⟨i,t,rfl,rfl⟩ | ⟨x,t,rfl,rfl⟩ <;> rfl
 pyHash:=fun hv h=>by
  rcases keyIs_shape hv with ⟨i,t,rfl,rfl⟩ | ⟨x,t,rfl,rfl⟩
  ·exact wpAny_pyHash_int h
  ·exact wpAny_pyHash_str h
 eqBool:=fun hu hv h=>by
  rcases keyIs_shape hu with ⟨i,t,rfl,rfl⟩ | ⟨x,t,rfl,rfl⟩
  ·rcases keyIs_shape hv with ⟨j,u,rfl,rfl⟩ | ⟨y,u,rfl,rfl⟩
   ·rw [key_ll] at h;exact wpAny_eqBool_int h
   ·rw [key_lr] at h;exact SeqAt.EqAt.int_str i t y u _ _ _ _ h
  ·rcases keyIs_shape hv with ⟨j,u,rfl,rfl⟩ | ⟨y,u,rfl,rfl⟩
   ·rw [key_rl] at h;exact SeqAt.EqAt.str_int x t j u _ _ _ _ h
   ·rw [key_rr] at h;exact wpAny_eqBool_str h
 «strs»:=fun k x t v h=>by
  rcases keyIs_shape h with ⟨i,u,rfl,e⟩ | ⟨y,u,rfl,e⟩
  ·exact nomatch e
  ·injection e with e1 _
   subst e1
   cases v <;> rfl
end L2
namespace L2
open PySem PySem.Spec PyProof.Rows
inductive V where
 | non | bl (b:Bool) | int (i:Int) | str (x:Str) | byt (b:Array UInt8) | flt (b:UInt64) | ref (a:Addr) | ty (n:String)
 deriving DecidableEq
def RelV:V→Value→Prop
 | .non,u=>u=Value.none
 | .bl b,u=>u=Value.bool b
 | .int i,u=>∃ t,u=Value.int i t
 | .str x,u=>∃ t,u=Value.str x t
 | .byt b,u=>∃ t,u=Value.bytes b t
 | .flt b,u=>∃ t,u=Value.float b t
 | .ref a,u=>u=Value.ref a
 | .ty n,u=>u=Value.type n
abbrev Vals:List V→List Value→Prop:=Paired RelV
theorem Vals.length {xs:List V} {us:List Value} (r:Vals xs us):xs.length=us.length:=Paired.length r
theorem Vals.get:∀ {xs:List V} {us:List Value} {i:Nat} {x:V},Vals xs us→xs[i]?=some x→∃ u,us[i]?=some u∧RelV x u
 | _,_,_,_,.nil,e=>by simp at e
 | _,_,0,_,.cons r _,e=>by simp at e;subst e;exact ⟨_,rfl,r⟩
 | _,_,i+1,x,.cons _ t,e=>by
  obtain ⟨u,h1,h2⟩:=Vals.get (i:=i) (x:=x) t (by simpa using e)
  exact ⟨u,by simpa using h1,h2⟩
theorem Vals.set {x:V} {u:Value} (r:RelV x u):∀ {xs:List V} {us:List Value} (i:Nat),Vals xs us→Vals (xs.set i x) (us.set i u)
 | _,_,_,.nil=>.nil
 | _,_,0,.cons _ t=>.cons r t
 | _,_,i+1,.cons q t=>.cons q (Vals.set r i t)
theorem Vals.append:∀ {xs ys:List V} {us ws:List Value},Vals xs us→Vals ys ws→Vals (xs++ys) (us++ws)
 | _,_,_,_,.nil,s=>s
 | _,_,_,_,.cons r t,s=>.cons r (Vals.append t s)
theorem Vals.take:∀ {xs:List V} {us:List Value} (n:Nat),Vals xs us→Vals (xs.take n) (us.take n)
 | _,_,0,_=>.nil
 | _,_,_+1,.nil=>.nil
 | _,_,n+1,.cons r t=>.cons r (Vals.take n t)
theorem Vals.drop:∀ {xs:List V} {us:List Value} (n:Nat),Vals xs us→Vals (xs.drop n) (us.drop n)
 | _,_,0,r=>r
 | _,_,_+1,.nil=>.nil
 | _,_,n+1,.cons _ t=>Vals.drop n t
theorem Vals.none_of:∀ {xs:List V} {us:List Value} {i:Nat},Vals xs us→xs[i]?=none→us[i]?=none:=fun {xs us i} r e=>by
 have h1:=r.length
 have h2:xs.length≤i:=List.getElem?_eq_none_iff.mp e
 exact List.getElem?_eq_none_iff.mpr (by lia)
def RelO:Option V→Option Value→Prop
 | some v,some u=>RelV v u
 | none,none=>True
 | _,_=>False
def KV {κ:Type}:List (κ × V)→List (κ × Value)→Prop:=Paired fun (p:κ × V) (q:κ × Value)=>p.1=q.1∧RelV p.2 q.2
def kV:Key→V
 | .inl i=>.int i
 | .inr x=>.str x
inductive HO where
 | lst (xs:List V)
 | tup (xs:List V)
 | dK (kvs:List (Key × V)) | dT (kvs:List (List Key × V))
 | set (S:Int→Bool) (n:Nat)
 | ins (C dx:Addr) (fs:List (Str × V))
 | own (x:Addr)
 | xd (fs:List (Str × V))
 | met (f x:Addr)
 | rng (lo hi:Int)
 | frz (o:Obj) (u:HO)
 | tbl (ps:Array Value)
 | ext (φ:Heap→Prop)
abbrev Hp:=Addr→Option HO
def upd (H:Hp) (a:Addr) (o:HO):Hp:=fun b=>if b=a then some o else H b
theorem upd_same {H:Hp} {a:Addr} {o:HO}:upd H a o a=some o:=by unfold upd;rw [if_pos rfl]
theorem upd_ne {H:Hp} {a b:Addr} {o:HO} (h:b≠a):upd H a o b=H b:=by unfold upd;rw [if_neg h]
theorem upd_upd {H:Hp} {a:Addr} {o u:HO}:upd (upd H a o) a u=upd H a u:=by
 funext b;unfold upd;split <;> rfl
theorem ne_of_none {H:Hp} {a b:Addr} {o:HO} (h:H a=some o) (h':H b=none):a≠b:=by
 intro e;subst e;rw [h] at h';cases h'
section
variable (P:Program) (w:World)
def ObjOk (H:Hp) (h:Heap) (a:Addr):HO→Prop
 | .lst xs=>xs.length≤sizeLine∧∃ (its:List Value) (n:Nat),Vals xs its∧h.get? a=some { cls:=.type "list",data:=.seq its.toArray n }
 | .tup xs=>xs.length≤sizeLine∧∃ its:List Value,Vals xs its∧IsTup h a its.toArray
 | .dK kvs=>kvs.length≤sizeLine∧(a == sysModules)=false∧∃ vs,KV kvs vs∧h.DictOf (mixKind P w) a vs
 | .dT kvs=>kvs.length≤sizeLine∧(a == sysModules)=false∧∃ xs:List (List Key × Addr × Value),
   Paired (fun (p:List Key × V) (q:List Key × Addr × Value)=>p.1=q.1∧H q.2.1=some (.tup (p.1.map kV))∧RelV p.2 q.2.2) kvs xs ∧
   ∃ o es ep,h.get? a=some o∧o.ExactDict∧o.data=.dict es ep∧es.toList=xs.map (entryOfKey (tupleKind (mixKind P w)))∧(xs.map (·.1)).Nodup
 | .set S n=>h.SetOf (intKind P w) a S n
 | .ins C dx fs=>H dx=some (.own a)∧fs.length≤1000∧dx≠a∧h.get? a=some (PySem.W.instObj C dx) ∧
   ∃ mA,h.Ns1 dx mA∧(∀ f,RelO (fs.lookup f) (mA f))∧PySem.Within mA (fs.map (·.1))
 | .own _=>∃ o,h.get? a=some o
 | .xd fs=>∃ mA,h.Ns1 a mA∧∀ f,RelO (fs.lookup f) (mA f)
 | .rng lo hi=>∃ t u v,h.get? a=some { cls:=.type "range",data:=.fields #[.int lo t,.int hi u,.int 1 v] }
 | .frz o u=>h.get? a=some o∧ObjOk H h a u
 | .tbl ps=>h.get? a=some { cls:=.none,data:=.fields ps }
 | .met f x=>h.get? a=some (PySem.W.methodObj (.ref f) (.ref x))
 | .ext φ=>φ h∧(∃ o,h.get? a=some o)∧∀ h1 h2:Heap,φ h1→(∀ o,h1.get? a=some o→h2.get? a=some o)→φ h2
def HOk (H:Hp) (h:Heap):Prop:=∀ a o,H a=some o→ObjOk P w H h a o
end
section
variable {P:Program} {w:World} {H H':Hp} {h h':Heap} {a:Addr} {o:HO}
theorem ObjOk.lt (x:ObjOk P w H h a o):a<h.objs.size:=by
 cases o with
 | lst xs=>obtain ⟨_,_,_,_,e⟩:=x;exact Heap.lt_size e
 | tup xs=>obtain ⟨_,_,_,p⟩:=x;exact p.lt
 | dK kvs=>obtain ⟨_,_,_,_,o,_,_,e,_⟩:=x;exact Heap.lt_size e
 | dT kvs=>obtain ⟨_,_,_,_,o,_,_,e,_⟩:=x;exact Heap.lt_size e
 | set S n=>obtain ⟨o,_,_,_,e,_⟩:=x;exact Heap.lt_size e
 | ins C dx fs=>obtain ⟨_,_,_,e,_⟩:=x;exact Heap.lt_size e
 | own y=>obtain ⟨_,e⟩:=x;exact Heap.lt_size e
 | xd fs=>obtain ⟨_,⟨_,_,_,e,_⟩,_⟩:=x;exact Heap.lt_size e
 | rng lo hi=>obtain ⟨_,_,_,e⟩:=x;exact Heap.lt_size e
 | frz ob u=>obtain ⟨e,_⟩:=x;exact Heap.lt_size e
 | tbl ps=>exact Heap.lt_size (show h.get? a=some _ from x)
 | met f y=>exact Heap.lt_size (show h.get? a=some _ from x)
 | ext φ=>obtain ⟨_,⟨_,e⟩,_⟩:=x;exact Heap.lt_size e
theorem Paired.mapP {α β:Type} {F G:α→β→Prop}:∀ {l₁:List α} {l₂:List β},Paired F l₁ l₂→(∀ a b,F a b→G a b)→Paired G l₁ l₂
 | _,_,.nil,_=>.nil
 | _,_,.cons r t,f=>.cons (f _ _ r) (Paired.mapP t f)
theorem ObjOk.stay (x:ObjOk P w H h a o) (k:∀ b u,(b=a∨H b=some (.own a))→h.get? b=some u→h'.get? b=some u)
  (ho:∀ b,H b=some (.own a)→H' b=some (.own a)) (ht:∀ b xs,H b=some (.tup xs)→H' b=some (.tup xs)):ObjOk P w H' h' a o:=by
 induction o with
 | lst xs=>obtain ⟨z,its,n,r,e⟩:=x;exact ⟨z,its,n,r,k _ _ (.inl rfl) e⟩
 | tup xs=>obtain ⟨z,its,r,ob,e,c⟩:=x;exact ⟨z,its,r,ob,k _ _ (.inl rfl) e,c⟩
 | dK kvs=>obtain ⟨z,y,vs,r,ob,es,ep,e,c⟩:=x;exact ⟨z,y,vs,r,ob,es,ep,k _ _ (.inl rfl) e,c⟩
 | dT kvs =>
  obtain ⟨z,y,xs,r,ob,es,ep,e,c⟩:=x
  exact ⟨z,y,xs,Paired.mapP r fun p q z=>⟨z.1,ht _ _ z.2.1,z.2.2⟩,ob,es,ep,k _ _ (.inl rfl) e,c⟩
 | set S n=>obtain ⟨ob,es,ep,t,e,c⟩:=x;exact ⟨ob,es,ep,t,k _ _ (.inl rfl) e,c⟩
 | ins C dx fs =>
  obtain ⟨d,z,ne,e,mA,⟨od,es,ep,e2,c⟩,r⟩:=x
  exact ⟨ho _ d,z,ne,k _ _ (.inl rfl) e,mA,⟨od,es,ep,k _ _ (.inr d) e2,c⟩,r⟩
 | own y=>obtain ⟨ob,e⟩:=x;exact ⟨ob,k _ _ (.inl rfl) e⟩
 | xd fs=>obtain ⟨mA,⟨od,es,ep,e,c⟩,r⟩:=x;exact ⟨mA,⟨od,es,ep,k _ _ (.inl rfl) e,c⟩,r⟩
 | rng lo hi=>obtain ⟨t,u,v,e⟩:=x;exact ⟨t,u,v,k _ _ (.inl rfl) e⟩
 | frz ob u ih=>obtain ⟨e,q⟩:=x;exact ⟨k _ _ (.inl rfl) e,ih q⟩
 | tbl ps =>
  have e:h.get? a=some { cls:=.none,data:=.fields ps }:=x
  show h'.get? a=some { cls:=.none,data:=.fields ps }
  exact k a _ (.inl rfl) e
 | met f y =>
  have e:h.get? a=some (PySem.W.methodObj (.ref f) (.ref y)):=x
  show h'.get? a=some (PySem.W.methodObj (.ref f) (.ref y))
  exact k a _ (.inl rfl) e
 | ext φ=>obtain ⟨p,⟨o,e⟩,st⟩:=x;exact ⟨st _ _ p fun o q=>k _ _ (.inl rfl) q,⟨o,k _ _ (.inl rfl) e⟩,st⟩
theorem HOk.lt (x:HOk P w H h) (e:H a=some o):a<h.objs.size:=(x a o e).lt
theorem HOk.fresh (x:HOk P w H h) (e:h.objs.size≤a):H a=none:=by
 cases q:H a with
 | none=>rfl
 | some u=>exact absurd (Nat.lt_of_lt_of_le (x.lt q) e) (Nat.lt_irrefl _)
theorem HOk.kept (x:HOk P w H h) (k:∀ b u,h.get? b=some u→h'.get? b=some u):HOk P w H h':=fun a o e =>
 (x a o e).stay (fun b u _ q=>k b u q) (fun _ q=>q) fun _ _ q=>q
theorem HOk.laid (x:HOk P w H h) (k:∀ b u,h.get? b=some u→h'.get? b=some u) (hp:h.objs.size≤a) (new:ObjOk P w (upd H a o) h' a o):HOk P w (upd H a o) h':=fun b u e=>by
 have hn:=x.fresh hp
 by_cases hb:b=a
 ·subst hb;rw [upd_same] at e;cases e;exact new
 ·rw [upd_ne hb] at e
  exact (x b u e).stay (fun c v _ q=>k c v q) (fun c q=>by rw [upd_ne (ne_of_none q hn)];exact q) fun c xs q=>by rw [upd_ne (ne_of_none q hn)];exact q
end
def Rd (H:Hp) (a:Addr) (u:HO):Prop:=H a=some u∨∃ o,H a=some (.frz o u)
theorem Rd.of {H:Hp} {a:Addr} {u:HO} (h:H a=some u):Rd H a u:=.inl h
theorem Rd.ok {P:Program} {w:World} {H:Hp} {h:Heap} {a:Addr} {u:HO} (r:Rd H a u) (x:HOk P w H h):ObjOk P w H h a u:=by
 rcases r with r | ⟨o,r⟩
 ·exact x a u r
 ·obtain ⟨_,q⟩:=x a _ r
  exact q
def Mut:Option HO→Prop
 | some (.lst _)=>True
 | some (.dK _)=>True
 | some (.dT _)=>True
 | some (.set _ _)=>True
 | some (.ins _ _ _)=>True
 | some (.ext _)=>True
 | _=>False
section
variable {P:Program} {w:World} {H:Hp} {h h':Heap} {x e:Addr} {o':HO}
theorem HOk.write (ok:HOk P w H h) (mu:Mut (H x)) (he:e=x∨H e=some (.own x)) (k:∀ b u,b≠e→h.get? b=some u→h'.get? b=some u) (heo:∃ u,h'.get? e=some u)
  (new:ObjOk P w (upd H x o') h' x o'):HOk P w (upd H x o') h':=fun b u q=>by
 have nown:∀ c y,H c=some (.own y)→c≠x:=fun c y r z=>by subst z;rw [r] at mu;exact mu
 have ntup:∀ c xs,H c=some (.tup xs)→c≠x:=fun c xs r z=>by subst z;rw [r] at mu;exact mu
 by_cases hb:b=x
 ·subst hb;rw [upd_same] at q;cases q;exact new
 ·rw [upd_ne hb] at q
  by_cases hbe:b=e
  ·have q':H b=some (.own x):=by
    rcases he with z | z
    ·exact absurd (hbe.trans z) hb
    ·rw [hbe];exact z
   rw [q] at q';cases q'
   obtain ⟨v,hv⟩:=heo
   exact ⟨v,by rw [hbe];exact hv⟩
  ·refine (ok b u q).stay (fun c v hc r=>k c v ?_ r) (fun c r=>by rw [upd_ne (nown c b r)];exact r) fun c xs r=>by rw [upd_ne (ntup c xs r)];exact r
   rcases hc with rfl | hc
   ·exact hbe
   ·rintro rfl
    rcases he with z | z
    ·exact nown c b hc z
    ·rw [hc] at z;cases z;exact hb rfl
end
structure Un (fs ex:List Addr) (H H':Hp) (h h':Heap):Prop where
 keep:∀ b o,h.get? b=some o→H b=none→b∉fs→b∉ex→h'.get? b=some o
 slot:∀ b o,h.get? b=some o→H b=none→b∈fs→b∉ex→∃ sl,h'.get? b=some { o with slots:=sl }
 free:∀ b o,h.get? b=some o→H b=none→b∉ex→H' b=none
 there:∀ b o,h.get? b=some o→b∉ex→∃ o',h'.get? b=some o'
 tups:∀ b xs,H b=some (.tup xs)→H' b=some (.tup xs)
 frzs:∀ b o u,H b=some (.frz o u)→H' b=some (.frz o u)
 tbls:∀ b ps,H b=some (.tbl ps)→∃ more,H' b=some (.tbl (ps++more))
section
variable {fs fs' ex ex':List Addr} {H H1 H2:Hp} {h h1 h2 h':Heap} {a x e:Addr} {o:HO}
theorem Un.any (u:Un fs ex H H1 h h1) {b:Addr} {ob:Obj} (q:h.get? b=some ob) (n:H b=none) (hx:b∉ex):∃ sl,h1.get? b=some { ob with slots:=sl }:=by
 by_cases hb:b∈fs
 ·exact u.slot b ob q n hb hx
 ·exact ⟨ob.slots,u.keep b ob q n hb hx⟩
theorem Un.trans (a:Un fs ex H H1 h h1) (b:Un fs ex H1 H2 h1 h2):Un fs ex H H2 h h2 where
 keep:=fun c ob q n hc hx=>b.keep c ob (a.keep c ob q n hc hx) (a.free c ob q n hx) hc hx
 slot:=fun c ob q n hc hx=>by
  obtain ⟨sl,e1⟩:=a.slot c ob q n hc hx
  obtain ⟨sl',e2⟩:=b.slot c _ e1 (a.free c ob q n hx) hc hx
  exact ⟨sl',e2⟩
 free:=fun c ob q n hx=>by
  obtain ⟨o',e1⟩:=a.there c ob q hx
  exact b.free c o' e1 (a.free c ob q n hx) hx
 there:=fun c ob q hx=>by
  obtain ⟨o',e1⟩:=a.there c ob q hx
  exact b.there c o' e1 hx
 tups:=fun c xs q=>b.tups c xs (a.tups c xs q)
 frzs:=fun c ob xs q=>b.frzs c ob xs (a.frzs c ob xs q)
 tbls:=fun c ps q=>by
  obtain ⟨m1,e1⟩:=a.tbls c ps q
  obtain ⟨m2,e2⟩:=b.tbls c _ e1
  exact ⟨m1++m2,by rw [e2,Array.append_assoc]⟩
theorem Un.kept (k:∀ b u,h.get? b=some u→h'.get? b=some u):Un fs ex H H h h' :=
 ⟨fun b ob q _ _ _=>k b ob q,fun b ob q _ _ _=>⟨ob.slots,k b ob q⟩,fun _ _ _ n _=>n,fun b ob q _=>⟨ob,k b ob q⟩,fun _ _ q=>q,fun _ _ _ q=>q,fun _ ps q=>⟨#[],by rw [q];simp⟩⟩
theorem Un.refl:Un fs ex H H h h:=Un.kept fun _ _ q=>q
theorem Un.laid (k:∀ b u,h.get? b=some u→h'.get? b=some u) (hp:h.objs.size≤a) (hn:H a=none):Un fs ex H (upd H a o) h h' where
 keep:=fun b u q _ _ _=>k b u q
 slot:=fun b u q _ _ _=>⟨u.slots,k b u q⟩
 free:=fun b u q n _=>by rw [upd_ne (Nat.ne_of_lt (Nat.lt_of_lt_of_le (Heap.lt_size q) hp))];exact n
 there:=fun b u q _=>⟨u,k b u q⟩
 tups:=fun b xs q=>by rw [upd_ne (ne_of_none q hn)];exact q
 frzs:=fun b u xs q=>by rw [upd_ne (ne_of_none q hn)];exact q
 tbls:=fun b ps q=>⟨#[],by rw [upd_ne (ne_of_none q hn),q];simp⟩
theorem Un.write (mu:Mut (H x)) (he:e=x∨H e=some (.own x)) (k:∀ b u,b≠e→h.get? b=some u→h'.get? b=some u) (heo:∃ u,h'.get? e=some u):Un fs ex H (upd H x o) h h':=by
 have hx:∀ b,H b=none→b≠x:=fun b n z=>by subst z;rw [n] at mu;exact mu
 have hb:∀ b,H b=none→b≠e:=fun b n z=>by
  subst z
  rcases he with r | r
  ·exact hx b n r
  ·rw [n] at r;cases r
 have hm:∀ b u,H b=some u→¬ Mut (some u)→b≠x:=fun b u q nm z=>by subst z;rw [q] at mu;exact nm mu
 refine ⟨fun b u q n _ _=>k b u (hb b n) q,fun b u q n _ _=>⟨u.slots,k b u (hb b n) q⟩,fun b u q n _=>by rw [upd_ne (hx b n)];exact n,fun b u q _=>?_,
  fun b xs q=>by rw [upd_ne (hm b _ q fun z=>z)];exact q,fun b u xs q=>by rw [upd_ne (hm b _ q fun z=>z)];exact q,fun b ps q=>⟨#[],by rw [upd_ne (hm b _ q fun z=>z),q];simp⟩⟩
 by_cases hbe:b=e
 ·subst hbe;exact heo
 ·exact ⟨u,k b u hbe q⟩
theorem Un.mono (u:Un fs ex H H1 h h1) (hs:∀ b∈fs,b∈fs') (hx:∀ b∈ex,b∈ex'):Un fs' ex' H H1 h h1 :=
 ⟨fun b ob q n hb he=>u.keep b ob q n (fun z=>hb (hs b z)) fun z=>he (hx b z),fun _ _ q n _ he=>u.any q n fun z=>he (hx _ z),fun b ob q n he=>u.free b ob q n fun z=>he (hx b z),fun b ob q he=>u.there b ob q fun z=>he (hx b z),u.tups,u.frzs,u.tbls⟩
end
def trk (h:Heap) (H:Hp):List Addr:=(List.range h.objs.size).filter fun a=>(H a).isSome
def hidT (h:Heap) (H:Hp):Heap:=PySem.W.hideAll h (trk h H)
theorem hidT_size (h:Heap) (H:Hp):(hidT h H).objs.size=h.objs.size:=PySem.W.hideAll_size _ _
theorem hidT_get {h:Heap} {H:Hp} {b:Addr} {o:Obj} (e:h.get? b=some o) (n:H b=none):(hidT h H).get? b=some o :=
 PySem.W.hideAll_get _ e fun hm=>by
  have q:(H b).isSome=true:=(List.mem_filter.mp hm).2
  rw [n] at q;simp at q
theorem of_hidT {h:Heap} {H:Hp} {b:Addr} {o:Obj} (e:(hidT h H).get? b=some o):h.get? b=some o∧H b=none:=by
 have e':h.get? b=some o:=PySem.W.of_hideAll (trk h H) e
 refine ⟨e',?_⟩
 cases q:H b with
 | none=>rfl
 | some x =>
  have hm:b∈trk h H:=List.mem_filter.mpr ⟨List.mem_range.mpr (Heap.lt_size e'),by simp [q]⟩
  have z:(hidT h H).get? b=none:=PySem.W.hideAll_none (trk h H) hm
  rw [z] at e;cases e
def allNews (g h:Heap) (L:Addr):List (Addr × Obj):=(List.range h.objs.size).filterMap fun a=>if a=L∨(g.get? a).isSome=true then none else (h.get? a).map fun o=>(a,o)
def rest (g h:Heap) (L d:Addr):List (Addr × Obj):=(allNews g h L).filter fun p=>decide (p.1≠d)
end L2
namespace L2
open PySem PySem.Spec PyProof.Rows
structure Mod (K:PySem.W.Frag) (mg:Str→Option Value) (base:Heap):Prop where
 kin:K.In base
 glob:base.Ns mainGlobals mg
 blt:∃ mb,base.Ns builtinsNs mb∧∀ x:Str,x≠"__name__"→mb x=bootBuiltins x
 nolimit:base.NoLimit
structure Cx where
 prog:Program
 w:World
 K:PySem.W.Frag
 mg:Str→Option Value
 base:Heap
 A:Around
 N:List Str
 s₀:Shared
 H₀:Hp
 env:Env
 outer:List Env
 stack:List Env
 ex:List Addr
 fn:Str→Bool
 calm:Bool
 pn:List (Addr × Obj)
 xe:Value→Shared→Prop
def frs (l:List Env):List Addr:=l.filterMap (·.frame)
abbrev Cx.fs (X:Cx):List Addr:=frs X.outer
def Vis (sc:Scope) (x:Str):Prop:=sc.names.lookup x=some .local∨sc.names.lookup x=some .cell∨sc.names.lookup x=some .free
def Loc (sc:Scope) (x:Str):Prop:=sc.names.lookup x=some .local∨sc.names.lookup x=some .cell
def Look (env:Env) (h:Heap) (m:Str→Option Value) (x:Str) (u:Value):Prop :=
 (env.kindOf x=some .local∧m x=some u)∨((env.kindOf x=some .cell∨env.kindOf x=some .free)∧∃ c,env.cells.lookup x=some c∧h.IsCell c (some u))
structure Cx.Ok (X:Cx):Prop where
 mod:Mod X.K X.mg X.base
 kind:X.env.scope.kind=.function
 glob:X.env.globals=mainGlobals
 blt:X.env.builtins=builtinsNs
 above:X.s₀.heap.objs.size≤X.env.locals
 inj:∀ x y c,X.env.cells.lookup x=some c→X.env.cells.lookup y=some c→x=y
 has:∀ x,(X.env.kindOf x=some .cell∨X.env.kindOf x=some .free)→∃ c,X.env.cells.lookup x=some c
 cab:∀ x c,X.fn x=true→X.env.cells.lookup x=some c→X.s₀.heap.objs.size≤c
 hd:X.calm=true→X.A.handled=none
 frames:X.A.frames=some X.stack
 stk:X.stack=X.outer∨(X.stack=X.env::X.outer∧X.env.frame=some X.env.locals)
 exf:∀ b∈X.ex,b≠X.env.locals∧∀ x c,X.env.cells.lookup x=some c→c≠b
 bs:∀ b o,X.base.get? b=some o→X.s₀.heap.get? b=some o∧X.H₀ b=none
 bsz:X.base.objs.size≤X.s₀.heap.objs.size
 noex:∀ b o,X.base.get? b=some o→b∉X.ex
 exfs:∀ b∈X.ex,b∉X.fs
 funs:X.s₀.heap.FunFrames X.base X.outer
 frf:∀ b∈X.fs,X.H₀ b=none
structure Inv (X:Cx) (pins:List (Addr × Obj)) (σ:List (Option V)) (H:Hp) (s:Shared):Prop where
 ok:X.Ok
 os:s.os=X.s₀.os
 bare:AllBare s.gens
 base:Un X.fs X.ex X.H₀ H X.s₀.heap s.heap
 loc:∃ m,s.heap.Ns X.env.locals m∧∀ (i:Nat) (x:Str) (v:V),X.N[i]?=some x→σ[i]?=some (some v)→Vis X.env.scope x→∃ u,RelV v u∧Look X.env s.heap m x u
 cell:∀ x c,X.env.cells.lookup x=some c→∃ v,s.heap.IsCell c v
 free:H X.env.locals=none
 freeC:∀ x c,X.env.cells.lookup x=some c→H c=none
 pin:∀ p∈X.pn++pins,s.heap.get? p.1=some p.2∧H p.1=none∧p.1≠X.env.locals∧p.1∉X.fs∧∀ v,p.2.data≠.cell v
 hok:HOk X.prog X.w H s.heap
 len:σ.length=X.N.length
section
variable {X:Cx} {pins:List (Addr × Obj)} {σ:List (Option V)} {H H':Hp} {s:Shared} {h':Heap}
theorem Cx.Ok.nofr (ok:X.Ok) {b:Addr} {o:Obj} (e:X.base.get? b=some o):b∉X.fs:=fun hb=>by
 have:=(ok.funs.mem hb).1
 rw [e] at this;cases this
theorem Inv.bs (I:Inv X pins σ H s):∀ b o,X.base.get? b=some o→s.heap.get? b=some o∧H b=none:=fun b o e =>
 ⟨I.base.keep b o (I.ok.bs b o e).1 (I.ok.bs b o e).2 (I.ok.nofr e) (I.ok.noex b o e),I.base.free b o (I.ok.bs b o e).1 (I.ok.bs b o e).2 (I.ok.noex b o e)⟩
theorem Inv.bk (I:Inv X pins σ H s):∀ b o,X.base.get? b=some o→s.heap.get? b=some o:=fun b o e=>(I.bs b o e).1
theorem Inv.mod (I:Inv X pins σ H s):Mod X.K X.mg X.base:=I.ok.mod
theorem Inv.kIn (I:Inv X pins σ H s):X.K.In s.heap:=I.ok.mod.kin.keeps I.bk
theorem Inv.nolimit (I:Inv X pins σ H s):s.heap.NoLimit:=I.ok.mod.nolimit.keeps I.bk
theorem Inv.lt (I:Inv X pins σ H s):X.env.locals<s.heap.objs.size:=let ⟨_,hn,_⟩:=I.loc;hn.lt
theorem Inv.sz (I:Inv X pins σ H s):X.s₀.heap.objs.size≤s.heap.objs.size:=Nat.le_trans I.ok.above (Nat.le_of_lt I.lt)
theorem Inv.nofs (I:Inv X pins σ H s) {a:Addr} (h:s.heap.objs.size≤a):a∉X.fs:=fun hb=>by
 obtain ⟨_,o,ho,_⟩:=I.ok.funs.mem hb
 exact absurd (Nat.lt_of_lt_of_le (Heap.lt_size ho) (Nat.le_trans I.sz h)) (Nat.lt_irrefl _)
theorem Inv.cne (I:Inv X pins σ H s):∀ x c,X.env.cells.lookup x=some c→c≠X.env.locals:=fun x c e z=>by
 obtain ⟨v,o,ho,hd⟩:=I.cell x c e
 obtain ⟨m,⟨o',es,ep,ho',hd',_⟩,_⟩:=I.loc
 rw [z,ho'] at ho;cases ho;rw [hd'] at hd;cases hd
theorem Inv.funs (I:Inv X pins σ H s):s.heap.FunFrames X.base X.outer:=by
 have all:∀ (l:List Env),(∀ b∈frs l,b∈X.fs)→X.s₀.heap.FunFrames X.base l→s.heap.FunFrames X.base l:=by
  intro l
  induction l with
  | nil=>intro _ _;trivial
  | cons env r ih =>
   intro hs hl
   obtain ⟨hk,⟨L,o,hf,hn,ho,hd⟩,hr⟩:=hl
   have hL:L∈X.fs:=hs L (by unfold frs;rw [List.filterMap_cons,hf];exact List.mem_cons_self)
   obtain ⟨sl,e⟩:=I.base.slot L o ho (I.ok.frf L hL) hL fun z=>I.ok.exfs L z hL
   exact ⟨hk,⟨L,_,hf,hn,e,hd⟩,ih (fun b hb=>hs b (by unfold frs;rw [List.filterMap_cons,hf];exact List.mem_cons_of_mem _ hb)) hr⟩
 exact all X.outer (fun _ hb=>hb) I.ok.funs
theorem Inv.stack (I:Inv X pins σ H s):s.heap.FunFrames X.base X.stack:=by
 rcases I.ok.stk with e | ⟨e,hf⟩
 ·rw [e];exact I.funs
 ·rw [e]
  obtain ⟨m,hn,_⟩:=I.loc
  refine .cons (by rw [I.ok.kind];decide) hf hn ?_ I.funs
  exact Heap.get?_none_of_le (Nat.le_trans I.ok.bsz I.ok.above)
theorem Inv.stkSub (I:Inv X pins σ H s):∀ b∈frs X.stack,b∈X.env.locals::X.fs:=fun b hb=>by
 rcases I.ok.stk with e | ⟨e,hf⟩
 ·rw [e] at hb;exact List.mem_cons_of_mem _ hb
 ·rw [e] at hb
  unfold frs at hb
  rw [List.filterMap_cons,hf] at hb
  exact hb
theorem Inv.stkFree (I:Inv X pins σ H s):∀ b∈frs X.stack,H b=none:=fun b hb=>by
 rcases List.mem_cons.mp (I.stkSub b hb) with e | hb
 ·rw [e];exact I.free
 ·obtain ⟨_,o,ho,_⟩:=I.ok.funs.mem hb
  exact I.base.free b o ho (I.ok.frf b hb) fun z=>I.ok.exfs b z hb
theorem Inv.step {g':Array GenState} {t':Nat} {d':Drawn} {ch:List Addr} (I:Inv X pins σ H s)
  (hch:∀ b∈ch,(b∈X.ex∨X.s₀.heap.objs.size≤b)∧b≠X.env.locals∧(∀ x c,X.env.cells.lookup x=some c→c≠b)∧∀ p∈X.pn++pins,p.1≠b)
  (keep:∀ b o,b≠X.env.locals→b∉X.fs→b∉ch→s.heap.get? b=some o→H b=none→h'.get? b=some o)
  (slot:∀ b o,b≠X.env.locals→b∈X.fs→b∉ch→s.heap.get? b=some o→H b=none→∃ sl,h'.get? b=some { o with slots:=sl }) (free:∀ b o,b∉ch→s.heap.get? b=some o→H b=none→H' b=none)
  (there:∀ b o,b∉ch→s.heap.get? b=some o→∃ o',h'.get? b=some o')
  (tups:∀ b xs,H b=some (.tup xs)→H' b=some (.tup xs)) (frzs:∀ b o u,H b=some (.frz o u)→H' b=some (.frz o u)) (tbls:∀ b ps,H b=some (.tbl ps)→∃ more,H' b=some (.tbl (ps++more)))
  (ns:∀ m,s.heap.Ns X.env.locals m→h'.Ns X.env.locals m) (hok:HOk X.prog X.w H' h') (hg:AllBare g') :
  Inv X pins σ H' { s with heap:=h',gens:=g',drawn:=d',toks:=t' }:=by
 have neL:∀ b o,X.s₀.heap.get? b=some o→b≠X.env.locals:=fun b o e=>Nat.ne_of_lt (Nat.lt_of_lt_of_le (Heap.lt_size e) I.ok.above)
 have neC:∀ b o,X.s₀.heap.get? b=some o→b∉X.ex→b∉ch:=fun b o e hx hb=>by
  rcases (hch b hb).1 with z | z
  ·exact hx z
  ·exact absurd (Nat.lt_of_lt_of_le (Heap.lt_size e) z) (Nat.lt_irrefl _)
 have cellK:∀ x c,X.env.cells.lookup x=some c→∀ v,s.heap.IsCell c v→h'.IsCell c v:=fun x c e v ⟨o,ho,hd⟩=>by
  have nch:c∉ch:=fun z=>(hch c z).2.2.1 x c e rfl
  by_cases hc:c∈X.fs
  ·obtain ⟨sl,q⟩:=slot c o (I.cne x c e) hc nch ho (I.freeC x c e)
   exact ⟨_,q,hd⟩
  ·exact ⟨o,keep c o (I.cne x c e) hc nch ho (I.freeC x c e),hd⟩
 refine ⟨I.ok,I.os,hg,⟨fun b o e n hb hx=>?_,fun b o e n hb hx=>?_,fun b o e n hx=>?_,fun b o e hx=>?_,fun b xs e=>tups b xs (I.base.tups b xs e),fun b o xs e=>frzs b o xs (I.base.frzs b o xs e),fun b ps e=>?_⟩,?_,fun x c e=>?_,?_,fun x c e=>?_,fun p hp=>?_,hok,I.len⟩
 ·exact keep b o (neL b o e) hb (neC b o e hx) (I.base.keep b o e n hb hx) (I.base.free b o e n hx)
 ·obtain ⟨sl,e1⟩:=I.base.slot b o e n hb hx
  obtain ⟨sl',e2⟩:=slot b _ (neL b o e) hb (neC b o e hx) e1 (I.base.free b o e n hx)
  exact ⟨sl',e2⟩
 ·obtain ⟨o',e1⟩:=I.base.there b o e hx
  exact free b o' (neC b o e hx) e1 (I.base.free b o e n hx)
 ·obtain ⟨o',e1⟩:=I.base.there b o e hx
  exact there b o' (neC b o e hx) e1
 ·obtain ⟨m1,e1⟩:=I.base.tbls b ps e
  obtain ⟨m2,e2⟩:=tbls b _ e1
  exact ⟨m1++m2,by rw [e2,Array.append_assoc]⟩
 ·obtain ⟨m,hn,hl⟩:=I.loc
  refine ⟨m,ns m hn,fun i x v e1 e2 e3=>?_⟩
  obtain ⟨u,r,l⟩:=hl i x v e1 e2 e3
  refine ⟨u,r,?_⟩
  rcases l with l | ⟨k,c,e,z⟩
  ·exact .inl l
  ·exact .inr ⟨k,c,e,cellK x c e _ z⟩
 ·obtain ⟨v,z⟩:=I.cell x c e
  exact ⟨v,cellK x c e v z⟩
 ·obtain ⟨m,⟨o,_,_,ho,_⟩,_⟩:=I.loc
  exact free _ o (fun z=>(hch _ z).2.1 rfl) ho I.free
 ·obtain ⟨v,o,ho,hd⟩:=I.cell x c e
  exact free c o (fun z=>(hch c z).2.2.1 x c e rfl) ho (I.freeC x c e)
 ·obtain ⟨e,n,ne,nf,d⟩:=I.pin p hp
  have nch:p.1∉ch:=fun z=>(hch p.1 z).2.2.2 p hp rfl
  exact ⟨keep p.1 p.2 ne nf nch e n,free p.1 p.2 nch e n,ne,nf,d⟩
theorem Inv.un {t':Nat} (I:Inv X pins σ H s) (u:Un X.fs [] H H' s.heap h') (hok:HOk X.prog X.w H' h'):Inv X pins σ H' { s with heap:=h',toks:=t' }:=by
 obtain ⟨m,⟨o,es,ep,ho,r⟩,_⟩:=id I.loc
 obtain ⟨sl,hL⟩:=u.any ho I.free (by simp)
 exact I.step (g':=s.gens) (d':=s.drawn) (ch:=[]) (fun _ z=>nomatch z) (fun b o _ hb _ e n=>u.keep b o e n hb (by simp)) (fun b o _ hb _ e n=>u.slot b o e n hb (by simp)) (fun b o _ e n=>u.free b o e n (by simp)) (fun b o _ e=>u.there b o e (by simp)) u.tups u.frzs u.tbls (fun m' hm=>by
  obtain ⟨o',es',ep',ho',r'⟩:=hm
  rw [ho] at ho';cases ho'
  exact ⟨_,es',ep',hL,r'⟩) hok I.bare
theorem Inv.call {g':Array GenState} {t':Nat} {d':Drawn} {ch:List Addr} (I:Inv X pins σ H s) (u:Un (frs X.stack) ch H H' s.heap h') (hok:HOk X.prog X.w H' h') (hg:AllBare g')
  (hch:∀ b∈ch,(b∈X.ex∨X.s₀.heap.objs.size≤b)∧b≠X.env.locals∧(∀ x c,X.env.cells.lookup x=some c→c≠b)∧∀ p∈X.pn++pins,p.1≠b) :
  Inv X pins σ H' { s with heap:=h',gens:=g',drawn:=d',toks:=t' }:=by
 obtain ⟨m,⟨o,es,ep,ho,r⟩,_⟩:=id I.loc
 obtain ⟨sl,hL⟩:=u.any ho I.free fun z=>(hch _ z).2.1 rfl
 exact I.step (ch:=ch) hch (fun b o hL hb hc e n=>u.keep b o e n (fun z=>(List.mem_cons.mp (I.stkSub b z)).elim hL hb) hc) (fun b o _ _ hc e n=>u.any e n hc) (fun b o hc e n=>u.free b o e n hc) (fun b o hc e=>u.there b o e hc) u.tups u.frzs u.tbls (fun m' hm=>by
  obtain ⟨o',es',ep',ho',r'⟩:=hm
  rw [ho] at ho';cases ho'
  exact ⟨_,es',ep',hL,r'⟩) hok hg
theorem Inv.turned {t':Nat} {it:Addr} (I:Inv X pins σ H s) (k:∀ b o,b≠it→s.heap.get? b=some o→h'.get? b=some o) (hn:H it=none) (hL:it≠X.env.locals)
  (h1:it∈X.ex∨X.s₀.heap.objs.size≤it) (h2:∀ x c,X.env.cells.lookup x=some c→c≠it) (h3:∀ p∈X.pn++pins,p.1≠it):Inv X pins σ H { s with heap:=h',toks:=t' }:=by
 have nit:∀ b u,H b=some u→b≠it:=fun b u e z=>by rw [z,hn] at e;cases e
 refine I.step (g':=s.gens) (d':=s.drawn) (ch:=[it]) (fun b hb=>?_) (fun b o _ _ hc e _=>k b o (fun z=>hc (by simp [z])) e) (fun b o _ _ hc e _=>⟨o.slots,k b o (fun z=>hc (by simp [z])) e⟩) (fun _ _ _ _ n=>n)
  (fun b o hc e=>⟨o,k b o (fun z=>hc (by simp [z])) e⟩) (fun _ _ e=>e) (fun _ _ _ e=>e) (fun b ps e=>⟨#[],by rw [e];simp⟩) (fun m hm=>?_) (fun b u e=>?_) I.bare
 ·have e:b=it:=by simpa using hb
  subst e
  exact ⟨h1,hL,h2,h3⟩
 ·obtain ⟨o,es,ep,ho,r⟩:=hm
  exact ⟨o,es,ep,k _ o (Ne.symm hL) ho,r⟩
 ·refine (I.hok b u e).stay (fun c v hc q=>k c v ?_ q) (fun _ q=>q) fun _ _ q=>q
  rcases hc with z | z
  ·rw [z];exact nit b u e
  ·exact nit c _ z
theorem Inv.tok (I:Inv X pins σ H s) (t:Nat):Inv X pins σ H { s with toks:=t }:=I.un (h':=s.heap) (t':=t) Un.refl I.hok
theorem Inv.kept {t':Nat} (I:Inv X pins σ H s) (k:∀ b u,s.heap.get? b=some u→h'.get? b=some u):Inv X pins σ H { s with heap:=h',toks:=t' }:=I.un (Un.kept k) (I.hok.kept k)
theorem Inv.laid {a:Addr} {o:HO} {t':Nat} (I:Inv X pins σ H s) (k:∀ b u,s.heap.get? b=some u→h'.get? b=some u) (hp:s.heap.objs.size≤a) (new:ObjOk X.prog X.w (upd H a o) h' a o) :
  Inv X pins σ (upd H a o) { s with heap:=h',toks:=t' }:=I.un (Un.laid k hp (I.hok.fresh hp)) (I.hok.laid k hp new)
theorem Inv.write {x e:Addr} {o:HO} {t':Nat} (I:Inv X pins σ H s) (mu:Mut (H x)) (he:e=x∨H e=some (.own x)) (k:∀ b u,b≠e→s.heap.get? b=some u→h'.get? b=some u) (heo:∃ u,h'.get? e=some u)
  (new:ObjOk X.prog X.w (upd H x o) h' x o):Inv X pins σ (upd H x o) { s with heap:=h',toks:=t' }:=I.un (Un.write mu he k heo) (I.hok.write mu he k heo new)
theorem Inv.pins_of {pins':List (Addr × Obj)} (I:Inv X pins σ H s) (h:∀ p∈pins',s.heap.get? p.1=some p.2∧H p.1=none∧p.1≠X.env.locals∧p.1∉X.fs∧∀ v,p.2.data≠.cell v):Inv X pins' σ H s :=
 ⟨I.ok,I.os,I.bare,I.base,I.loc,I.cell,I.free,I.freeC,fun p hp=>(List.mem_append.mp hp).elim (fun z=>I.pin p (List.mem_append_left _ z)) (h p),I.hok,I.len⟩
theorem nodup_ix {N:List Str} (hN:N.Nodup) {i j:Nat} {x:Str} (a:N[i]?=some x) (b:N[j]?=some x):i=j:=by
 obtain ⟨h1,e1⟩:=List.getElem?_eq_some_iff.mp a
 obtain ⟨h2,e2⟩:=List.getElem?_eq_some_iff.mp b
 exact (List.getElem_inj hN).mp (e1.trans e2.symm)
theorem store_ok2 {M:Model} {A:Around} {E:Value→Shared→Prop} {i:Nat} {x:Str} {v:V} {u:Value} {Q:Unit→Shared→Prop} (I:Inv X pins σ H s) (hN:X.N.Nodup) (hi:X.N[i]?=some x) (hx:Loc X.env.scope x) (r:RelV v u)
  (h:∀ s',Inv X pins (σ.set i (some v)) H s'→(∃ a,Heap.SameBut a s.heap s'.heap∧(a=X.env.locals∨X.env.cells.lookup x=some a))→Q () s') (hf:X.fn x=true∨X.env.scope.names.lookup x=some .local:=by first | exact .inl rfl | exact .inr rfl | assumption):wpAny M A (storeName X.env x u) Q E s:=by
 obtain ⟨m,hn,hl⟩:=id I.loc
 have hcls:(X.env.scope.kind == .class || (X.env.scope.kind == .module && X.env.locals != X.env.globals))=false:=by rw [I.ok.kind];rfl
 have hiσ:i<σ.length:=by rw [I.len];exact (List.getElem?_eq_some_iff.mp hi).1
 have cne:=I.cne
 have tracked:∀ {a:Addr} {h':Heap},(∃ o,s.heap.get? a=some o∧H a=none)→Heap.SameBut a s.heap h'→HOk X.prog X.w H h':=fun {a h'} ha hs b ob e=>by
  obtain ⟨_,_,hfree⟩:=ha
  refine (I.hok b ob e).stay (fun c w' hc q=>(hs.2 c ?_).trans q) (fun _ q=>q) fun _ _ q=>q
  rintro rfl
  rcases hc with rfl | hc
  ·rw [hfree] at e;cases e
  ·rw [hfree] at hc;cases hc
 rcases hx with hk | hk
 ·refine wpAny_storeName_local hk hn (fun h' hn' hs=>?_) hcls
  obtain ⟨oL,_,_,hoL,_⟩:=id hn
  refine h _ ⟨I.ok,I.os,I.bare,⟨fun b o e n hb hx=>?_,fun b o e n hb hx=>?_,I.base.free,fun b o e hx=>?_,I.base.tups,I.base.frzs,I.base.tbls⟩,⟨_,hn',fun j y v' e1 e2 e3=>?_⟩,fun y c e=>?_,I.free,I.freeC,fun p hp=>?_,tracked ⟨oL,hoL,I.free⟩ hs,by simpa using I.len⟩ ⟨_,hs,.inl rfl⟩
  ·exact (hs.2 b (Nat.ne_of_lt (Nat.lt_of_lt_of_le (Heap.lt_size e) I.ok.above))).trans (I.base.keep b o e n hb hx)
  ·obtain ⟨sl,e1⟩:=I.base.slot b o e n hb hx
   exact ⟨sl,(hs.2 b (Nat.ne_of_lt (Nat.lt_of_lt_of_le (Heap.lt_size e) I.ok.above))).trans e1⟩
  ·obtain ⟨o',e1⟩:=I.base.there b o e hx
   exact ⟨o',(hs.2 b (Nat.ne_of_lt (Nat.lt_of_lt_of_le (Heap.lt_size e) I.ok.above))).trans e1⟩
  ·by_cases hj:j=i
   ·subst hj
    rw [hi] at e1;cases e1
    rw [List.getElem?_set_self hiσ] at e2
    cases e2
    exact ⟨u,r,.inl ⟨hk,by simp⟩⟩
   ·rw [List.getElem?_set_ne (Ne.symm hj)] at e2
    obtain ⟨u',r',q⟩:=hl j y v' e1 e2 e3
    refine ⟨u',r',?_⟩
    rcases q with ⟨k,e⟩ | ⟨k,c,e,z⟩
    ·refine .inl ⟨k,?_⟩
     have:y≠x:=fun e=>hj (nodup_ix hN e1 (e▸hi))
     simp [this,e]
    ·exact .inr ⟨k,c,e,z.sameBut hs (cne y c e)⟩
  ·obtain ⟨w',z⟩:=I.cell y c e
   exact ⟨w',z.sameBut hs (cne y c e)⟩
  ·obtain ⟨e,n,ne,nf,d⟩:=I.pin p hp
   exact ⟨(hs.2 p.1 ne).trans e,n,ne,nf,d⟩
 ·have hfn:X.fn x=true:=by
   rcases hf with z | z
   ·exact z
   ·rw [z] at hk;cases hk
  obtain ⟨c,hc⟩:=I.ok.has x (.inl hk)
  obtain ⟨w',z⟩:=I.cell x c hc
  refine wpAny_storeName_cell I.ok.kind hk hc z (fun h' hc' hs=>?_)
  obtain ⟨oc,hoc,hocd⟩:=id z
  refine h { s with heap:=h' } ⟨I.ok,I.os,I.bare,⟨fun b o e n hb hx=>?_,fun b o e n hb hx=>?_,I.base.free,fun b o e hx=>?_,I.base.tups,I.base.frzs,I.base.tbls⟩,⟨m,hn.sameBut hs (Ne.symm (cne x c hc)),fun j y v' e1 e2 e3=>?_⟩,fun y c' e=>?_,I.free,I.freeC,fun p hp=>?_,tracked ⟨oc,hoc,I.freeC x c hc⟩ hs,by simpa using I.len⟩ ⟨c,hs,.inr hc⟩
  ·exact (hs.2 b (Nat.ne_of_lt (Nat.lt_of_lt_of_le (Heap.lt_size e) (I.ok.cab x c hfn hc)))).trans (I.base.keep b o e n hb hx)
  ·obtain ⟨sl,e1⟩:=I.base.slot b o e n hb hx
   exact ⟨sl,(hs.2 b (Nat.ne_of_lt (Nat.lt_of_lt_of_le (Heap.lt_size e) (I.ok.cab x c hfn hc)))).trans e1⟩
  ·obtain ⟨o',e1⟩:=I.base.there b o e hx
   exact ⟨o',(hs.2 b (Nat.ne_of_lt (Nat.lt_of_lt_of_le (Heap.lt_size e) (I.ok.cab x c hfn hc)))).trans e1⟩
  ·by_cases hj:j=i
   ·subst hj
    rw [hi] at e1;cases e1
    rw [List.getElem?_set_self hiσ] at e2
    cases e2
    exact ⟨u,r,.inr ⟨.inl hk,c,hc,hc'⟩⟩
   ·rw [List.getElem?_set_ne (Ne.symm hj)] at e2
    obtain ⟨u',r',q⟩:=hl j y v' e1 e2 e3
    refine ⟨u',r',?_⟩
    rcases q with q | ⟨k,c',e,z'⟩
    ·exact .inl q
    ·refine .inr ⟨k,c',e,z'.sameBut hs ?_⟩
     rintro rfl
     exact hj (nodup_ix hN e1 (I.ok.inj _ _ _ e hc▸hi))
  ·by_cases hcc:c'=c
   ·subst hcc;exact ⟨_,hc'⟩
   ·obtain ⟨w2,z2⟩:=I.cell y c' e
    exact ⟨w2,z2.sameBut hs hcc⟩
  ·obtain ⟨e,n,ne,nf,d⟩:=I.pin p hp
   refine ⟨(hs.2 p.1 ?_).trans e,n,ne,nf,d⟩
   intro q
   rw [q,hoc] at e
   have q':oc=p.2:=Option.some.inj e
   exact d w' (by rw [←q'];exact hocd)
theorem store_ok {M:Model} {A:Around} {E:Value→Shared→Prop} {i:Nat} {x:Str} {v:V} {u:Value} {Q:Unit→Shared→Prop} (I:Inv X pins σ H s) (hN:X.N.Nodup) (hi:X.N[i]?=some x) (hx:Loc X.env.scope x) (r:RelV v u)
  (h:∀ s',Inv X pins (σ.set i (some v)) H s'→Q () s') (hf:X.fn x=true∨X.env.scope.names.lookup x=some .local:=by first | exact .inl rfl | exact .inr rfl | assumption):wpAny M A (storeName X.env x u) Q E s :=
 store_ok2 I hN hi hx r (fun s' I' _=>h s' I') hf
theorem Inv.call' {s':Shared} {ch:List Addr} (I:Inv X pins σ H s) (ho:s'.os=s.os) (u:Un (frs X.stack) ch H H' s.heap s'.heap) (hok:HOk X.prog X.w H' s'.heap) (hg:AllBare s'.gens)
  (hch:∀ b∈ch,(b∈X.ex∨X.s₀.heap.objs.size≤b)∧b≠X.env.locals∧(∀ x c,X.env.cells.lookup x=some c→c≠b)∧∀ p∈X.pn++pins,p.1≠b):Inv X pins σ H' s':=by
 obtain ⟨h',g',d',t',o'⟩:=s'
 have e:o'=s.os:=ho
 subst e
 exact I.call (g':=g') (t':=t') (d':=d') u hok hg hch
end
abbrev XK:=Value→Option Addr→Hp→Prop
abbrev St:=List (Option V)
abbrev VK:=V→Hp→Prop
abbrev TE:=St→Hp→VK→Prop
abbrev TT:=St→Hp→(Bool→Hp→Prop)→Prop
abbrev TA:=St→Hp→(List V→Hp→Prop)→Prop
structure Ends where
 nx:St→Hp→Prop
 rt:VK
 bk:St→Hp→Prop:=fun _ _=>False
 ct:St→Hp→Prop:=fun _ _=>False
abbrev TS:=Ends→St→Hp→Prop
def EP (X:Cx) (pins:List (Addr × Obj)) (σ:St) (Q:VK) (u:Value) (s':Shared):Prop:=∃ v H',Inv X pins σ H' s'∧RelV v u∧Q v H'
def TP (X:Cx) (pins:List (Addr × Obj)) (σ:St) (Q:Bool→Hp→Prop) (b:Bool) (s':Shared):Prop:=∃ H',Inv X pins σ H' s'∧Q b H'
def AP (X:Cx) (pins:List (Addr × Obj)) (σ:St) (Q:List V→Hp→Prop) (us:List Value) (s':Shared):Prop:=∃ vs H',Inv X pins σ H' s'∧Vals vs us∧Q vs H'
def SP (X:Cx) (pins:List (Addr × Obj)) (D:Ends) (f:Flow) (s':Shared):Prop :=
 match f with
 | .next=>∃ σ' H',Inv X pins σ' H' s'∧D.nx σ' H'
 | .brk=>∃ σ' H',Inv X pins σ' H' s'∧D.bk σ' H'
 | .cont=>∃ σ' H',Inv X pins σ' H' s'∧D.ct σ' H'
 | .ret u=>∃ v σ' H',Inv X pins σ' H' s'∧RelV v u∧D.rt v H'
def PE (X:Cx) (e:Expr) (t:TE):Prop :=
 ∀ (pins:List (Addr × Obj)) (s:Shared) (σ:St) (H:Hp) (Q:VK),Inv X pins σ H s→t σ H Q→wpAny (model X.prog X.w) X.A (eval e X.env) (EP X pins σ Q) X.xe s
def PT (X:Cx) (e:Expr) (t:TT):Prop :=
 ∀ (pins:List (Addr × Obj)) (s:Shared) (σ:St) (H:Hp) (Q:Bool→Hp→Prop),Inv X pins σ H s→t σ H Q→wpAny (model X.prog X.w) X.A (isTrue e X.env (eval e X.env)) (TP X pins σ Q) X.xe s
def PW (X:Cx) (e:Expr) (t:TT):Prop :=
 ∀ (whole:Sem Value) (pins:List (Addr × Obj)) (s:Shared) (σ:St) (H:Hp) (Q:Bool→Hp→Prop),Inv X pins σ H s→t σ H Q→wpAny (model X.prog X.w) X.A (isTrue e X.env whole) (TP X pins σ Q) X.xe s
theorem PW.pt {X:Cx} {e:Expr} {t:TT} (h:PW X e t):PT X e t:=h _
def PA (X:Cx) (es:List Expr) (t:TA):Prop :=
 ∀ (pos:Pos) (pins:List (Addr × Obj)) (s:Shared) (σ:St) (H:Hp) (Q:List V→Hp→Prop),Inv X pins σ H s→t σ H Q→wpAny (model X.prog X.w) X.A (spliced (backTo pos (starEach es X.env))) (AP X pins σ Q) X.xe s
def PS (X:Cx) (st:Stmt) (t:TS):Prop :=
 ∀ (pins:List (Addr × Obj)) (s:Shared) (σ:St) (H:Hp) (D:Ends),Inv X pins σ H s→t D σ H→wpAny (model X.prog X.w) X.A (exec st X.env) (SP X pins D) X.xe s
def PSs (X:Cx) (st:List Stmt) (t:TS):Prop :=
 ∀ (pins:List (Addr × Obj)) (s:Shared) (σ:St) (H:Hp) (D:Ends),Inv X pins σ H s→t D σ H→wpAny (model X.prog X.w) X.A (execs st X.env) (SP X pins D) X.xe s
theorem thn {α:Type} {t:Sem α} {Q Q':α→Shared→Prop} {M:Model} {A:Around} {E:Value→Shared→Prop} {s:Shared} (h:wpAny M A t Q E s) (hQ:∀ a s,Q a s→Q' a s):wpAny M A t Q' E s:=wpAny_mono h hQ fun _ _ x=>x
end L2
namespace L2
open PySem PySem.Spec PyProof.Rows
section
variable {X:Cx}
def tVar (i:Nat):TE:=fun σ H Q=>∃ v,σ[i]?=some (some v)∧Q v H
def tC (v:V):TE:=fun _ H Q=>Q v H
theorem pe_var {i:Nat} {x:Str} {pos:Pos} (hN:X.N[i]?=some x) (hv:Vis X.env.scope x) (hd:(x == ("__debug__":Str))=false:=by decide) (hcd:(x == ("__classdict__":Str))=false:=by decide):PE X (.Name x pos) (tVar i):=by
 intro pins s σ H Q I h
 obtain ⟨v,e,h⟩:=h
 obtain ⟨m,hn,hl⟩:=I.loc
 obtain ⟨u,r,l⟩:=hl i x v hN e hv
 have fin:EP X pins σ Q u s:=⟨v,H,I,r,h⟩
 rcases l with ⟨hk,hm⟩ | ⟨hk,c,hc,hcell⟩
 ·exact wpAny_Name (wpAny_loadName_local I.ok.kind hk hn hm fin) hd
 ·rcases hk with hk | hk
  ·exact wpAny_Name (wpAny_loadName_cell I.ok.kind hk hc hcell fin) hd
  ·exact wpAny_Name (wpAny_loadName_free I.ok.kind hk hc hcell fin hcd) hd
theorem pe_int {i j pos}:PE X (.Constant (.int i) j pos) (tC (.int i)):=fun _ _ _ H _ I h=>wpAny_Constant_int ⟨.int i,H,I.tok _,⟨_,rfl⟩,h⟩
theorem pe_bl {b j pos}:PE X (.Constant (.bool b) j pos) (tC (.bl b)):=fun _ _ _ H _ I h=>Constant_bool ⟨.bl b,H,I,rfl,h⟩
theorem pe_non {j pos}:PE X (.Constant .none j pos) (tC .non):=fun _ _ _ H _ I h=>Constant_none ⟨.non,H,I,rfl,h⟩
theorem pe_str {x j pos}:PE X (.Constant (.str x) j pos) (tC (.str x)):=fun _ _ _ H _ I h=>Calls.Constant_str ⟨.str x,H,I.tok _,⟨_,rfl⟩,h⟩
def Gl (X:Cx) (x:Str):Prop:=X.env.kindOf x=some .globalImplicit
theorem ld_glob {E:Value→Shared→Prop} {pins:List (Addr × Obj)} {s:Shared} {σ:St} {H:Hp} {x:Str} {u:Value} {pos:Pos} {Q:Value→Shared→Prop} (I:Inv X pins σ H s) (hg:Gl X x) (hm:X.mg x=some u) (h:Q u s)
  (hd:(x == ("__debug__":Str))=false:=by decide):wpAny (model X.prog X.w) X.A (eval (.Name x pos) X.env) Q E s :=
 Calls.Name_function_global I.ok.kind hg (Calls.loadGlobal_global (by rw [I.ok.glob];exact I.mod.glob.keeps I.bk) hm h) hd
theorem ld_blt {E:Value→Shared→Prop} {pins:List (Addr × Obj)} {s:Shared} {σ:St} {H:Hp} {x:Str} {u:Value} {pos:Pos} {Q:Value→Shared→Prop} (I:Inv X pins σ H s) (hg:Gl X x) (hm:X.mg x=none) (hv:bootBuiltins x=some u) (h:Q u s)
  (hn:x≠"__name__":=by decide) (hd:(x == ("__debug__":Str))=false:=by decide):wpAny (model X.prog X.w) X.A (eval (.Name x pos) X.env) Q E s:=by
 obtain ⟨mb,h1,h2⟩:=I.mod.blt
 exact Calls.Name_function_global I.ok.kind hg (Calls.loadGlobal_builtin (by rw [I.ok.glob];exact I.mod.glob.keeps I.bk) hm (by rw [I.ok.blt];exact h1.keeps I.bk) ((h2 x hn).trans hv) h) hd
theorem pe_glob {x:Str} {v:V} {u:Value} {pos:Pos} (hg:Gl X x) (hm:X.mg x=some u) (r:RelV v u) (hd:(x == ("__debug__":Str))=false:=by decide):PE X (.Name x pos) (tC v) :=
 fun _ _ _ H _ I h=>ld_glob I hg hm ⟨v,H,I,r,h⟩ hd
theorem pe_bltn {x:Str} {v:V} {u:Value} {pos:Pos} (hg:Gl X x) (hm:X.mg x=none) (hv:bootBuiltins x=some u) (r:RelV v u) (hn:x≠"__name__":=by decide) (hd:(x == ("__debug__":Str))=false:=by decide):PE X (.Name x pos) (tC v) :=
 fun _ _ _ H _ I h=>ld_blt I hg hm hv ⟨v,H,I,r,h⟩ hn hd
variable {a b:Expr} {ta tb:TE} {pos:Pos}
def tB (t:TE):TT:=fun σ H Q=>t σ H fun x H1=>∃ c,x=.bl c∧Q c H1
theorem pt_val {e:Expr} {t:TE} (h:PE X e t) (he:∀ whole,isTrue e X.env whole=(do let v ←whole;standAt e.pos;holding [v] (truthy v)):=by intro _;rfl):PT X e (tB t):=by
 intro pins s σ H Q I hw
 refine isTrue_plain (thn (h pins s σ H _ I hw) fun v s1 ⟨x,H1,I1,r1,q1⟩=>?_) (he _)
 obtain ⟨d,rfl,q⟩:=q1
 cases r1
 exact wpAny_truthy_bool ⟨H1,I1,q⟩
variable {tA tB':TT} {rest:List Expr}
def tAnd (t u:TT):TT:=fun σ H Q=>t σ H fun c H1=>if c=true then u σ H1 Q else Q false H1
def tOr (t u:TT):TT:=fun σ H Q=>t σ H fun c H1=>if c=true then Q true H1 else u σ H1 Q
def tNot (t:TT):TT:=fun σ H Q=>t σ H fun c H1=>Q (!c) H1
theorem pw_and1 (ha:PT X a tA):PW X (.BoolOp .And [a] pos) tA:=by
 intro wh pins s σ H Q I h
 refine isTrue_and (thn (ha pins s σ H Q I h) fun c s1 e=>?_)
 cases c with
 | true=>exact isTrue_and_nil e
 | false=>exact e
theorem pw_or1 (ha:PT X a tA):PW X (.BoolOp .Or [a] pos) tA:=by
 intro wh pins s σ H Q I h
 refine isTrue_or (thn (ha pins s σ H Q I h) fun c s1 e=>?_)
 cases c with
 | false=>exact isTrue_or_nil e
 | true=>exact e
theorem pw_and (ha:PT X a tA) (hb:PW X (.BoolOp .And (b::rest) pos) tB'):PW X (.BoolOp .And (a::b::rest) pos) (tAnd tA tB'):=by
 intro wh pins s σ H Q I h
 refine isTrue_and (thn (ha pins s σ H _ I h) fun c s1 ⟨H1,I1,q1⟩=>?_)
 cases c with
 | true=>exact hb wh pins s1 σ H1 Q I1 q1
 | false=>exact ⟨H1,I1,q1⟩
theorem pw_or (ha:PT X a tA) (hb:PW X (.BoolOp .Or (b::rest) pos) tB'):PW X (.BoolOp .Or (a::b::rest) pos) (tOr tA tB'):=by
 intro wh pins s σ H Q I h
 refine isTrue_or (thn (ha pins s σ H _ I h) fun c s1 ⟨H1,I1,q1⟩=>?_)
 cases c with
 | true=>exact ⟨H1,I1,q1⟩
 | false=>exact hb wh pins s1 σ H1 Q I1 q1
theorem pt_not (ha:PT X a tA):PT X (.UnaryOp .Not a pos) (tNot tA):=by
 intro pins s σ H Q I h
 exact isTrue_not (ha pins s σ H (fun c H1=>Q (!c) H1) I h)
def tAndV (ta tb:TE):TE:=fun σ H Q=>ta σ H fun x H1=>∃ c,x=.bl c∧if c=true then tb σ H1 Q else Q (.bl false) H1
def tOrV (ta tb:TE):TE:=fun σ H Q=>ta σ H fun x H1=>∃ c,x=.bl c∧if c=true then Q (.bl true) H1 else tb σ H1 Q
def tNotV (ta:TE):TE:=fun σ H Q=>ta σ H fun x H1=>∃ c,x=.bl c∧Q (.bl (!c)) H1
theorem pe_one {op} {t:TE} (h:PE X a t):PE X (.BoolOp op [a] pos) t:=fun pins s σ H Q I hw=>BoolOp_one (h pins s σ H Q I hw)
theorem pe_and (ha:PE X a ta) (hb:PE X (.BoolOp .And (b::rest) pos) tb):PE X (.BoolOp .And (a::b::rest) pos) (tAndV ta tb):=by
 intro pins s σ H Q I h
 refine BoolOp_and (thn (ha pins s σ H _ I h) fun v s1 ⟨x,H1,I1,r1,q1⟩=>?_)
 obtain ⟨c,rfl,q1⟩:=q1
 cases r1
 refine wpAny_truthy_bool ?_
 cases c with
 | true=>exact hb pins s1 σ H1 Q I1 q1
 | false=>exact ⟨.bl false,H1,I1,rfl,q1⟩
theorem pe_not (ha:PE X a ta):PE X (.UnaryOp .Not a pos) (tNotV ta):=by
 intro pins s σ H Q I h
 refine UnaryOp_ (thn (ha pins s σ H _ I h) fun v s1 ⟨x,H1,I1,r1,q1⟩=>?_)
 obtain ⟨c,rfl,q1⟩:=q1
 cases r1
 exact not_of (wpAny_truthy_bool ⟨.bl (!c),H1,I1,rfl,q1⟩)
end
end L2
namespace L2
open PySem PySem.Spec PyProof.Rows
def SqL (K:PySem.W.Frag) (H:Hp) (a:Addr) (xs:List V):Prop :=
 Rd H a (.lst xs) ∨
  ∃ (o:Obj) (its:Array Value) (n:Nat),K.lookup a=some o∧o.cls=.type "list"∧o.dict=none∧o.data=.seq its n∧its.size≤sizeLine∧Vals xs its.toList
def SqT (K:PySem.W.Frag) (H:Hp) (a:Addr) (xs:List V):Prop :=
 Rd H a (.tup xs) ∨
  ∃ (o:Obj) (its:Array Value) (n:Nat),K.lookup a=some o∧o.cls=.type "tuple"∧o.data=.seq its n∧its.size≤sizeLine∧Vals xs its.toList
def absV:Value→Option V
 | .none=>some .non
 | .bool b=>some (.bl b)
 | .int i _=>some (.int i)
 | .str x _=>some (.str x)
 | .bytes b _=>some (.byt b)
 | .float b _=>some (.flt b)
 | .ref a=>some (.ref a)
 | .type n=>some (.ty n)
 | _=>none
theorem RelV.abs {x:V} {u:Value} (r:RelV x u):absV u=some x:=by
 cases x with
 | non=>cases r;rfl
 | bl _=>cases r;rfl
 | int _=>obtain ⟨t,rfl⟩:=r;rfl
 | str _=>obtain ⟨t,rfl⟩:=r;rfl
 | byt _=>obtain ⟨t,rfl⟩:=r;rfl
 | flt _=>obtain ⟨t,rfl⟩:=r;rfl
 | ref _=>cases r;rfl
 | ty _=>cases r;rfl
theorem RelV.inj {x y:V} {u:Value} (r:RelV x u) (q:RelV y u):x=y:=Option.some.inj (r.abs.symm.trans q.abs)
theorem Vals.inj:∀ {xs ys:List V} {us:List Value},Vals xs us→Vals ys us→xs=ys
 | _,_,_,.nil,.nil=>rfl
 | _,_,_,.cons r t,.cons r' t'=>by rw [r.inj r',Vals.inj t t']
section
variable {X:Cx} {pins:List (Addr × Obj)} {σ:St} {H:Hp} {s:Shared} {a:Addr} {xs ys:List V}
theorem SqL.of {K:PySem.W.Frag} (h:H a=some (.lst xs)):SqL K H a xs:=.inl (.inl h)
theorem SqT.of {K:PySem.W.Frag} (h:H a=some (.tup xs)):SqT K H a xs:=.inl (.inl h)
theorem Inv.list (I:Inv X pins σ H s) (h:SqL X.K H a xs):∃ its:List Value,Vals xs its∧PlainL s.heap a its.toArray∧xs.length≤sizeLine:=by
 rcases h with h | ⟨o,its,n,hk,hc,hd,hs,hz,r⟩
 ·obtain ⟨z,its,n,r,e⟩:=h.ok I.hok
  exact ⟨its,r,⟨_,n,e,rfl,rfl,rfl⟩,z⟩
 ·refine ⟨its.toList,r,⟨o,n,I.kIn a o hk,hc,hd,by simpa using hs⟩,?_⟩
  have e:=r.length
  simp only [Array.length_toList] at e
  lia
theorem Inv.tuple (I:Inv X pins σ H s) (h:SqT X.K H a xs):∃ its:List Value,Vals xs its∧IsTup s.heap a its.toArray∧xs.length≤sizeLine:=by
 rcases h with h | ⟨o,its,n,hk,hc,hs,hz,r⟩
 ·obtain ⟨z,its,r,p⟩:=h.ok I.hok
  exact ⟨its,r,p,z⟩
 ·refine ⟨its.toList,r,⟨o,I.kIn a o hk,hc,n,by simpa using hs⟩,?_⟩
  have e:=r.length
  simp only [Array.length_toList] at e
  lia
theorem Inv.list_inj (I:Inv X pins σ H s) (h:SqL X.K H a xs) (h':SqL X.K H a ys):xs=ys:=by
 obtain ⟨its,r,⟨o,n,e,_,_,d⟩,_⟩:=I.list h
 obtain ⟨its',r',⟨o',n',e',_,_,d'⟩,_⟩:=I.list h'
 rw [e] at e';cases e'
 rw [d] at d'
 injection d' with d1 _
 have:its=its':=by simpa using congrArg Array.toList d1
 subst this
 exact r.inj r'
theorem Inv.tuple_inj (I:Inv X pins σ H s) (h:SqT X.K H a xs) (h':SqT X.K H a ys):xs=ys:=by
 obtain ⟨its,r,⟨o,e,_,n,d⟩,_⟩:=I.tuple h
 obtain ⟨its',r',⟨o',e',_,n',d'⟩,_⟩:=I.tuple h'
 rw [e] at e';cases e'
 rw [d] at d'
 injection d' with d1 _
 have:its=its':=by simpa using congrArg Array.toList d1
 subst this
 exact r.inj r'
end
abbrev Cx.wish (X:Cx) (E:Value→Shared→Prop):Cx:={ X with xe:=E }
abbrev Cx.nox (X:Cx):Cx:=X.wish fun _ _=>False
theorem Cx.Ok.wish {X:Cx} (ok:X.Ok) (E:Value→Shared→Prop):(X.wish E).Ok :=
 ⟨ok.mod,ok.kind,ok.glob,ok.blt,ok.above,ok.inj,ok.has,ok.cab,ok.hd,ok.frames,ok.stk,ok.exf,ok.bs,ok.bsz,ok.noex,ok.exfs,ok.funs,ok.frf⟩
theorem Cx.Ok.unwish {X:Cx} {E:Value→Shared→Prop} (ok:(X.wish E).Ok):X.Ok :=
 ⟨ok.mod,ok.kind,ok.glob,ok.blt,ok.above,ok.inj,ok.has,ok.cab,ok.hd,ok.frames,ok.stk,ok.exf,ok.bs,ok.bsz,ok.noex,ok.exfs,ok.funs,ok.frf⟩
section
variable {X:Cx} {pins:List (Addr × Obj)} {σ:St} {H:Hp} {s:Shared} {E:Value→Shared→Prop}
theorem Inv.wish (I:Inv X pins σ H s) (E:Value→Shared→Prop):Inv (X.wish E) pins σ H s:=⟨I.ok.wish E,I.os,I.bare,I.base,I.loc,I.cell,I.free,I.freeC,I.pin,I.hok,I.len⟩
theorem Inv.unwish (I:Inv (X.wish E) pins σ H s):Inv X pins σ H s:=⟨I.ok.unwish,I.os,I.bare,I.base,I.loc,I.cell,I.free,I.freeC,I.pin,I.hok,I.len⟩
theorem SP.unwish {D:Ends} {f:Flow} {s':Shared} (h:SP (X.wish E) pins D f s'):SP X pins D f s':=by
 cases f with
 | next=>obtain ⟨σ',H',I,q⟩:=h;exact ⟨σ',H',I.unwish,q⟩
 | brk=>obtain ⟨σ',H',I,q⟩:=h;exact ⟨σ',H',I.unwish,q⟩
 | cont=>obtain ⟨σ',H',I,q⟩:=h;exact ⟨σ',H',I.unwish,q⟩
 | ret u=>obtain ⟨v,σ',H',I,r,q⟩:=h;exact ⟨v,σ',H',I.unwish,r,q⟩
theorem PE.nox {e:Expr} {t:TE} (h:PE X.nox e t):PE X e t:=fun pins s σ H Q I hw =>
 wpAny_mono (h pins s σ H Q (I.wish _) hw) (fun _ _ ⟨v,H',I',r,q⟩=>⟨v,H',I'.unwish,r,q⟩) fun _ _ z=>False.elim z
theorem PT.nox {e:Expr} {t:TT} (h:PT X.nox e t):PT X e t:=fun pins s σ H Q I hw =>
 wpAny_mono (h pins s σ H Q (I.wish _) hw) (fun _ _ ⟨H',I',q⟩=>⟨H',I'.unwish,q⟩) fun _ _ z=>False.elim z
theorem PSs.nox {st:List Stmt} {t:TS} (h:PSs X.nox st t):PSs X st t:=fun pins s σ H D I hw =>
 wpAny_mono (h pins s σ H D (I.wish _) hw) (fun _ _ q=>q.unwish) fun _ _ z=>False.elim z
end
section
variable {X:Cx} {st:Stmt} {rest:List Stmt} {t u:TS} {e:Expr} {te:TE} {pos:Pos}
def tNext:TS:=fun D σ H=>D.nx σ H
def tSeq (t u:TS):TS:=fun D σ H=>t { D with nx:=u D } σ H
theorem pss_nil:PSs X [] tNext:=fun _ _ σ H _ I h=>wpAny_execs_nil ⟨σ,H,I,h⟩
theorem pss_cons (h1:PS X st t) (h2:PSs X rest u):PSs X (st::rest) (tSeq t u):=by
 intro pins s σ H D I h
 refine wpAny_execs_cons (thn (h1 pins s σ H { D with nx:=u D } I h) fun f s1 q=>?_)
 cases f with
 | next =>
  obtain ⟨σ',H',I',q⟩:=q
  exact h2 pins s1 σ' H' D I' q
 | ret v=>exact q
 | brk=>exact q
 | cont=>exact q
theorem pss_one (h1:PS X st t):PSs X [st] t:=by
 intro pins s σ H D I h
 refine wpAny_execs_cons (thn (h1 pins s σ H D I h) fun f s1 q=>?_)
 cases f with
 | next=>exact wpAny_execs_nil q
 | ret v=>exact q
 | brk=>exact q
 | cont=>exact q
theorem Inv.quiet {pins:List (Addr × Obj)} {σ:St} {H:Hp} {s:Shared} (I:Inv X pins σ H s):interactive X.env=false:=by simp [interactive,I.ok.kind]
def tDrop (te:TE):TS:=fun D σ H=>te σ H fun _ H1=>D.nx σ H1
theorem ps_expr (he:PE X e te) (hs:swapsWith e none pos.line X.env=pure false:=by rfl):PS X (.Expr e pos) (tDrop te):=by
 intro pins s σ H D I h
 exact wpAny_Expr_any (thn (he pins s σ H _ I h) fun v s1 ⟨x,H1,I1,r1,q1⟩=>⟨σ,H1,I1,q1⟩) I.quiet hs
def tRet (te:TE):TS:=fun D σ H=>te σ H D.rt
theorem ps_ret (he:PE X e te):PS X (.Return (some e) pos) (tRet te):=by
 intro pins s σ H D I h
 exact wpAny_Return_some (thn (he pins s σ H _ I h) fun v s1 ⟨x,H1,I1,r1,q1⟩=>⟨x,σ,H1,I1,r1,q1⟩)
def tRetN:TS:=fun D _ H=>D.rt .non H
def tIfS (c:TT) (t u:TS):TS:=fun D σ H=>c σ H fun b H1=>if b=true then t D σ H1 else u D σ H1
theorem ps_if {c:Expr} {a b:List Stmt} {tc:TT} (hc:PT X c tc) (ha:PSs X a t) (hb:PSs X b u):PS X (.If c a b pos) (tIfS tc t u):=by
 intro pins s σ H D I h
 refine wpAny_If (thn (hc pins s σ H _ I h) fun d s1 ⟨H1,I1,q1⟩=>?_)
 cases d with
 | true=>exact ha pins s1 σ H1 D I1 q1
 | false=>exact hb pins s1 σ H1 D I1 q1
end
abbrev TG:=V→St→Hp→(St→Hp→Prop)→Prop
abbrev TGs:=List V→St→Hp→(St→Hp→Prop)→Prop
def PG (X:Cx) (target:Expr) (t:TG):Prop :=
 ∀ (pins:List (Addr × Obj)) (s:Shared) (σ:St) (H:Hp) (v:V) (u:Value) (Q:St→Hp→Prop),Inv X pins σ H s→RelV v u→t v σ H Q →
  wpAny (model X.prog X.w) X.A (assign target X.env u) (fun _ s'=>∃ σ' H',Inv X pins σ' H' s'∧Q σ' H') X.xe s
def PGs (X:Cx) (ts:List Expr) (t:TGs):Prop :=
 ∀ (pins:List (Addr × Obj)) (s:Shared) (σ:St) (H:Hp) (vs:List V) (us:List Value) (Q:St→Hp→Prop),Inv X pins σ H s→Vals vs us→t vs σ H Q →
  wpAny (model X.prog X.w) X.A (assignInOrder ((assignEach ts X.env).map (·.2)) us) (fun _ s'=>∃ σ' H',Inv X pins σ' H' s'∧Q σ' H') X.xe s
abbrev TSet:=V→V→V→Hp→(Hp→Prop)→Prop
def PSet (X:Cx) (t:TSet):Prop :=
 ∀ (pins:List (Addr × Obj)) (s:Shared) (σ:St) (H:Hp) (o i v:V) (ov iv u:Value) (Q:Hp→Prop),Inv X pins σ H s→RelV o ov→RelV i iv→RelV v u→t o i v H Q →
  wpAny (model X.prog X.w) X.A (setItem ov iv u) (fun _ s'=>∃ H',Inv X pins σ H' s'∧Q H') X.xe s
section
variable {X:Cx} {pos:Pos}
def gName (i:Nat):TG:=fun v σ H Q=>Q (σ.set i (some v)) H
theorem pg_name {i:Nat} {x:Str} (hN:X.N.Nodup) (hi:X.N[i]?=some x) (hx:Loc X.env.scope x) (hf:X.fn x=true∨X.env.scope.names.lookup x=some .local:=by first | exact .inl rfl | exact .inr rfl | assumption):PG X (.Name x pos) (gName i):=by
 intro pins s σ H v u Q I r h
 exact wpAny_assign_Name (store_ok I hN hi hx r (fun s' I'=>⟨_,H,I',h⟩) hf)
def gNil:TGs:=fun vs σ H Q=>vs=[]∧Q σ H
def gCons (t:TG) (u:TGs):TGs:=fun vs σ H Q=>∃ v r,vs=v::r∧t v σ H fun σ' H'=>u r σ' H' Q
theorem pgs_nil:PGs X [] gNil:=by
 intro pins s σ H vs us Q I r h
 obtain ⟨e,h⟩:=h
 subst e
 cases r
 exact assignInOrder_nil ⟨σ,H,I,h⟩
theorem pgs_cons {e:Expr} {es:List Expr} {t:TG} {u:TGs} (h1:PG X e t) (h2:PGs X es u)
  (hs:(assignEach (e::es) X.env).map (·.2)=assign e X.env::(assignEach es X.env).map (·.2):=by rfl):PGs X (e::es) (gCons t u):=by
 intro pins s σ H vs us Q I r h
 obtain ⟨v,vr,e1,h⟩:=h
 subst e1
 cases r with
 | cons r rr =>
  rw [hs]
  refine assignInOrder_cons (thn (h1 pins s σ H _ _ _ I r h) fun _ s1 ⟨σ1,H1,I1,q1⟩=>?_)
  exact h2 pins s1 σ1 H1 _ _ Q I1 rr q1
def gTup (K:PySem.W.Frag) (n:Nat) (t:TGs):TG:=fun v σ H Q=>∃ a xs,v=.ref a∧SqT K H a xs∧xs.length=n∧t xs σ H Q
theorem pg_tup {es:List Expr} {k:Nat} {t:TGs} {n:Nat} (hc:X.calm=true) (h:PGs X es t)
  (hn:(assignEach es X.env).length=n:=by rfl) (hst:(assignEach es X.env).findIdx? (·.1)=none:=by rfl):PG X (.Tuple es k pos) (gTup X.K n t):=by
 intro pins s σ H v u Q I r hw
 obtain ⟨a,xs,e1,hq,hl,hw⟩:=hw
 subst e1
 cases r
 obtain ⟨its,rv,ht,hz⟩:=I.tuple hq
 refine assign_Tuple_tuple (I.ok.hd hc) ht (by simp [hn,←hl,rv.length]) hst fun h' hx=>?_
 have I1:Inv X pins σ H { s with heap:=h' }:=I.kept (t':=s.toks) fun b o e=>hx b o (Nat.ne_of_lt (Heap.lt_size e)) e
 exact h pins _ σ H xs _ Q I1 (by simpa using rv) hw
def gSub (to ti:TE) (t:TSet):TG:=fun v σ H Q=>to σ H fun o H1=>ti σ H1 fun i H2=>t o i v H2 fun H3=>Q σ H3
theorem pg_sub {o i:Expr} {to ti:TE} {t:TSet} (ho:PE X o to) (hi:PE X i ti) (hs:PSet X t)
  (ha:∀ v,assign (.Subscript o i pos) X.env v=(do
   let ov ←holding [v] (eval o X.env)
   let iv ←holding [v,ov] (eval i X.env)
   standAt pos
   holding [v,ov,iv] (setItem ov iv v)
   release [v,ov,iv] []):=by intro _;rfl):PG X (.Subscript o i pos) (gSub to ti t):=by
 intro pins s σ H v u Q I r h
 rw [ha]
 refine wpAny_bind (wpAny_holding (thn (ho pins s σ H _ I h) fun ov s1 ⟨x,H1,I1,r1,q1⟩=>?_))
 refine wpAny_bind (wpAny_holding (thn (hi pins s1 σ H1 _ I1 q1) fun iv s2 ⟨y,H2,I2,r2,q2⟩=>?_))
 refine wpAny_bind (wpAny_standAt (wpAny_bind (wpAny_holding (thn (hs pins s2 σ H2 x y v ov iv u _ I2 r1 r2 r q2) fun _ s3 ⟨H3,I3,q3⟩=>?_))))
 exact wpAny_release ⟨σ,H3,I3,q3⟩
def tAsg (te:TE) (g:TG):TS:=fun D σ H=>te σ H fun x H1=>g x σ H1 D.nx
theorem ps_asg {tg e:Expr} {te:TE} {g:TG} (he:PE X e te) (hg:PG X tg g) (hs:swapsWithSole [tg] e pos.line X.env=pure false:=by rfl) (hw:swappedStores [tg] e X.env=pure none:=by rfl)
  (h1:(assignEach [tg] X.env).map (·.2)=[assign tg X.env]:=by rfl):PS X (.Assign [tg] e pos) (tAsg te g):=by
 intro pins s σ H D I h
 refine wpAny_Assign_stores (thn (he pins s σ H _ I h) fun v s1 ⟨x,H1,I1,r1,q1⟩=>?_) hs hw
 rw [h1]
 exact thn (hg pins s1 σ H1 x v _ I1 r1 q1) fun _ s2 q=>q
theorem ps_set {i:Nat} {x:Str} {e:Expr} {te:TE} {pos':Pos} (hN:X.N.Nodup) (hi:X.N[i]?=some x) (hx:Loc X.env.scope x) (he:PE X e te) (hs:swapsWith e (some (.Name x pos')) pos.line X.env=pure false:=by rfl) (hf:X.fn x=true∨X.env.scope.names.lookup x=some .local:=by first | exact .inl rfl | exact .inr rfl | assumption) :
  PS X (.Assign [.Name x pos'] e pos) (tAsg te (gName i)):=by
 intro pins s σ H D I h
 refine wpAny_Assign_Name (thn (he pins s σ H _ I h) fun v s1 ⟨y,H1,I1,r1,q1⟩=>?_) hs
 exact store_ok I1 hN hi hx r1 (fun s2 I2=>⟨_,H1,I2,q1⟩) hf
end
section
variable {X:Cx} {pos:Pos}
def tWhile (c:TT) (tb:TS):TS:=fun D σ H=>∃ W:Nat→St→Hp→Prop,(∃ m,W m σ H)∧∀ m σ H,W m σ H →
 c σ H fun b H1=>if b=true then ∃ N:St→Hp→Prop,(∀ σ' H',N σ' H'→∃ m',m'<m∧W m' σ' H')∧tb { D with nx:=N,ct:=N,bk:=D.nx } σ H1 else D.nx σ H1
theorem ps_while {c:Expr} {body:List Stmt} {tc:TT} {tb:TS} (hp:PassesOwn (model X.prog X.w) X.A X.env X.xe) (hc:PT X c tc) (hb:PSs X body tb):PS X (.While c body [] pos) (tWhile tc tb):=by
 intro pins s σ H D I h
 obtain ⟨W,⟨m0,w0⟩,turn⟩:=h
 refine wpAny_While (codeAny_whileLoop (fun n s'=>∃ σ' H',Inv X pins σ' H' s'∧W n σ' H') ?_ m0 ⟨σ,H,I,w0⟩)
 rintro n s1 ⟨σ1,H1,I1,w1⟩
 refine wpAny_passesOwn hp (thn (hc pins s1 σ1 H1 _ I1 (turn n σ1 H1 w1)) fun b s2 ⟨H2,I2,q2⟩=>?_)
 cases b with
 | true =>
  obtain ⟨N,hN,q2⟩:=q2
  rw [if_pos rfl]
  refine wpAny_passesOwn hp (thn (hb pins s2 σ1 H2 _ I2 q2) fun f s3 q3=>?_)
  cases f with
  | next =>
   obtain ⟨σ3,H3,I3,n3⟩:=q3
   obtain ⟨m',hm,w3⟩:=hN σ3 H3 n3
   exact ⟨m',hm,σ3,H3,I3,w3⟩
  | cont =>
   obtain ⟨σ3,H3,I3,n3⟩:=q3
   obtain ⟨m',hm,w3⟩:=hN σ3 H3 n3
   exact ⟨m',hm,σ3,H3,I3,w3⟩
  | brk=>exact q3
  | ret v=>exact q3
 | false =>
  rw [if_neg Bool.false_ne_true]
  exact wpAny_execs_nil ⟨σ1,H2,I2,q2⟩
end
structure It where
 go:Nat→Hp→Prop
 yld:Nat→Hp→V→Hp→Prop
 stop:Nat→Hp→Prop
def FpOk (X:Cx) (pins:List (Addr × Obj)) (H:Hp) (b:Addr):Prop :=
 H b=none∧b≠X.env.locals∧b∉X.fs∧(b∈X.ex∨X.s₀.heap.objs.size≤b)∧(∀ x c,X.env.cells.lookup x=some c→c≠b)∧∀ p∈X.pn++pins,p.1≠b
theorem Inv.fpOk {X:Cx} {pins:List (Addr × Obj)} {σ:St} {H H':Hp} {s:Shared} {b:Addr} (I:Inv X pins σ H s) (hb:s.heap.objs.size≤b) (hn:H' b=none):FpOk X pins H' b:=by
 refine ⟨hn,Nat.ne_of_gt (Nat.lt_of_lt_of_le I.lt hb),I.nofs hb,.inr (Nat.le_trans I.sz hb),fun x c e z=>?_,fun p hp z=>?_⟩
 ·obtain ⟨v,q⟩:=I.cell x c e
  exact absurd (Nat.lt_of_lt_of_le q.lt (by rw [z];exact hb)) (Nat.lt_irrefl _)
 ·exact absurd (Nat.lt_of_lt_of_le (Heap.lt_size (I.pin p hp).1) (by rw [z];exact hb)) (Nat.lt_irrefl _)
structure Turn (P:Program) (w:World) (K:PySem.W.Frag) (tg:Expr) (J:It) (fp:List Addr) (it:Addr) (tn:Nat→Heap→Prop):Prop where
 mem:it∈fp
 obj:∀ i h,tn i h→∀ b∈fp,∃ o,h.get? b=some o∧∀ v,o.data≠.cell v
 keep:∀ i h h',tn i h→(∀ b∈fp,∀ o,h.get? b=some o→h'.get? b=some o)→tn i h'
 item:∀ (X:Cx),X.prog=P→X.w=w→X.K=K→X.calm=true→∀ (i:Nat) (pins:List (Addr × Obj)) (s:Shared) (σ:St) (H:Hp) (E:Value→Shared→Prop),Inv X pins σ H s→(∀ b∈fp,FpOk X pins H b)→tn i s.heap→J.go i H →
  wpAny (model P w) X.A (pyNext (.ref it)) (fun r s1=>∃ u,r=some u ∧
   wpAny (model P w) X.A (letOwnedTupleGo tg (.ref it) u) (fun _ s2=>∃ x H',Inv X pins σ H' s2∧RelV x u∧J.yld i H x H'∧tn (i+1) s2.heap∧∀ b∈fp,H' b=none) E s1) E s
 done:∀ (X:Cx),X.prog=P→X.w=w→X.K=K→X.calm=true→∀ (i:Nat) (pins:List (Addr × Obj)) (s:Shared) (σ:St) (H:Hp) (E:Value→Shared→Prop),Inv X pins σ H s→(∀ b∈fp,FpOk X pins H b)→tn i s.heap→J.stop i H →
  wpAny (model P w) X.A (pyNext (.ref it)) (fun r s1=>r=none∧Inv X pins σ H s1) E s
 self:∀ (A:Around) (i:Nat) (s:Shared) (Q:Value→Shared→Prop) (E:Value→Shared→Prop),tn i s.heap→Q (.ref it) s→wpAny (model P w) A (pyIter (.ref it)) Q E s
abbrev TI:=St→Hp→(It→Hp→Prop)→Prop
def PIE (X:Cx) (pins:List (Addr × Obj)) (σ:St) (tg:Expr) (R:It→Hp→Prop) (itv:Value) (s2:Shared):Prop :=
 ∃ (it:Addr) (fp:List Addr) (tn:Nat→Heap→Prop) (J:It) (H':Hp),itv=.ref it∧Inv X pins σ H' s2∧Turn X.prog X.w X.K tg J fp it tn∧tn 0 s2.heap∧(∀ b∈fp,FpOk X pins H' b)∧R J H'
def PI (X:Cx) (tg iter:Expr) (wi:TI):Prop :=
 ∀ (pins:List (Addr × Obj)) (s:Shared) (σ:St) (H:Hp) (R:It→Hp→Prop),Inv X pins σ H s→wi σ H R →
  wpAny (model X.prog X.w) X.A (eval iter X.env) (fun v s1=>wpAny (model X.prog X.w) X.A (pyIter v) (PIE X pins σ tg R) X.xe s1) X.xe s
theorem go_of {M:Model} {A:Around} {E:Value→Shared→Prop} {s:Shared} {tg:Expr} {it:Addr} {u:Value} {o:Obj} {n:String} {vs:Array Value} {Q:Unit→Shared→Prop} (ho:s.heap.get? it=some o) (hc:o.cls=.type n) (hd:o.data=.fields vs)
  (hn:["enumerate","zip","dict_itemiterator","dict_reverseitemiterator","odict_iterator","itertools.zip_longest","itertools.pairwise"].contains n=false) (hQ:Q () s):wpAny M A (letOwnedTupleGo tg (.ref it) u) Q E s:=by
 unfold letOwnedTupleGo
 cases tg <;> first
  | exact wpAny_pure hQ
  | (cases u <;> first
    | exact wpAny_pure hQ
    | (refine wpAny_bind (wpAny_load ho ?_)
       rw [hc,hd]
       show wpAny M A (if (["enumerate","zip","dict_itemiterator","dict_reverseitemiterator","odict_iterator","itertools.zip_longest","itertools.pairwise"].contains n && vs[0]? == some (rawInt _))=true then _ else _) Q E s
       rw [if_neg (by intro h;rw [hn,Bool.false_and] at h;cases h)]
       exact wpAny_pure hQ))
def Itl (K:PySem.W.Frag) (a:Addr):It :=
 ⟨fun i H=>∃ xs x,SqL K H a xs∧xs[i]?=some x,fun i H x H'=>H'=H∧∀ xs,SqL K H a xs→xs[i]?=some x,fun i H=>∃ xs,SqL K H a xs∧xs.length≤i⟩
def Itt (K:PySem.W.Frag) (a:Addr):It :=
 ⟨fun i H=>∃ xs x,SqT K H a xs∧xs[i]?=some x,fun i H x H'=>H'=H∧∀ xs,SqT K H a xs→xs[i]?=some x,fun i H=>∃ xs,SqT K H a xs∧xs.length≤i⟩
def Itr (lo:Int) (n:Nat):It:=⟨fun i _=>i<n,fun i H x H'=>H'=H∧x=.int (lo+i),fun i _=>n≤i⟩
theorem turn_list {P:Program} {w:World} {K:PySem.W.Frag} {tg:Expr} (a it:Addr):Turn P w K tg (Itl K a) [it] it (fun i h=>h.IsListIter it a i) where
 mem:=by simp
 obj:=fun i h st b hb=>by
  have e:b=it:=by simpa using hb
  subst e
  obtain ⟨o,e,c,d⟩:=st
  exact ⟨o,e,fun v z=>by rw [d] at z;cases z⟩
 keep:=fun i h h' st k=>st.at fun o e=>k it (by simp) o e
 item:=by
  intro X hP hw hK hc i pins s σ H E I hf st hg
  subst hP hw hK
  obtain ⟨xs,x,hq,hx⟩:=hg
  obtain ⟨its,rv,p,hz⟩:=I.list hq
  obtain ⟨u,hu,ru⟩:=rv.get hx
  obtain ⟨f0,f1,f2,f3,f4,f5⟩:=hf it (by simp)
  refine wpAny_pyNext_list_item st p.isList (x:=u) (by simpa using hu) fun h' st' sb=>?_
  have I1:Inv X pins σ H { s with heap:=h' }:=I.turned (t':=s.toks) (fun b o hb e=>(sb.2 b hb).trans e) f0 f1 f3 f4 f5
  obtain ⟨o,e,c,d⟩:=id st'
  exact ⟨u,rfl,go_of (s:={ s with heap:=h' }) e c d (by decide) ⟨x,H,I1,ru,⟨rfl,fun ys hy=>by rw [I.list_inj hy hq];exact hx⟩,st',fun b hb=>(hf b hb).1⟩⟩
 done:=by
  intro X hP hw hK hc i pins s σ H E I hf st hg
  subst hP hw hK
  obtain ⟨xs,hq,hx⟩:=hg
  obtain ⟨its,rv,p,hz⟩:=I.list hq
  obtain ⟨f0,f1,f2,f3,f4,f5⟩:=hf it (by simp)
  have hl:=rv.length
  exact wpAny_pyNext_list_end (I.ok.hd hc) st p.isList (by simp;lia) fun h' eb=>⟨rfl,I.turned (t':=s.toks) (fun b o hb e=>eb b o hb e) f0 f1 f3 f4 f5⟩
 self:=fun _ _ _ _ _ st h=>wpAny_pyIter_listiter st h
theorem turn_tuple {P:Program} {w:World} {K:PySem.W.Frag} {tg:Expr} (a it:Addr):Turn P w K tg (Itt K a) [it] it (fun i h=>h.IsTupleIter it a i) where
 mem:=by simp
 obj:=fun i h st b hb=>by
  have e:b=it:=by simpa using hb
  subst e
  obtain ⟨o,e,c,d⟩:=st
  exact ⟨o,e,fun v z=>by rw [d] at z;cases z⟩
 keep:=fun i h h' st k=>st.at fun o e=>k it (by simp) o e
 item:=by
  intro X hP hw hK hc i pins s σ H E I hf st hg
  subst hP hw hK
  obtain ⟨xs,x,hq,hx⟩:=hg
  obtain ⟨its,rv,p,hz⟩:=I.tuple hq
  obtain ⟨u,hu,ru⟩:=rv.get hx
  obtain ⟨f0,f1,f2,f3,f4,f5⟩:=hf it (by simp)
  refine wpAny_pyNext_tuple_item st (show s.heap.IsTuple a its.toArray from p) (x:=u) (by simpa using hu) fun h' st' sb=>?_
  have I1:Inv X pins σ H { s with heap:=h' }:=I.turned (t':=s.toks) (fun b o hb e=>(sb.2 b hb).trans e) f0 f1 f3 f4 f5
  obtain ⟨o,e,c,d⟩:=id st'
  exact ⟨u,rfl,go_of (s:={ s with heap:=h' }) e c d (by decide) ⟨x,H,I1,ru,⟨rfl,fun ys hy=>by rw [I.tuple_inj hy hq];exact hx⟩,st',fun b hb=>(hf b hb).1⟩⟩
 done:=by
  intro X hP hw hK hc i pins s σ H E I hf st hg
  subst hP hw hK
  obtain ⟨xs,hq,hx⟩:=hg
  obtain ⟨its,rv,p,hz⟩:=I.tuple hq
  obtain ⟨f0,f1,f2,f3,f4,f5⟩:=hf it (by simp)
  have hl:=rv.length
  exact wpAny_pyNext_tuple_end (I.ok.hd hc) st (show s.heap.IsTuple a its.toArray from p) (by simp;lia) fun h' eb=>⟨rfl,I.turned (t':=s.toks) (fun b o hb e=>eb b o hb e) f0 f1 f3 f4 f5⟩
 self:=fun _ _ _ _ _ st h=>wpAny_pyIter_tupleiter st h
theorem turn_range {P:Program} {w:World} {K:PySem.W.Frag} {tg:Expr} (it:Addr) (lo:Int) (n:Nat):Turn P w K tg (Itr lo n) [it] it (fun i h=>IsRangeIter h it (lo+(i:Nat)*1) ((n:Int) - (i:Nat)) 1) where
 mem:=by simp
 obj:=fun i h st b hb=>by
  have e:b=it:=by simpa using hb
  subst e
  exact ⟨_,st,fun v z=>by
   have z':Data.fields _=Data.cell v:=z
   cases z'⟩
 keep:=fun i h h' st k=>k it (by simp) _ st
 item:=by
  intro X hP hw hK hc i pins s σ H E I hf st hg
  subst hP hw hK
  obtain ⟨f0,f1,f2,f3,f4,f5⟩:=hf it (by simp)
  have W:=Walks.range (prog:=X.prog) (w:=X.w) (I.ok.hd hc) it lo 1 n
  refine W.item i s _ _ hg st fun v h' tk hv st' kk=>?_
  obtain ⟨t,rfl⟩:=hv
  have I1:Inv X pins σ H { s with heap:=h',toks:=tk }:=I.turned (fun b o hb e=>kk b o (by simpa using hb) e) f0 f1 f3 f4 f5
  refine ⟨_,rfl,go_of (s:={ s with heap:=h',toks:=tk }) (n:="range_iterator") st' rfl rfl (by decide) ⟨.int (lo+i),H,I1,⟨t,?_⟩,⟨rfl,rfl⟩,st',fun b hb=>(hf b hb).1⟩⟩
  rw [Int.mul_one]
 done:=by
  intro X hP hw hK hc i pins s σ H E I hf st hg
  subst hP hw hK
  obtain ⟨f0,f1,f2,f3,f4,f5⟩:=hf it (by simp)
  exact wpAny_pyNext_range_end (I.ok.hd hc) st (by have:n≤i:=hg;lia) fun h' eb=>⟨rfl,I.turned (t':=s.toks) (fun b o hb e=>eb b o hb e) f0 f1 f3 f4 f5⟩
 self:=fun _ _ _ _ _ st h=>wpAny_pyIter_rangeiter st h
end L2
namespace L2
open PySem PySem.Spec PyProof.Rows
section
variable {X:Cx} {tg:Expr}
def iList (K:PySem.W.Frag) (tl:TE):TI:=fun σ H R=>tl σ H fun x H1=>∃ a,x=.ref a∧(∃ xs,SqL K H1 a xs)∧R (Itl K a) H1
def iTup (K:PySem.W.Frag) (tl:TE):TI:=fun σ H R=>tl σ H fun x H1=>∃ a,x=.ref a∧(∃ xs,SqT K H1 a xs)∧R (Itt K a) H1
theorem pi_list {l:Expr} {tl:TE} (hl:PE X l tl):PI X tg l (iList X.K tl):=by
 intro pins s σ H R I h
 refine thn (hl pins s σ H _ I h) fun v s1 ⟨x,H1,I1,r1,q1⟩=>?_
 obtain ⟨a,e,⟨xs,hq⟩,q⟩:=q1
 subst e
 cases r1
 obtain ⟨its,rv,p,hz⟩:=I1.list hq
 refine wpAny_pyIter_list p.isList ?_
 refine ⟨s1.heap.objs.size,[s1.heap.objs.size],_,_,H1,rfl,I1.kept (t':=s1.toks) fun b o e=>Heap.get?_push_of_some _ e,turn_list a _,⟨_,Heap.get?_push_size _ rfl,rfl,rfl⟩,fun b hb=>?_,q⟩
 have e:b=s1.heap.objs.size:=by simpa using hb
 subst e
 exact I1.fpOk (Nat.le_refl _) (I1.hok.fresh (Nat.le_refl _))
theorem pi_tup {l:Expr} {tl:TE} (hl:PE X l tl):PI X tg l (iTup X.K tl):=by
 intro pins s σ H R I h
 refine thn (hl pins s σ H _ I h) fun v s1 ⟨x,H1,I1,r1,q1⟩=>?_
 obtain ⟨a,e,⟨xs,hq⟩,q⟩:=q1
 subst e
 cases r1
 obtain ⟨its,rv,p,hz⟩:=I1.tuple hq
 refine wpAny_pyIter_tuple (show s1.heap.IsTuple a its.toArray from p) ?_
 refine ⟨s1.heap.objs.size,[s1.heap.objs.size],_,_,H1,rfl,I1.kept (t':=s1.toks) fun b o e=>Heap.get?_push_of_some _ e,turn_tuple a _,⟨_,Heap.get?_push_size _ rfl,rfl,rfl⟩,fun b hb=>?_,q⟩
 have e:b=s1.heap.objs.size:=by simpa using hb
 subst e
 exact I1.fpOk (Nat.le_refl _) (I1.hok.fresh (Nat.le_refl _))
theorem range_it {pins:List (Addr × Obj)} {σ:St} {H:Hp} {s:Shared} {R:It→Hp→Prop} {E:Value→Shared→Prop} {lo hi:Int} {t u v:Tok} {tk:Nat} (I:Inv X pins σ H s) (h1:-(2^62)≤lo) (h2:lo<2^62) (h3:-(2^62)≤hi) (h4:hi<2^62)
  (q:R (Itr lo (hi - lo).toNat) H):wpAny (model X.prog X.w) X.A (pyIter (.ref s.heap.objs.size)) (PIE X pins σ tg R) E { s with heap:=s.heap.push { cls:=.type "range",data:=.fields #[.int lo t,.int hi u,.int 1 v] },toks:=tk }:=by
 refine wpAny_pyIter_range (IsRange.new ..) (small_one h1 h2 h3 h4) ?_
 have I1:Inv X pins σ H { s with heap:=s.heap.push { cls:=.type "range",data:=.fields #[.int lo t,.int hi u,.int 1 v] },toks:=tk }:=I.kept fun b o e=>Heap.get?_push_of_some _ e
 refine ⟨(s.heap.push { cls:=.type "range",data:=.fields #[.int lo t,.int hi u,.int 1 v] }).objs.size,[(s.heap.push { cls:=.type "range",data:=.fields #[.int lo t,.int hi u,.int 1 v] }).objs.size],_,_,H,rfl,
  I1.kept (t':=tk) fun b o e=>Heap.get?_push_of_some _ e,turn_range _ lo (hi - lo).toNat,?_,fun b hb=>?_,q⟩
 ·have e1:lo+((0:Nat):Int)*1=lo:=by simp
  have e2:(((hi - lo).toNat:Nat):Int) - ((0:Nat):Int)=Builtin.Range.rangeSize lo hi 1:=by rw [rangeSize_one];split <;> lia
  show IsRangeIter _ _ (lo+((0:Nat):Int)*1) ((((hi - lo).toNat:Nat):Int) - ((0:Nat):Int)) 1
  rw [e1,e2]
  exact Heap.get?_push_size _ rfl
 ·have e:b=(s.heap.push { cls:=.type "range",data:=.fields #[.int lo t,.int hi u,.int 1 v] }).objs.size:=by simpa using hb
  subst e
  exact I1.fpOk (Nat.le_refl _) (I1.hok.fresh (Nat.le_refl _))
def iRng1 (ta:TA):TI:=fun σ H R=>ta σ H fun vs H1=>∃ j:Int,vs=[.int j]∧-(2^62)≤j∧j<2^62∧R (Itr 0 j.toNat) H1
theorem pi_range1 {a:Expr} {ta:TA} {p pos:Pos} (hg:Gl X "range") (hm:X.mg "range"=none) (ha:PA X [a] ta) (hs:starEach [a] X.env=[(false,eval a X.env)]:=by rfl):PI X tg (.Call (.Name "range" p) [a] [] pos) (iRng1 ta):=by
 intro pins s σ H R I h
 refine Call_ (ld_blt I hg hm boot_range (PyProof.Rows.callWith_type1 (thn (ha pos pins s σ H _ I h) fun us s1 ⟨vs,H1,I1,r1,q1⟩=>?_) hs rfl))
 obtain ⟨j,e,q1,q2,q⟩:=q1
 subst e
 cases r1 with
 | cons r rr =>
  cases rr
  obtain ⟨t,rfl⟩:=r
  exact call_range_1 (range_it I1 (by lia) (by lia) q1 q2 (by simpa using q))
def tFor (wi:TI) (g:TG) (tb:TS):TS:=fun D σ H=>wi σ H fun J H1=>∃ W:Nat→Nat→St→Hp→Prop,(∃ m,W 0 m σ H1)∧∀ i m σ H,W i m σ H →
 (J.stop i H∧D.nx σ H)∨(J.go i H∧∃ N:St→Hp→Prop,(∀ σ' H',N σ' H'→∃ m',m'<m∧W (i+1) m' σ' H')∧∀ x H',J.yld i H x H'→g x σ H' fun σ2 H2=>tb { D with nx:=N,ct:=N,bk:=D.nx } σ2 H2)
def pinsAt (fp:List Addr) (h:Heap):List (Addr × Obj):=fp.filterMap fun b=>(h.get? b).map fun o=>(b,o)
theorem mem_pinsAt {fp:List Addr} {h:Heap} {b:Addr} {o:Obj} (hb:b∈fp) (e:h.get? b=some o):(b,o)∈pinsAt fp h:=List.mem_filterMap.mpr ⟨b,hb,by rw [e];rfl⟩
theorem of_pinsAt {fp:List Addr} {h:Heap} {p:Addr × Obj} (hp:p∈pinsAt fp h):p.1∈fp∧h.get? p.1=some p.2:=by
 obtain ⟨b,hb,e⟩:=List.mem_filterMap.mp hp
 cases q:h.get? b with
 | none=>rw [q] at e;cases e
 | some o =>
  rw [q] at e
  have e':(b,o)=p:=Option.some.inj e
  subst e'
  exact ⟨hb,q⟩
theorem Inv.pinned {pins:List (Addr × Obj)} {σ:St} {H:Hp} {s:Shared} {fp:List Addr} (I:Inv X pins σ H s) (hf:∀ b∈fp,FpOk X pins H b) (ho:∀ b∈fp,∃ o,s.heap.get? b=some o∧∀ v,o.data≠.cell v):Inv X (pins++pinsAt fp s.heap) σ H s :=
 I.pins_of fun p hp=>(List.mem_append.mp hp).elim (fun z=>I.pin p (List.mem_append_right _ z)) fun z=>by
  obtain ⟨hb,e⟩:=of_pinsAt z
  obtain ⟨f0,f1,f2,_⟩:=hf p.1 hb
  obtain ⟨o,e',d⟩:=ho p.1 hb
  rw [e] at e';cases e'
  exact ⟨e,f0,f1,f2,d⟩
theorem Inv.unpinned {pins pl:List (Addr × Obj)} {σ:St} {H:Hp} {s:Shared} (I:Inv X (pins++pl) σ H s):Inv X pins σ H s:=I.pins_of fun p hp=>I.pin p (List.mem_append_right _ (List.mem_append_left _ hp))
theorem ps_for {iter:Expr} {body:List Stmt} {wi:TI} {g:TG} {tb:TS} {pos:Pos} (hp:PassesOwn (model X.prog X.w) X.A X.env X.xe) (hc:X.calm=true) (hi:PI X tg iter wi) (hg:PG X tg g) (hb:PSs X body tb)
  (hs:∀ x,foldedSetIterable iter X.env x=pure x:=by intro _;rfl):PS X (.For tg iter body [] pos) (tFor wi g tb):=by
 intro pins s σ H D I h
 refine wpAny_For (thn (hi pins s σ H _ I h) fun v s1 h1=>thn h1 fun itv s2 h2=>?_) hs
 obtain ⟨it,fp,tn,J,H2,e,I2,T,st2,f2,W,⟨m0,w0⟩,turn⟩:=h2
 subst e
 have stat:∀ {H':Hp},(∀ b∈fp,H' b=none)→∀ b∈fp,FpOk X pins H' b:=fun hn b hb=>⟨hn b hb,(f2 b hb).2⟩
 refine codeAny_forLoop_any (fun n s'=>∃ i σ' H',Inv X pins σ' H' s'∧tn i s'.heap∧(∀ b∈fp,H' b=none)∧W i n σ' H') ?_ m0 ⟨0,σ,H2,I2,st2,fun b hb=>(f2 b hb).1,w0⟩
 rintro n s3 ⟨i,σ3,H3,I3,st3,fr3,w3⟩
 rcases turn i n σ3 H3 w3 with ⟨stop,qn⟩ | ⟨go,N,hN,step⟩
 ·refine wpAny_passesOwn hp (thn (T.done X rfl rfl rfl hc i pins s3 σ3 H3 X.xe I3 (stat fr3) st3 stop) fun r s4 ⟨hr,I4⟩=>?_)
  subst hr
  exact wpAny_execs_nil ⟨σ3,H3,I4,qn⟩
 ·refine wpAny_passesOwn hp (thn (T.item X rfl rfl rfl hc i pins s3 σ3 H3 X.xe I3 (stat fr3) st3 go) fun r s4 ⟨u,hr,h4⟩=>?_)
  subst hr
  refine wpAny_passesOwn hp (thn h4 fun _ s5 ⟨x,H5,I5,r5,y5,st5,fr5⟩=>?_)
  have I5':=I5.pinned (stat fr5) (T.obj _ _ st5)
  refine wpAny_passesOwn hp (thn (hg _ s5 σ3 H5 x u _ I5' r5 (step x H5 y5)) fun _ s6 ⟨σ6,H6,I6,q6⟩=>?_)
  refine wpAny_passesOwn hp (thn (hb _ s6 σ6 H6 _ I6 q6) fun f s7 q7=>?_)
  have again:∀ {σ7:St} {H7:Hp},Inv X (pins++pinsAt fp s5.heap) σ7 H7 s7→N σ7 H7→∃ m,m<n∧∃ i σ' H',Inv X pins σ' H' s7∧tn i s7.heap∧(∀ b∈fp,H' b=none)∧W i m σ' H':=fun {σ7 H7} I7 n7=>by
   obtain ⟨m',hm,w7⟩:=hN σ7 H7 n7
   refine ⟨m',hm,i+1,σ7,H7,I7.unpinned,T.keep _ _ _ st5 fun b hb o e=>(I7.pin (b,o) (List.mem_append_right _ (List.mem_append_right _ (mem_pinsAt hb e)))).1,fun b hb=>?_,w7⟩
   obtain ⟨o,e,d⟩:=T.obj _ _ st5 b hb
   exact (I7.pin (b,o) (List.mem_append_right _ (List.mem_append_right _ (mem_pinsAt hb e)))).2.1
  cases f with
  | next=>obtain ⟨σ7,H7,I7,n7⟩:=q7;exact again I7 n7
  | cont=>obtain ⟨σ7,H7,I7,n7⟩:=q7;exact again I7 n7
  | brk=>obtain ⟨σ7,H7,I7,q7⟩:=q7;exact ⟨σ7,H7,I7.unpinned,q7⟩
  | ret v=>obtain ⟨x7,σ7,H7,I7,r7,q7⟩:=q7;exact ⟨x7,σ7,H7,I7.unpinned,r7,q7⟩
end
theorem for_list {K:PySem.W.Frag} {a:Addr} {xs:List V} {g:TG} {tb:TS} {D:Ends} {σ:St} {H:Hp} (Pv:Nat→St→Hp→Prop) (h0:Pv 0 σ H) (hl:∀ i σ H,i≤xs.length→Pv i σ H→SqL K H a xs)
  (hs:∀ i x σ H,xs[i]?=some x→Pv i σ H→g x σ H fun σ2 H2=>tb { D with nx:=Pv (i+1),ct:=Pv (i+1),bk:=D.nx } σ2 H2) (hd:∀ σ H,Pv xs.length σ H→D.nx σ H) :
  ∃ W:Nat→Nat→St→Hp→Prop,(∃ m,W 0 m σ H)∧∀ i m σ H,W i m σ H →
   ((Itl K a).stop i H∧D.nx σ H)∨((Itl K a).go i H∧∃ N:St→Hp→Prop,(∀ σ' H',N σ' H'→∃ m',m'<m∧W (i+1) m' σ' H')∧∀ x H',(Itl K a).yld i H x H'→g x σ H' fun σ2 H2=>tb { D with nx:=N,ct:=N,bk:=D.nx } σ2 H2):=by
 refine ⟨fun i m σ H=>m=xs.length - i∧i≤xs.length∧Pv i σ H,⟨xs.length,by simp,Nat.zero_le _,h0⟩,?_⟩
 rintro i m σ H ⟨rfl,hi,p⟩
 have q:=hl i σ H hi p
 by_cases hlt:i<xs.length
 ·refine .inr ⟨⟨xs,xs[i],q,by simp [hlt]⟩,Pv (i+1),fun σ' H' p'=>⟨xs.length - (i+1),by lia,rfl,hlt,p'⟩,fun x H' y=>?_⟩
  obtain ⟨e,y⟩:=y
  subst e
  exact hs i x σ _ (y xs q) p
 ·have e:i=xs.length:=by lia
  subst e
  exact .inl ⟨⟨xs,q,Nat.le_refl _⟩,hd σ H p⟩
theorem for_tup {K:PySem.W.Frag} {a:Addr} {xs:List V} {g:TG} {tb:TS} {D:Ends} {σ:St} {H:Hp} (Pv:Nat→St→Hp→Prop) (h0:Pv 0 σ H) (hl:∀ i σ H,i≤xs.length→Pv i σ H→SqT K H a xs)
  (hs:∀ i x σ H,xs[i]?=some x→Pv i σ H→g x σ H fun σ2 H2=>tb { D with nx:=Pv (i+1),ct:=Pv (i+1),bk:=D.nx } σ2 H2) (hd:∀ σ H,Pv xs.length σ H→D.nx σ H) :
  ∃ W:Nat→Nat→St→Hp→Prop,(∃ m,W 0 m σ H)∧∀ i m σ H,W i m σ H →
   ((Itt K a).stop i H∧D.nx σ H)∨((Itt K a).go i H∧∃ N:St→Hp→Prop,(∀ σ' H',N σ' H'→∃ m',m'<m∧W (i+1) m' σ' H')∧∀ x H',(Itt K a).yld i H x H'→g x σ H' fun σ2 H2=>tb { D with nx:=N,ct:=N,bk:=D.nx } σ2 H2):=by
 refine ⟨fun i m σ H=>m=xs.length - i∧i≤xs.length∧Pv i σ H,⟨xs.length,by simp,Nat.zero_le _,h0⟩,?_⟩
 rintro i m σ H ⟨rfl,hi,p⟩
 have q:=hl i σ H hi p
 by_cases hlt:i<xs.length
 ·refine .inr ⟨⟨xs,xs[i],q,by simp [hlt]⟩,Pv (i+1),fun σ' H' p'=>⟨xs.length - (i+1),by lia,rfl,hlt,p'⟩,fun x H' y=>?_⟩
  obtain ⟨e,y⟩:=y
  subst e
  exact hs i x σ _ (y xs q) p
 ·have e:i=xs.length:=by lia
  subst e
  exact .inl ⟨⟨xs,q,Nat.le_refl _⟩,hd σ H p⟩
theorem for_range {lo:Int} {n:Nat} {g:TG} {tb:TS} {D:Ends} {σ:St} {H:Hp} (Pv:Nat→St→Hp→Prop) (h0:Pv 0 σ H)
  (hs:∀ i σ H,i<n→Pv i σ H→g (.int (lo+i)) σ H fun σ2 H2=>tb { D with nx:=Pv (i+1),ct:=Pv (i+1),bk:=D.nx } σ2 H2) (hd:∀ σ H,Pv n σ H→D.nx σ H) :
  ∃ W:Nat→Nat→St→Hp→Prop,(∃ m,W 0 m σ H)∧∀ i m σ H,W i m σ H →
   ((Itr lo n).stop i H∧D.nx σ H)∨((Itr lo n).go i H∧∃ N:St→Hp→Prop,(∀ σ' H',N σ' H'→∃ m',m'<m∧W (i+1) m' σ' H')∧∀ x H',(Itr lo n).yld i H x H'→g x σ H' fun σ2 H2=>tb { D with nx:=N,ct:=N,bk:=D.nx } σ2 H2):=by
 refine ⟨fun i m σ H=>m=n - i∧i≤n∧Pv i σ H,⟨n,by simp,Nat.zero_le _,h0⟩,?_⟩
 rintro i m σ H ⟨rfl,hi,p⟩
 by_cases hlt:i<n
 ·refine .inr ⟨hlt,Pv (i+1),fun σ' H' p'=>⟨n - (i+1),by lia,rfl,hlt,p'⟩,fun x H' y=>?_⟩
  obtain ⟨e,y⟩:=y
  subst e y
  exact hs i σ _ hlt p
 ·have e:i=n:=by lia
  subst e
  exact .inl ⟨Nat.le_refl _,hd σ H p⟩
theorem while_by {c:TT} {tb:TS} {D:Ends} {σ:St} {H:Hp} (Pv:St→Hp→Prop) (μ:St→Hp→Nat) (h0:Pv σ H)
  (hs:∀ σ H,Pv σ H→c σ H fun b H1=>if b=true then tb { D with nx:=fun σ' H'=>Pv σ' H'∧μ σ' H'<μ σ H,ct:=fun σ' H'=>Pv σ' H'∧μ σ' H'<μ σ H,bk:=D.nx } σ H1 else D.nx σ H1)
  (mono:∀ σ H Q Q',(∀ b H1,Q b H1→Q' b H1)→c σ H Q→c σ H Q'):tWhile c tb D σ H:=by
 refine ⟨fun m σ H=>m=μ σ H∧Pv σ H,⟨_,rfl,h0⟩,?_⟩
 rintro m σ H ⟨rfl,p⟩
 refine mono σ H _ _ (fun b H1 q=>?_) (hs σ H p)
 cases b with
 | true=>exact ⟨_,fun σ' H' ⟨p',l⟩=>⟨_,l,rfl,p'⟩,q⟩
 | false=>exact q
end L2
namespace L2
open PySem PySem.Spec PyProof.Rows
abbrev R2:=V→V→Hp→VK→Prop
def OpR (X:Cx) (f:Value→Value→Sem Value) (r:R2):Prop :=
 ∀ (pins:List (Addr × Obj)) (s:Shared) (σ:St) (H:Hp) (x y:V) (v u:Value) (Q:VK),Inv X pins σ H s→RelV x v→RelV y u→r x y H Q →
  wpAny (model X.prog X.w) X.A (f v u) (EP X pins σ Q) X.xe s
def UnR (X:Cx) (f:Value→Sem Value) (r:V→Hp→VK→Prop):Prop :=
 ∀ (pins:List (Addr × Obj)) (s:Shared) (σ:St) (H:Hp) (x:V) (v:Value) (Q:VK),Inv X pins σ H s→RelV x v→r x H Q →
  wpAny (model X.prog X.w) X.A (f v) (EP X pins σ Q) X.xe s
def CallR (X:Cx) (f:Value) (r:List V→Hp→VK→Prop):Prop :=
 ∀ (pins:List (Addr × Obj)) (s:Shared) (σ:St) (H:Hp) (xs:List V) (us:List Value) (Q:VK),Inv X pins σ H s→Vals xs us→r xs H Q →
  wpAny (model X.prog X.w) X.A (call f us) (EP X pins σ Q) X.xe s
def tOp (r:R2) (ta tb:TE):TE:=fun σ H Q=>ta σ H fun x H1=>tb σ H1 fun y H2=>r x y H2 Q
def tUn (r:V→Hp→VK→Prop) (ta:TE):TE:=fun σ H Q=>ta σ H fun x H1=>r x H1 Q
def rI (C:Int→Int→Prop) (g:Int→Int→V):R2:=fun x y H Q=>∃ i j,x=.int i∧y=.int j∧C i j∧Q (g i j) H
def rI0 (g:Int→Int→V):R2:=fun x y H Q=>∃ i j,x=.int i∧y=.int j∧Q (g i j) H
def rU (g:Int→V):V→Hp→VK→Prop:=fun x H Q=>∃ i,x=.int i∧Q (g i) H
section
variable {X:Cx} {a b c:Expr} {ta tb tc:TE} {pos:Pos}
theorem binT (ha:PE X a ta) (hb:PE X b tb) {pins:List (Addr × Obj)} {s:Shared} {σ:St} {H:Hp} {R:V→V→Hp→Prop} (I:Inv X pins σ H s)
  (h:ta σ H fun x H1=>tb σ H1 fun y H2=>R x y H2) {Q:Value→Shared→Prop} {f:Value→Value→Sem Value}
  (hf:∀ v u s2 x y H2,Inv X pins σ H2 s2→RelV x v→RelV y u→R x y H2→wpAny (model X.prog X.w) X.A (f v u) Q X.xe s2) :
  wpAny (model X.prog X.w) X.A (eval a X.env) (fun v s₁=>wpAny (model X.prog X.w) X.A (eval b X.env) (fun u s₂=>wpAny (model X.prog X.w) X.A (f v u) Q X.xe s₂) X.xe s₁) X.xe s:=by
 refine thn (ha pins s σ H _ I h) fun v s1 ⟨x,H1,I1,r1,q1⟩=>?_
 refine thn (hb pins s1 σ H1 _ I1 q1) fun u s2 ⟨y,H2,I2,r2,q2⟩=>?_
 exact hf v u s2 x y H2 I2 r1 r2 q2
theorem pe_op {op:Operator} {r:R2} (ho:OpR X (binaryOp op) r) (ha:PE X a ta) (hb:PE X b tb):PE X (.BinOp a op b pos) (tOp r ta tb):=by
 intro pins s σ H Q I h
 exact wpAny_BinOp (binT ha hb I h fun v u s2 x y H2 I2 rx ry q=>ho pins s2 σ H2 x y v u Q I2 rx ry q)
theorem pe_un {op:UnaryOp} {r:V→Hp→VK→Prop} (ho:UnR X (unaryOp op) r) (ha:PE X a ta):PE X (.UnaryOp op a pos) (tUn r ta):=by
 intro pins s σ H Q I h
 exact UnaryOp_ (thn (ha pins s σ H _ I h) fun v s1 ⟨x,H1,I1,r1,q1⟩=>ho pins s1 σ H1 x v Q I1 r1 q1)
theorem opI {f:Value→Value→Sem Value} {C:Int→Int→Prop} {g:Int→Int→Int}
  (rule:∀ (i j:Int) (t u:Tok) (s:Shared) (Q:Value→Shared→Prop) (E:Value→Shared→Prop),C i j→Q (.int (g i j) s.toks) { s with toks:=s.toks+1 }→wpAny (model X.prog X.w) X.A (f (.int i t) (.int j u)) Q E s) :
  OpR X f (rI C fun i j=>.int (g i j)):=by
 intro pins s σ H x y v u Q I rx ry h
 obtain ⟨i,j,rfl,rfl,hc,q⟩:=h
 obtain ⟨t,rfl⟩:=rx
 obtain ⟨t',rfl⟩:=ry
 exact rule i j t t' s _ _ hc ⟨.int (g i j),H,I.tok _,⟨_,rfl⟩,q⟩
theorem opI0 {f:Value→Value→Sem Value} {g:Int→Int→Int}
  (rule:∀ (i j:Int) (t u:Tok) (s:Shared) (Q:Value→Shared→Prop) (E:Value→Shared→Prop),Q (.int (g i j) s.toks) { s with toks:=s.toks+1 }→wpAny (model X.prog X.w) X.A (f (.int i t) (.int j u)) Q E s) :
  OpR X f (rI0 fun i j=>.int (g i j)):=by
 intro pins s σ H x y v u Q I rx ry h
 obtain ⟨i,j,rfl,rfl,q⟩:=h
 obtain ⟨t,rfl⟩:=rx
 obtain ⟨t',rfl⟩:=ry
 exact rule i j t t' s _ _ ⟨.int (g i j),H,I.tok _,⟨_,rfl⟩,q⟩
theorem opB0 {f:Value→Value→Sem Value} {g:Int→Int→Bool}
  (rule:∀ (i j:Int) (t u:Tok) (s:Shared) (Q:Value→Shared→Prop) (E:Value→Shared→Prop),Q (.bool (g i j)) s→wpAny (model X.prog X.w) X.A (f (.int i t) (.int j u)) Q E s) :
  OpR X f (rI0 fun i j=>.bl (g i j)):=by
 intro pins s σ H x y v u Q I rx ry h
 obtain ⟨i,j,rfl,rfl,q⟩:=h
 obtain ⟨t,rfl⟩:=rx
 obtain ⟨t',rfl⟩:=ry
 exact rule i j t t' s _ _ ⟨.bl (g i j),H,I,rfl,q⟩
def CDiv (i j:Int):Prop:=0<j∧j<1073741824
def CPow (i j:Int):Prop:=0≤j∧j≤1000000∧i.natAbs<2^64
def CMul (i j:Int):Prop:=(-(2^64)<i∧i<2^64)∨(-(2^64)<j∧j<2^64)
theorem CMul.ok {i j:Int} (h:CMul i j):IntMulOk i j:=by
 rcases h with ⟨h1,h2⟩ | ⟨h1,h2⟩
 ·exact .of_left (intBits_le_64 h1 h2)
 ·exact .of_right (intBits_le_64 h1 h2)
theorem op_add:OpR X (binaryOp .Add) (rI0 fun i j=>.int (i+j)):=opI0 fun _ _ _ _ _ _ _ q=>add_int q
theorem op_sub:OpR X (binaryOp .Sub) (rI0 fun i j=>.int (i - j)):=opI0 fun _ _ _ _ _ _ _ q=>sub_int q
theorem op_mul:OpR X (binaryOp .Mult) (rI CMul fun i j=>.int (i*j)):=opI fun _ _ _ _ _ _ _ hc q=>mul_int q hc.ok
theorem op_fdiv:OpR X (binaryOp .FloorDiv) (rI CDiv fun i j=>.int (i / j)):=opI fun i j _ _ _ _ _ hc q=>by
 have h1:(0:Int)<j:=hc.1
 have h2:j<1073741824:=hc.2
 exact floordiv_int (by lia) (by rw [Int.fdiv_eq_ediv_of_nonneg i (by lia)];exact q) (.inl (PyProof.noPylong_small (by lia)))
theorem op_mod:OpR X (binaryOp .Mod) (rI (fun _ j=>0<j) fun i j=>.int (i%j)):=opI fun i j _ _ _ _ _ hc q=>by
 have h1:(0:Int)<j:=hc
 exact mod_int' (by lia) (by rw [Int.fmod_eq_emod_of_nonneg i (by lia)];exact q)
theorem op_pow:OpR X (binaryOp .Pow) (rI CPow fun i j=>.int (i^j.toNat)):=opI fun _ _ _ _ _ _ _ hc q=>pow_int_small hc.1 hc.2.1 hc.2.2 q
theorem unI {f:Value→Sem Value} {g:Int→Int}
  (rule:∀ (i:Int) (t:Tok) (s:Shared) (Q:Value→Shared→Prop) (E:Value→Shared→Prop),Q (.int (g i) s.toks) { s with toks:=s.toks+1 }→wpAny (model X.prog X.w) X.A (f (.int i t)) Q E s) :
  UnR X f (rU fun i=>.int (g i)):=by
 intro pins s σ H x v Q I rx h
 obtain ⟨i,rfl,q⟩:=h
 obtain ⟨t,rfl⟩:=rx
 exact rule i t s _ _ ⟨.int (g i),H,I.tok _,⟨_,rfl⟩,q⟩
theorem un_neg:UnR X (unaryOp .USub) (rU fun i=>.int (-i)):=unI fun _ _ _ _ _ q=>neg_int q
end
def scal:V→V→Bool
 | .non,.non=>true | .non,.int _=>true | .int _,.non=>true | .non,.bl _=>true | .bl _,.non=>true | .non,.str _=>true | .str _,.non=>true
 | .int _,.int _=>true | .bl _,.bl _=>true | .str _,.str _=>true | .byt _,.byt _=>true
 | .int _,.str _=>true | .str _,.int _=>true | .bl _,.str _=>true | .str _,.bl _=>true
 | _,_=>false
def rEq:R2:=fun x y H Q=>scal x y=true∧Q (.bl (decide (x=y))) H
def rNe:R2:=fun x y H Q=>scal x y=true∧Q (.bl (!decide (x=y))) H
theorem dec_int {i j:Int}:decide (V.int i=V.int j)=(i == j):=by
 rw [Bool.eq_iff_iff]
 simp
theorem dec_bl {i j:Bool}:decide (V.bl i=V.bl j)=(i == j):=by
 rw [Bool.eq_iff_iff]
 simp
theorem dec_str {i j:Str}:decide (V.str i=V.str j)=(i == j):=by
 rw [Bool.eq_iff_iff]
 simp
theorem dec_byt {i j:Array UInt8}:decide (V.byt i=V.byt j)=(i.toList == j.toList):=by
 rw [Bool.eq_iff_iff]
 cases i
 cases j
 simp
section
variable {X:Cx} {a b c:Expr} {ta tb tc:TE} {pos:Pos}
theorem fin_bl {pins:List (Addr × Obj)} {σ:St} {H:Hp} {s:Shared} {Q:VK} {k k':Bool} (I:Inv X pins σ H s) (q:Q (.bl k) H) (e:k=k'):EP X pins σ Q (.bool k') s:=by
 subst e
 exact ⟨.bl k,H,I,rfl,q⟩
theorem op_eq:OpR X (compareOp .Eq) rEq:=by
 intro pins s σ H x y v u Q I rx ry h
 obtain ⟨hs,q⟩:=h
 cases x with
 | non =>
  cases rx
  cases y with
  | non=>cases ry;exact PySem.EqNone.eq_none_none (fin_bl I q (by simp))
  | bl j=>cases ry;exact PySem.EqNone.eq_none_bool (fin_bl I q (by simp))
  | int j=>obtain ⟨t',rfl⟩:=ry;exact PySem.EqNone.eq_none_int (fin_bl I q (by simp))
  | str j=>obtain ⟨t',rfl⟩:=ry;exact PySem.EqNone.eq_none_str (fin_bl I q (by simp))
  | _=>exact absurd (show false=true from hs) Bool.false_ne_true
 | bl i =>
  cases rx
  cases y with
  | non=>cases ry;exact PySem.EqNone.eq_bool_none (fin_bl I q (by simp))
  | bl j=>cases ry;exact eq_bool (fin_bl I q dec_bl)
  | str j=>obtain ⟨t',rfl⟩:=ry;exact PySem.EqMixed.eq_bool_str (fin_bl I q (by simp))
  | _=>exact absurd (show false=true from hs) Bool.false_ne_true
 | int i =>
  obtain ⟨t,rfl⟩:=rx
  cases y with
  | non=>cases ry;exact PySem.EqNone.eq_int_none (fin_bl I q (by simp))
  | int j=>obtain ⟨t',rfl⟩:=ry;exact eq_int (fin_bl I q dec_int)
  | str j=>obtain ⟨t',rfl⟩:=ry;exact PySem.EqMixed.eq_int_str (fin_bl I q (by simp))
  | _=>exact absurd (show false=true from hs) Bool.false_ne_true
 | str i =>
  obtain ⟨t,rfl⟩:=rx
  cases y with
  | non=>cases ry;exact PySem.EqNone.eq_str_none (fin_bl I q (by simp))
  | bl j=>cases ry;exact PySem.EqMixed.eq_str_bool (fin_bl I q (by simp))
  | int j=>obtain ⟨t',rfl⟩:=ry;exact PySem.EqMixed.eq_str_int (fin_bl I q (by simp))
  | str j=>obtain ⟨t',rfl⟩:=ry;exact eq_str (fin_bl I q dec_str)
  | _=>exact absurd (show false=true from hs) Bool.false_ne_true
 | byt i =>
  obtain ⟨t,rfl⟩:=rx
  cases y with
  | byt j=>obtain ⟨t',rfl⟩:=ry;exact PySem.W.eq_bytes (fin_bl I q dec_byt)
  | _=>exact absurd (show false=true from hs) Bool.false_ne_true
 | _=>cases y <;> exact absurd (show false=true from hs) Bool.false_ne_true
theorem op_ne:OpR X (compareOp .NotEq) rNe:=by
 intro pins s σ H x y v u Q I rx ry h
 obtain ⟨hs,q⟩:=h
 cases x with
 | non =>
  cases rx
  cases y with
  | non=>cases ry;exact PySem.EqNone.ne_none_none (fin_bl I q (by simp))
  | bl j=>cases ry;exact PySem.EqNone.ne_none_bool (fin_bl I q (by simp))
  | int j=>obtain ⟨t',rfl⟩:=ry;exact PySem.EqNone.ne_none_int (fin_bl I q (by simp))
  | str j=>obtain ⟨t',rfl⟩:=ry;exact PySem.EqNone.ne_none_str (fin_bl I q (by simp))
  | _=>exact absurd (show false=true from hs) Bool.false_ne_true
 | bl i =>
  cases rx
  cases y with
  | non=>cases ry;exact PySem.EqNone.ne_bool_none (fin_bl I q (by simp))
  | bl j=>cases ry;exact ne_bool (fin_bl I q (congrArg not dec_bl))
  | str j=>obtain ⟨t',rfl⟩:=ry;exact PySem.EqMixed.ne_bool_str (fin_bl I q (by simp))
  | _=>exact absurd (show false=true from hs) Bool.false_ne_true
 | int i =>
  obtain ⟨t,rfl⟩:=rx
  cases y with
  | non=>cases ry;exact PySem.EqNone.ne_int_none (fin_bl I q (by simp))
  | int j=>obtain ⟨t',rfl⟩:=ry;exact ne_int (fin_bl I q (congrArg not dec_int))
  | str j=>obtain ⟨t',rfl⟩:=ry;exact PySem.EqMixed.ne_int_str (fin_bl I q (by simp))
  | _=>exact absurd (show false=true from hs) Bool.false_ne_true
 | str i =>
  obtain ⟨t,rfl⟩:=rx
  cases y with
  | non=>cases ry;exact PySem.EqNone.ne_str_none (fin_bl I q (by simp))
  | bl j=>cases ry;exact PySem.EqMixed.ne_str_bool (fin_bl I q (by simp))
  | int j=>obtain ⟨t',rfl⟩:=ry;exact PySem.EqMixed.ne_str_int (fin_bl I q (by simp))
  | str j=>obtain ⟨t',rfl⟩:=ry;exact ne_str (fin_bl I q (congrArg not dec_str))
  | _=>exact absurd (show false=true from hs) Bool.false_ne_true
 | byt i =>
  obtain ⟨t,rfl⟩:=rx
  cases y with
  | byt j=>obtain ⟨t',rfl⟩:=ry;exact PySem.W.ne_bytes (fin_bl I q (congrArg not dec_byt))
  | _=>exact absurd (show false=true from hs) Bool.false_ne_true
 | _=>cases y <;> exact absurd (show false=true from hs) Bool.false_ne_true
theorem op_lt:OpR X (compareOp .Lt) (rI0 fun i j=>.bl (decide (i<j))):=opB0 fun _ _ _ _ _ _ _ q=>lt_int q
theorem op_le:OpR X (compareOp .LtE) (rI0 fun i j=>.bl (decide (i≤j))):=opB0 fun _ _ _ _ _ _ _ q=>le_int q
theorem op_gt:OpR X (compareOp .Gt) (rI0 fun i j=>.bl (decide (j<i))):=opB0 fun _ _ _ _ _ _ _ q=>gt_int q
theorem op_ge:OpR X (compareOp .GtE) (rI0 fun i j=>.bl (decide (j≤i))):=opB0 fun _ _ _ _ _ _ _ q=>ge_int q
theorem op_isN:OpR X (compareOp .Is) (fun x y H Q=>y=.non∧Q (.bl (decide (x=.non))) H):=by
 intro pins s σ H x y v u Q I rx ry h
 obtain ⟨rfl,q⟩:=h
 cases ry
 refine is_none_gen (fin_bl I q ?_)
 cases x <;> first
  | (cases rx;rfl)
  | (obtain ⟨t,rfl⟩:=rx;rfl)
theorem nomark (b:Expr) {op:CmpOp} (h:op≠.In:=by decide) (h2:op≠.NotIn:=by decide):behindInMarks op b=false:=by
 have e1:(op == CmpOp.In)=false:=by cases op <;> first | rfl | exact absurd rfl h
 have e2:(op == CmpOp.NotIn)=false:=by cases op <;> first | rfl | exact absurd rfl h2
 cases b <;> simp [behindInMarks,e1,e2]
theorem pe_cmpR {op:CmpOp} {r:R2} (ho:OpR X (compareOp op) r) (ha:PE X a ta) (hb:PE X b tb) (hm:behindInMarks op b=false):PE X (.Compare a [op] [b] pos) (tOp r ta tb):=by
 intro pins s σ H Q I h
 exact wpAny_Compare1 (binT ha hb I h fun v u s2 x y H2 I2 rx ry q=>ho pins s2 σ H2 x y v u Q I2 rx ry q) hm
def tTest (t:TE):TT:=fun σ H Q=>t σ H fun x H'=>∃ k,x=.bl k∧Q k H'
theorem pt_cmpR {op:CmpOp} {r:R2} (ho:OpR X (compareOp op) r) (ha:PE X a ta) (hb:PE X b tb) (hm:behindInMarks op b=false):PT X (.Compare a [op] [b] pos) (tTest (tOp r ta tb)):=by
 intro pins s σ H Q I h
 refine wpAny_isTrue_Compare1 (thn (ha pins s σ H _ I h) fun v s1 ⟨x,H1,I1,r1,q1⟩=>thn (hb pins s1 σ H1 _ I1 q1) fun u s2 ⟨y,H2,I2,r2,q2⟩ =>
  thn (ho pins s2 σ H2 x y v u _ I2 r1 r2 q2) fun c s3 ⟨z,H3,I3,r3,k,e,q3⟩=>?_) hm
 subst e
 cases r3
 exact wpAny_truthy_bool ⟨H3,I3,q3⟩
theorem line63:(sizeLine:Nat)<2^63:=by rw [sizeLine_eq];decide
theorem vals1 {x:V} {us:List Value} (r:Vals [x] us):∃ u,us=[u]∧RelV x u:=by
 cases r with
 | cons r1 r2=>cases r2;exact ⟨_,rfl,r1⟩
theorem vals2 {x y:V} {us:List Value} (r:Vals [x,y] us):∃ u w',us=[u,w']∧RelV x u∧RelV y w':=by
 cases r with
 | cons r1 r2 =>
  cases r2 with
  | cons r3 r4=>cases r4;exact ⟨_,_,rfl,r1,r3⟩
theorem call_min2 (hc:X.calm=true):CallR X (.builtin "min") (fun xs H Q=>∃ i j,xs=[.int i,.int j]∧Q (.int (if j<i then j else i)) H):=by
 intro pins s σ H xs us Q I r h
 obtain ⟨i,j,rfl,q⟩:=h
 obtain ⟨u,w',rfl,⟨t,rfl⟩,⟨t',rfl⟩⟩:=vals2 r
 refine min_two_ints (I.ok.hd hc) fun h' tk k=>⟨_,H,I.kept k,?_,q⟩
 by_cases hj:j<i
 ·rw [if_pos hj,if_pos hj];exact ⟨_,rfl⟩
 ·rw [if_neg hj,if_neg hj];exact ⟨_,rfl⟩
end
end L2
namespace L2
open PySem PySem.Spec PyProof.Rows
structure ObjM (h:Heap) (x dx C:Addr) (mA:Str→Option Value):Prop where
 obj:h.get? x=some (PySem.W.instObj C dx)
 ns:h.Ns1 dx mA
 ne:dx≠x
theorem lookIn_ns {h:Heap} {dx:Addr} {mA:Str→Option Value} (n:h.Ns1 dx mA):∃ od,h.get? dx=some od∧∀ name,PySem.W.lookIn name od=some (mA name):=by
 obtain ⟨o,es,ep,ho,hd,hk,_,hm⟩:=n
 refine ⟨o,ho,fun name=>?_⟩
 have e:=hm name
 unfold nsFind findBy at e
 rw [←Array.find?_toList] at e
 unfold PySem.W.lookIn
 rw [hd]
 dsimp only
 split
 ·rename_i y q
  rw [q] at e
  exact congrArg some e
 ·rename_i q
  rw [q] at e
  have a:es.toList.any (·.refKey)=false:=by
   rw [List.any_eq_false]
   intro y hy
   obtain ⟨z,t,hkey⟩:=hk y (Array.mem_toList_iff.mp hy)
   simp [DictEntry.refKey,hkey]
  have a':¬ es.toList.any (·.refKey)=true:=by rw [a];exact Bool.false_ne_true
  rw [if_neg a']
  exact congrArg some e
theorem ObjM.look {h:Heap} {x dx C:Addr} {mA:Str→Option Value} (I:ObjM h x dx C mA):∃ od,PySem.W.InstAt h x (PySem.W.instObj C dx) C (some od)∧∀ name,PySem.W.lookIn name od=some (mA name) :=
 let ⟨od,ho,hl⟩:=lookIn_ns I.ns
 ⟨od,⟨I.obj,rfl,rfl,ho⟩,hl⟩
section
variable {prog:Program} {w:World} {A:Around} {E:Value→Shared→Prop} {s:Shared} {K:PySem.W.Frag} {x dx C f:Addr} {mA:Str→Option Value} {name:Str} {v:Value}
theorem get_map {expr:Bool} {Q:Value→Shared→Prop} (X:K.In s.heap) (I:ObjM s.heap x dx C mA) (hg:PySem.W.plainGet K C name=true) (hh:PySem.W.hasDictIn K C=true)
  (ha:PySem.W.findIn K (.ref C) name=some none) (hv:mA name=some v) (hv':PySem.W.handedIn v=true) (h:Q v { s with toks:=s.toks+1 }) :
  wpAny (model prog w) A (getAttr (.ref x) name expr) Q E s:=by
 obtain ⟨od,J,hl⟩:=I.look
 exact PySem.W.get_value X J (PySem.W.plainGet_of hg).1 (PySem.W.findObj_own hh ha rfl (by rw [hl,hv])) hv' h
theorem get_meth {pl:Sem Bool} {Q:Value × List Value→Shared→Prop} (X:K.In s.heap) (I:ObjM s.heap x dx C mA) (hg:PySem.W.plainGet K C name=true)
  (hf:PySem.W.findIn K (.ref C) name=some (some (.ref f))) (ht:PySem.W.isFn K (.ref f)=true) (hv:mA name=none) (h:Q (.ref f,[.ref x]) s) :
  wpAny (model prog w) A (getMethod (.ref x) name pl) Q E s:=by
 obtain ⟨od,J,hl⟩:=I.look
 exact PySem.W.method_fn X J (PySem.W.plainGet_of hg).1 (PySem.W.plainGet_of hg).2 hf (beq_iff_eq.mp ht) (by show (PySem.W.lookIn name od).map (·.isSome)=some false;rw [hl,hv];rfl) h
theorem set_map {ns:List Str} {Q:Unit→Shared→Prop} (X:K.In s.heap) (I:ObjM s.heap x dx C mA)
  (hs:PySem.W.findIn K (.ref C) "__setattr__"=some (some (.builtin "object.__setattr__"))) (hp:PySem.W.plainOver K C=true) (ht:PySem.W.takerIn K C name=some none) (hh:PySem.W.hasDictIn K C=true)
  (hw:PySem.Within mA ns) (hsz:ns.length≤sizeLine)
  (h:∀ h',ObjM h' x dx C (fun y=>if y=name then some v else mA y)→Heap.SameBut dx s.heap h'→Q () { s with heap:=h',toks:=s.toks+2 }) :
  wpAny (model prog w) A (setAttr (.ref x) name v) Q E s:=by
 obtain ⟨od,J,hl⟩:=I.look
 refine PySem.W.set_plain X J hs (PySem.W.osa_open (s:={ s with toks:=s.toks+1 }) (r:=none) X J hp ht fun b=>?_)
 obtain ⟨cd,hc,hd'⟩:=PySem.W.any_some hh
 have hx:s.heap.get? x=some ⟨.ref C,some dx,.plain,#[]⟩:=I.obj
 refine wpAny_bind (wpAny_pure (wpAny_bind (wpAny_bind (wpAny_loadPart hx (wpAny_bind (PySem.W.Looks.here (s:={ s with toks:=s.toks+1 }) (PySem.W.looks_clsIn X hc) ?_))))))
 rw [hd']
 refine wpAny_pure (a:=some dx) (wpAny_bind (wpAny_pure (wpAny_bind ?_)))
 refine wpAny_nsSet1 (s:={ s with toks:=s.toks+1 }) I.ns fun h' hn2 hs2=>?_
 obtain ⟨oD,esD,epD,hoD,hdD,hcD⟩:=hn2.count (PySem.Within.cons name v hw)
 refine wpAny_bind (wpAny_lookBehind hoD (by rw [hdD];exact pastItsLine_dict (Nat.le_trans hcD (by rw [List.length_cons];lia))) ?_)
 exact wpAny_pure (h _ ⟨(hs2.2 _ (Ne.symm I.ne)).trans I.obj,hn2,I.ne⟩ hs2)
theorem make_map {R:Result→Shared→Prop} {vs:List Value} {kw:List (Str × Value)} (X:K.In s.heap) (hm:PySem.W.makesIn K C=true)
  (hi:PySem.W.findIn K (.ref C) "__init__"=some (some (.ref f))) (hf:PySem.W.typeIn K (.ref f)=some (.type "function"))
  (h:codeAny (model prog w) (A.under (.builtin "type.__call__" ⟨.ref C::vs,kw⟩)) (.call (.ref f) ⟨.ref (s.heap.objs.size+1)::vs,kw⟩) (PySem.W.InitBack (s.heap.objs.size+1) R)
   { s with heap:=(s.heap.push PySem.W.emptyDict).push (PySem.W.instObj C s.heap.objs.size) }) :
  codeAny (model prog w) A (.call (.ref C) ⟨vs,kw⟩) R s:=by
 obtain ⟨hh,g,d,t,os⟩:=s
 exact PySem.W.make_core (PySem.W.makes_of X hm) (PySem.W.looks_findIn X hi) (fun self=>PySem.W.bind_fn X self hf) (.inl rfl) h
end
def putF (f:Str) (v:V):List (Str × V)→List (Str × V)
 | []=>[(f,v)]
 | (g,x)::r=>if g=f then (g,v)::r else (g,x)::putF f v r
theorem lookup_putF (f g:Str) (v:V):∀ fs:List (Str × V),(putF f v fs).lookup g=if g=f then some v else fs.lookup g
 | []=>by
  show List.lookup g [(f,v)]=_
  by_cases h:g=f
  ·have hb:(g == f)=true:=beq_iff_eq.mpr h
   simp only [List.lookup,hb,if_pos h]
  ·have hb:(g == f)=false:=beq_eq_false_iff_ne.mpr h
   simp only [List.lookup,hb,if_neg h]
 | (k,x)::r=>by
  have ih:=lookup_putF f g v r
  rw [show putF f v ((k,x)::r)=(if k=f then (k,v)::r else (k,x)::putF f v r) from rfl]
  by_cases hk:k=f
  ·rw [if_pos hk]
   by_cases h:g=k
   ·have hb:(g == k)=true:=beq_iff_eq.mpr h
    simp only [List.lookup,hb,if_pos (h.trans hk)]
   ·have hb:(g == k)=false:=beq_eq_false_iff_ne.mpr h
    simp only [List.lookup,hb,if_neg (fun e:g=f=>h (e.trans hk.symm))]
  ·rw [if_neg hk]
   by_cases h:g=k
   ·have hb:(g == k)=true:=beq_iff_eq.mpr h
    simp only [List.lookup,hb,if_neg (fun e:g=f=>hk (h.symm.trans e))]
   ·have hb:(g == k)=false:=beq_eq_false_iff_ne.mpr h
    simp only [List.lookup,hb]
    exact ih
theorem keys_putF (f:Str) (v:V):∀ fs:List (Str × V),f∈(putF f v fs).map (·.1)∧∀ g,g∈fs.map (·.1)→g∈(putF f v fs).map (·.1)
 | []=>⟨by simp [putF],fun g h=>by simp at h⟩
 | (k,x)::r=>by
  obtain ⟨i1,i2⟩:=keys_putF f v r
  rw [show putF f v ((k,x)::r)=(if k=f then (k,v)::r else (k,x)::putF f v r) from rfl]
  by_cases hk:k=f
  ·rw [if_pos hk]
   subst hk
   exact ⟨by simp,fun g h=>by simpa using h⟩
  ·rw [if_neg hk]
   refine ⟨?_,fun g h=>?_⟩
   ·rw [List.map_cons]
    exact List.mem_cons_of_mem _ i1
   ·rw [List.map_cons] at h ⊢
    rcases List.mem_cons.mp h with e | e
    ·exact List.mem_cons.mpr (.inl e)
    ·exact List.mem_cons_of_mem _ (i2 g e)
theorem length_putF (f:Str) (v:V):∀ fs:List (Str × V),(putF f v fs).length≤fs.length+1
 | []=>by simp [putF]
 | (k,x)::r=>by
  have ih:=length_putF f v r
  rw [show putF f v ((k,x)::r)=(if k=f then (k,v)::r else (k,x)::putF f v r) from rfl]
  by_cases hk:k=f
  ·rw [if_pos hk,List.length_cons,List.length_cons];lia
  ·rw [if_neg hk,List.length_cons,List.length_cons];lia
theorem RelO.some_of {v:V} {o:Option Value} (r:RelO (some v) o):∃ u,o=some u∧RelV v u:=by
 cases o with
 | none=>exact (show False from r).elim
 | some u=>exact ⟨u,rfl,r⟩
theorem RelO.none_of {o:Option Value} (r:RelO none o):o=none:=by
 cases o with
 | none=>rfl
 | some u=>exact (show False from r).elim
theorem handed_of {v:V} {u:Value} (r:RelV v u):PySem.W.handedIn u=true:=by
 cases v with
 | non=>cases (show u=Value.none from r);rfl
 | bl b=>cases (show u=Value.bool b from r);rfl
 | int i=>obtain ⟨t,e⟩:=(show ∃ t,u=Value.int i t from r);cases e;rfl
 | str x=>obtain ⟨t,e⟩:=(show ∃ t,u=Value.str x t from r);cases e;rfl
 | byt b=>obtain ⟨t,e⟩:=(show ∃ t,u=Value.bytes b t from r);cases e;rfl
 | flt b=>obtain ⟨t,e⟩:=(show ∃ t,u=Value.float b t from r);cases e;rfl
 | ref a=>cases (show u=Value.ref a from r);rfl
 | ty n=>cases (show u=Value.type n from r);rfl
section
variable {P:Program} {w:World} {H H':Hp} {h h':Heap} {a C dx:Addr} {fs fs':List (Str × V)}
theorem ins_get (hok:HOk P w H h) (e:H a=some (.ins C dx fs)):∃ mA,ObjM h a dx C mA∧(∀ f,RelO (fs.lookup f) (mA f))∧PySem.Within mA (fs.map (·.1))∧fs.length≤1000∧H dx=some (.own a):=by
 obtain ⟨d,z,ne,ob,mA,n,r,q⟩:=(show ObjOk P w H h a (.ins C dx fs) from hok a _ e)
 exact ⟨mA,⟨ob,n,ne⟩,r,q,z,d⟩
end
structure Cls (K:PySem.W.Frag) (C:Addr):Prop where
 pg:PySem.W.plainGet K C Str.empty=true
 hd:PySem.W.hasDictIn K C=true
 po:PySem.W.plainOver K C=true
 sa:PySem.W.findIn K (.ref C) "__setattr__"=some (some (.builtin "object.__setattr__"))
theorem Cls.get {K:PySem.W.Frag} {C:Addr} (c:Cls K C) (f:Str):PySem.W.plainGet K C f=true:=c.pg
def NoAttr (K:PySem.W.Frag) (C:Addr) (f:Str):Prop:=PySem.W.findIn K (.ref C) f=some none
theorem NoAttr.taker {K:PySem.W.Frag} {C:Addr} {f:Str} (n:NoAttr K C f):PySem.W.takerIn K C f=some none:=by
 unfold PySem.W.takerIn
 rw [show PySem.W.findIn K (.ref C) f=some none from n]
 rfl
structure Con (K:PySem.W.Frag) (C:Addr) (f:Str) (v:V) (u:Value):Prop where
 at_:PySem.W.findIn K (.ref C) f=some (some u)
 rel:RelV v u
 get:PySem.W.specialIn K u "__get__"=some none
 cp:PySem.W.copiedNames.contains f=false
structure Meth (K:PySem.W.Frag) (C:Addr) (m:Str) (f:Addr):Prop where
 at_:PySem.W.findIn K (.ref C) m=some (some (.ref f))
 fn:PySem.W.isFn K (.ref f)=true
 kp:PySem.W.keepIn K (.ref f)=true
section
variable {X:Cx} {pins:List (Addr × Obj)} {σ:St} {H:Hp} {s:Shared} {a C dx:Addr} {fs:List (Str × V)} {f:Str} {v:V} {A:Around} {E:Value→Shared→Prop}
theorem getattr_ok {b:Bool} {Q:Value→Shared→Prop} (I:Inv X pins σ H s) (e:H a=some (.ins C dx fs)) (c:Cls X.K C) (n:NoAttr X.K C f) (l:fs.lookup f=some v)
  (h:∀ u s',Inv X pins σ H s'→RelV v u→Q u s'):wpAny (model X.prog X.w) A (getAttr (.ref a) f b) Q E s:=by
 obtain ⟨mA,O,r,_,_,_⟩:=ins_get I.hok e
 obtain ⟨u,hu,ru⟩:=RelO.some_of (v:=v) (o:=mA f) (by rw [←l];exact r f)
 exact get_map I.kIn O (c.get f) c.hd n hu (handed_of ru) (h u _ (I.tok _) ru)
theorem getmeth_ok {m:Str} {g:Addr} {pl:Sem Bool} {Q:Value × List Value→Shared→Prop} (I:Inv X pins σ H s) (e:H a=some (.ins C dx fs)) (c:Cls X.K C) (k:Meth X.K C m g) (l:fs.lookup m=none)
  (h:Q (.ref g,[.ref a]) s):wpAny (model X.prog X.w) A (getMethod (.ref a) m pl) Q E s:=by
 obtain ⟨mA,O,r,_,_,_⟩:=ins_get I.hok e
 have hn:mA m=none:=RelO.none_of (by rw [←l];exact r m)
 exact get_meth I.kIn O (c.get m) k.at_ k.fn hn h
theorem setattr_ok {y:V} {u:Value} {Q:Unit→Shared→Prop} (I:Inv X pins σ H s) (e:H a=some (.ins C dx fs)) (c:Cls X.K C) (n:NoAttr X.K C f) (hl:fs.length<1000) (ry:RelV y u)
  (h:∀ s',Inv X pins σ (upd H a (.ins C dx (putF f y fs))) s'→Q () s'):wpAny (model X.prog X.w) A (setAttr (.ref a) f u) Q E s:=by
 obtain ⟨mA,O,r,wi,_,ho⟩:=ins_get I.hok e
 have hz:(fs.map (·.1)).length≤sizeLine:=by rw [List.length_map,sizeLine_eq];lia
 refine set_map I.kIn O c.sa c.po n.taker c.hd wi hz fun h' O' sb=>h _ ?_
 have hd:∃ o,h'.get? dx=some o:=let ⟨o,_,_,e',_⟩:=O'.ns;⟨o,e'⟩
 refine I.write (x:=a) (e:=dx) (by rw [e];exact True.intro) (.inr ho) (fun b q hb z=>(sb.2 b hb).trans z) hd ?_
 refine ⟨by rw [upd_ne O.ne];exact ho,?_,O.ne,O'.obj,_,O'.ns,fun g=>?_,fun g hg=>?_⟩
 ·have:=length_putF f y fs;lia
 ·show RelO ((putF f y fs).lookup g) (if g=f then some u else mA g)
  rw [lookup_putF]
  by_cases q:g=f
  ·rw [if_pos q,if_pos q];exact ry
  ·rw [if_neg q,if_neg q];exact r g
 ·by_cases q:g=f
  ·rw [q];exact (keys_putF f y fs).1
  ·refine (keys_putF f y fs).2 g (wi g fun z=>hg ?_)
   show (if g=f then some u else mA g)=none
   rw [if_neg q];exact z
theorem Inv.made (I:Inv X pins σ H s):Inv X pins σ (upd (upd H s.heap.objs.size (.own (s.heap.objs.size+1))) (s.heap.objs.size+1) (.ins C s.heap.objs.size []))
  { s with heap:=(s.heap.push PySem.W.emptyDict).push (PySem.W.instObj C s.heap.objs.size) }:=by
 have e1:(s.heap.push PySem.W.emptyDict).get? s.heap.objs.size=some PySem.W.emptyDict:=Heap.get?_push_size s.heap rfl
 have e2:((s.heap.push PySem.W.emptyDict).push (PySem.W.instObj C s.heap.objs.size)).get? (s.heap.objs.size+1)=some (PySem.W.instObj C s.heap.objs.size):=by
  have:=Heap.get?_push_size (s.heap.push PySem.W.emptyDict) (o:=PySem.W.instObj C s.heap.objs.size) rfl
  rwa [Heap.size_push] at this
 have e3:(s.heap.push PySem.W.emptyDict).Ns s.heap.objs.size (fun _=>none):=⟨PySem.W.emptyDict,#[],_,e1,rfl,(fun e he=>absurd he (by simp)),fun _=>rfl⟩
 have I1:=I.laid (a:=s.heap.objs.size) (o:=.own (s.heap.objs.size+1)) (h':=s.heap.push PySem.W.emptyDict) (t':=s.toks) (fun b u q=>Heap.get?_push_of_some _ q) (Nat.le_refl _) ⟨_,e1⟩
 refine I1.laid (a:=s.heap.objs.size+1) (o:=.ins C s.heap.objs.size []) (t':=s.toks) (fun b u q=>Heap.get?_push_of_some _ q) (Nat.le_of_eq (Heap.size_push _ _)) ?_
 have ne:s.heap.objs.size≠s.heap.objs.size+1:=Nat.ne_of_lt (Nat.lt_succ_self _)
 refine ⟨by rw [upd_ne ne,upd_same],Nat.zero_le _,ne,e2,fun _=>none,(Heap.Ns1.of_empty e3).at fun o q=>Heap.get?_push_of_some _ q,fun _=>True.intro,fun y hy=>absurd rfl hy⟩
theorem attr_of {prog:Program} {w:World} {env:Env} {e:Expr} {f:Str} {pos:Pos} {s:Shared} {Q:Value→Shared→Prop} (hb:attributeBase e f env (eval e env)=eval e env)
  (h:wpAny (model prog w) A (eval e env) (fun o s₁=>wpAny (model prog w) A (getAttr o f true) Q E s₁) E s):wpAny (model prog w) A (eval (.Attribute e f pos) env) Q E s :=
 Attribute_any_ h (by rw [arm_eval_Attribute,hb])
end
def tFld (K:PySem.W.Frag) (ta:TE) (f:Str):TE:=fun σ H Q=>ta σ H fun x H1=>∃ a C dx fs v,x=.ref a∧H1 a=some (.ins C dx fs)∧Cls K C∧NoAttr K C f∧fs.lookup f=some v∧Q v H1
def sFld (K:PySem.W.Frag) (ta tv:TE) (f:Str):TS:=fun D σ H=>tv σ H fun y H1=>ta σ H1 fun x H2=>∃ a C dx fs,x=.ref a∧H2 a=some (.ins C dx fs)∧Cls K C∧NoAttr K C f∧fs.length<1000 ∧
 D.nx σ (upd H2 a (.ins C dx (putF f y fs)))
section
variable {X:Cx} {o e value:Expr} {f:Str} {pos pos' tpos:Pos} {ta tv:TE}
theorem pe_fld (he:PE X e ta) (hb:attributeBase e f X.env (eval e X.env)=eval e X.env):PE X (.Attribute e f pos) (tFld X.K ta f):=by
 intro pins s σ H Q I h
 refine attr_of hb (thn (he pins s σ H _ I h) fun u s1 ⟨x,H1,I1,rx,a,C,dx,fs,v,ex,ea,c,n,l,q⟩=>?_)
 subst ex
 obtain rfl:u=Value.ref a:=rx
 exact getattr_ok I1 ea c n l fun u' s2 I2 ru=>⟨v,H1,I2,ru,q⟩
theorem ps_fld (ha:PE X o ta) (hv:PE X value tv) (hs:swapsWith value (some (.Attribute o f pos')) pos.line X.env=pure false):PS X (.Assign [.Attribute o f pos'] value pos) (sFld X.K ta tv f):=by
 intro pins s σ H D I h
 refine plainObj_wpAny_Assign_Attribute (thn (hv pins s σ H _ I h) fun u s1 ⟨y,H1,I1,ry,q⟩=>thn (ha pins s1 σ H1 _ I1 q) fun ov s2 ⟨x,H2,I2,rx,a,C,dx,fs,ex,ea,c,n,l,q2⟩=>?_) hs
 subst ex
 obtain rfl:ov=Value.ref a:=rx
 exact setattr_ok I2 ea c n l ry fun s3 I3=>⟨σ,_,I3,q2⟩
end
section
variable {X:Cx} {pins:List (Addr × Obj)} {σ:St} {H:Hp} {s:Shared} {A:Around} {E:Value→Shared→Prop} {Q:Value→Shared→Prop} {c:Value} {b:Bool}
inductive TyOf (K:PySem.W.Frag) (H:Hp):V→Value→Prop where
 | non:TyOf K H .non (.type "NoneType")
 | bl (x:Bool):TyOf K H (.bl x) (.type "bool")
 | int (i:Int):TyOf K H (.int i) (.type "int")
 | str (x:Str):TyOf K H (.str x) (.type "str")
 | flt (x:UInt64):TyOf K H (.flt x) (.type "float")
 | lst {a:Addr} {xs:List V} (e:H a=some (.lst xs)):TyOf K H (.ref a) (.type "list")
 | frz {a:Addr} {o:Obj} {xs:List V} (e:H a=some (.frz o (.lst xs))):TyOf K H (.ref a) (.type "list")
 | tup {a:Addr} {xs:List V} (e:H a=some (.tup xs)):TyOf K H (.ref a) (.type "tuple")
 | dK {a:Addr} {kvs:List (Key × V)} (e:H a=some (.dK kvs)):TyOf K H (.ref a) (.type "dict")
 | dT {a:Addr} {kvs:List (List Key × V)} (e:H a=some (.dT kvs)):TyOf K H (.ref a) (.type "dict")
 | ins {a C dx:Addr} {fs:List (Str × V)} (e:H a=some (.ins C dx fs)) (cl:Cls K C) (ha:PySem.W.findIn K (.ref C) "__class__"=some (some (.builtin "object.__class__")))
   (hn:PySem.W.specialIn K (.builtin "object.__class__") "__get__"=some (some (.builtin "getset_descriptor.__get__"))) (htk:PySem.W.takesIn K (.builtin "object.__class__")=some true)
   (hm:PySem.W.mroIn K C (.type "object")=some true):TyOf K H (.ref a) (.ref C)
theorem isinst_ok {x:V} {u t:Value} (I:Inv X pins σ H s) (rx:RelV x u) (ty:TyOf X.K H x t) (e:PySem.W.kitOne X.K t c=some b) (h:∀ tk,Q (.bool b) { s with toks:=tk }) :
  wpAny (model X.prog X.w) A (call (.builtin "isinstance") [u,c]) Q E s:=by
 cases ty with
 | non=>cases (show u=Value.none from rx);exact PySem.W.kia_one PySem.W.kitx_none I.kIn True.intro e (fun z=>nomatch z) h
 | bl y=>cases (show u=Value.bool y from rx);exact PySem.W.kia_one PySem.W.kitx_bool I.kIn True.intro e (fun z=>nomatch z) h
 | int i=>obtain ⟨t,q⟩:=(show ∃ t,u=Value.int i t from rx);cases q;exact PySem.W.kia_one PySem.W.kitx_int I.kIn True.intro e (fun z=>nomatch z) h
 | str y=>obtain ⟨t,q⟩:=(show ∃ t,u=Value.str y t from rx);cases q;exact PySem.W.kia_one PySem.W.kitx_str I.kIn True.intro e (fun z=>nomatch z) h
 | flt y=>obtain ⟨t,q⟩:=(show ∃ t,u=Value.float y t from rx);cases q;exact PySem.W.kia_one PySem.W.kitx_float I.kIn True.intro e (fun z=>nomatch z) h
 | @lst a xs ea =>
  cases (show u=Value.ref a from rx)
  obtain ⟨_,_,n,_,h1⟩:=(show ObjOk X.prog X.w H s.heap a (.lst xs) from I.hok a _ ea)
  exact PySem.W.kia_one PySem.W.kitx_list I.kIn ⟨_,h1,rfl⟩ e (fun z=>nomatch z) h
 | @frz a ob xs ea =>
  cases (show u=Value.ref a from rx)
  obtain ⟨_,_,_,n,_,h1⟩:=(show ObjOk X.prog X.w H s.heap a (.frz ob (.lst xs)) from I.hok a _ ea)
  exact PySem.W.kia_one PySem.W.kitx_list I.kIn ⟨_,h1,rfl⟩ e (fun z=>nomatch z) h
 | @tup a xs ea =>
  cases (show u=Value.ref a from rx)
  obtain ⟨_,_,_,p⟩:=(show ObjOk X.prog X.w H s.heap a (.tup xs) from I.hok a _ ea)
  obtain ⟨o,h1,h2,_⟩:=p
  exact PySem.W.kia_one PySem.W.kitx_tuple I.kIn ⟨o,h1,h2⟩ e (fun z=>nomatch z) h
 | @dK a kvs ea =>
  cases (show u=Value.ref a from rx)
  obtain ⟨_,_,vs,_,p⟩:=(show ObjOk X.prog X.w H s.heap a (.dK kvs) from I.hok a _ ea)
  obtain ⟨o,es,ep,h1,h2,_⟩:=p
  exact PySem.W.kia_one PySem.W.kitx_dict I.kIn ⟨o,h1,h2.1⟩ e (fun z=>nomatch z) h
 | @dT a kvs ea =>
  cases (show u=Value.ref a from rx)
  obtain ⟨_,_,xs,_,o,es,ep,h1,h2,_⟩:=(show ObjOk X.prog X.w H s.heap a (.dT kvs) from I.hok a _ ea)
  exact PySem.W.kia_one PySem.W.kitx_dict I.kIn ⟨o,h1,h2.1⟩ e (fun z=>nomatch z) h
 | @ins a C dx fs ea cl ha hn htk hm =>
  cases (show u=Value.ref a from rx)
  obtain ⟨mA,O,_⟩:=ins_get I.hok ea
  obtain ⟨od,J,_⟩:=O.look
  exact PySem.W.kia_one (PySem.W.kitx_own (cl.get _) cl.hd ha hn htk hm) I.kIn J e (fun z=>nomatch z) h
end
end L2
namespace L2
open PySem PySem.Spec PyProof.Rows
structure Room (k:Nat) (A:Around):Prop where
 hd:A.handled=none
 dp:A.depth+3*k+5<recursionLimit
 un:A.units+16*k+200<cLine
theorem Room.mono {j k:Nat} {A:Around} (r:Room k A) (h:j≤k):Room j A:=⟨r.hd,by have:=r.dp;lia,by have:=r.un;lia⟩
theorem Room.deeper {k:Nat} {A:Around} (r:Room (k+1) A) (env:Env):Room k (A.deeper env) :=
 ⟨r.hd,by have:=r.dp;show A.depth+1+3*k+5<_;lia,by have:=r.un;show A.units+3+16*k+200<_;lia⟩
theorem Room.in1 {k:Nat} {A:Around} (r:Room (k+1) A):Room k A.in1 :=
 ⟨r.hd,by have:=r.dp;show A.depth+3*k+5<_;lia,by have:=r.un;show A.units+1+16*k+200<_;lia⟩
theorem make_depth {A:Around} {C:Addr} {us:List Value} {kw:List (Str × Value)}:(A.under (.builtin "type.__call__" ⟨.ref C::us,kw⟩)).depth=A.depth+1:=by
 first | rfl | simp [Around.under,Code.weight,Code.isCreation,Code.isGuard,Code.isCaller,Code.frames,Code.isFrame,guardIds]
theorem make_units {A:Around} {C:Addr} {us:List Value} {kw:List (Str × Value)}:(A.under (.builtin "type.__call__" ⟨.ref C::us,kw⟩)).units=A.units+1:=by
 first | rfl | simp [Around.under,Code.cUnits,Code.frames,Code.isFrame]
theorem Room.make {k:Nat} {A:Around} (r:Room (k+1) A) (C:Addr) (us:List Value) (kw:List (Str × Value)):Room k (A.under (.builtin "type.__call__" ⟨.ref C::us,kw⟩)) :=
 ⟨r.hd,by have:=r.dp;rw [make_depth];lia,by have:=r.un;rw [make_units];lia⟩
theorem Room.depth {k:Nat} {A:Around} (r:Room k A):A.depth<recursionLimit:=by have:=r.dp;lia
theorem Room.units {k:Nat} {A:Around} (r:Room k A):A.units+64<cLine:=by have:=r.un;lia
def tNil:TA:=fun _ H Q=>Q [] H
def tCons (ta:TE) (tr:TA):TA:=fun σ H Q=>ta σ H fun x H1=>tr σ H1 fun xs H2=>Q (x::xs) H2
section
variable {X:Cx} {e:Expr} {es:List Expr} {te:TE} {t:TA} {pos:Pos}
theorem pa_nil:PA X [] tNil:=fun _ _ _ _ H Q I h=>Calls.spliced_nil ⟨[],H,I,.nil,h⟩
theorem pa_cons (ha:PE X e te) (hr:PA X es t) (hs:starEach (e::es) X.env=(false,eval e X.env)::starEach es X.env:=by rfl):PA X (e::es) (tCons te t):=by
 intro pos pins s σ H Q I h
 rw [hs]
 show wpAny _ _ (spliced ((false,eval e X.env)::backTo pos (starEach es X.env))) _ _ s
 refine Calls.spliced_cons (thn (ha pins s σ H _ I h) fun u s1 ⟨x,H1,I1,r1,q1⟩=>?_)
 exact thn (hr pos pins s1 σ H1 _ I1 q1) fun us s2 ⟨xs,H2,I2,r2,q2⟩=>⟨x::xs,H2,I2,.cons r1 r2,q2⟩
def tTup (t:TA):TE:=fun σ H Q=>t σ H fun xs H1=>xs.length≤sizeLine∧∀ p,H1 p=none→Q (.ref p) (upd H1 p (.tup xs))
def tLst (t:TA):TE:=fun σ H Q=>t σ H fun xs H1=>xs.length≤sizeLine∧∀ p,H1 p=none→Q (.ref p) (upd H1 p (.lst xs))
theorem pe_tup {x1} (h:PA X es t):PE X (.Tuple es x1 pos) (tTup t):=by
 intro pins s σ H Q I hq
 refine wpAny_Tuple_spliced (thn (h pos pins s σ H _ I hq) fun us s1 ⟨xs,H1,I1,r,z,q⟩=>⟨by rw [←r.length];exact z,?_⟩)
 have hf:H1 s1.heap.objs.size=none:=I1.hok.fresh (Nat.le_refl _)
 refine ⟨.ref s1.heap.objs.size,upd H1 s1.heap.objs.size (.tup xs),I1.laid (t':=s1.toks) (fun b u e=>Heap.get?_push_of_some _ e) (Nat.le_refl _) ?_,rfl,q _ hf⟩
 exact ⟨z,us,r,⟨_,Heap.get?_push_size _ rfl,rfl,_,rfl⟩⟩
theorem pe_lst (h:PA X es t):PE X (.List es pos) (tLst t):=by
 intro pins s σ H Q I hq
 refine wpAny_List_spliced (thn (h pos pins s σ H _ I hq) fun us s1 ⟨xs,H1,I1,r,z,q⟩=>⟨by rw [←r.length];exact z,?_⟩)
 have hf:H1 s1.heap.objs.size=none:=I1.hok.fresh (Nat.le_refl _)
 refine ⟨.ref s1.heap.objs.size,upd H1 s1.heap.objs.size (.lst xs),I1.laid (t':=s1.toks) (fun b u e=>Heap.get?_push_of_some _ e) (Nat.le_refl _) ?_,rfl,q _ hf⟩
 exact ⟨z,us,0,r,Heap.get?_push_size _ rfl⟩
end
abbrev Sp:=List V→Hp→VK→XK→Prop
abbrev CXT:=List Env→Hp→Shared→XK→Value→Shared→Prop
structure Env0 (P:Program) (w:World) (K:PySem.W.Frag) (mg:Str→Option Value) (base:Heap) (A:Around) (outer:List Env) (s:Shared) (H:Hp):Prop where
 frames:A.frames=some outer
 mod:Mod K mg base
 bs:∀ b o,base.get? b=some o→s.heap.get? b=some o∧H b=none
 bsz:base.objs.size≤s.heap.objs.size
 funs:s.heap.FunFrames base outer
 frf:∀ b∈frs outer,H b=none
 hok:HOk P w H s.heap
 bare:AllBare s.gens
def CE (outer:List Env) (P:Program) (w:World) (H:Hp) (s:Shared) (Q:VK) (u:Value) (s':Shared):Prop :=
 ∃ v H',s'.os=s.os∧AllBare s'.gens∧Un (frs outer) [] H H' s.heap s'.heap∧HOk P w H' s'.heap∧RelV v u∧Q v H'
def CR (CX:CXT) (outer:List Env) (P:Program) (w:World) (H:Hp) (s:Shared) (Q:VK) (E:XK) (r:Result) (s':Shared):Prop :=
 match r with
 | .ok (.ret u)=>CE outer P w H s Q u s'
 | .ok _=>False
 | .error e=>CX outer H s E e s'
structure FnOk (P:Program) (w:World) (K:PySem.W.Frag) (mg:Str→Option Value) (base:Heap) (CX:CXT) (k:Nat) (f:Addr) (fd:FuncData) (ps:List Str) (sp:Sp):Prop where
 len:∀ vs H Q E,sp vs H Q E→vs.length=ps.length
 run:∀ (A:Around) (outer:List Env) (s:Shared) (H:Hp) (args:Args) (us:List Value) (vs:List V) (Q:VK) (E:XK),Room k A→Env0 P w K mg base A outer s H→BindsTo s fd args (ps.zip us)→Vals vs us→sp vs H Q E →
  codeAny (model P w) A (.call (.ref f) args) (CR CX outer P w H s Q E) s
theorem FnOk.mono {P:Program} {w:World} {K:PySem.W.Frag} {mg:Str→Option Value} {base:Heap} {CX:CXT} {j k:Nat} {f:Addr} {fd:FuncData} {ps:List Str} {sp:Sp} (F:FnOk P w K mg base CX j f fd ps sp) (h:j≤k) :
  FnOk P w K mg base CX k f fd ps sp:=⟨F.len,fun A outer s H args us vs Q E hr=>F.run A outer s H args us vs Q E (hr.mono h)⟩
theorem Env0.make {P:Program} {w:World} {K:PySem.W.Frag} {mg:Str→Option Value} {base:Heap} {A:Around} {outer:List Env} {s:Shared} {H:Hp} (e:Env0 P w K mg base A outer s H) (C:Addr) (us:List Value) (kw:List (Str × Value)) :
  Env0 P w K mg base (A.under (.builtin "type.__call__" ⟨.ref C::us,kw⟩)) outer s H:=⟨by first | exact e.frames | (simpa [Around.under,Code.envs,Code.isFrame,pushEnvs] using e.frames),e.mod,e.bs,e.bsz,e.funs,e.frf,e.hok,e.bare⟩
theorem Env0.in1 {P:Program} {w:World} {K:PySem.W.Frag} {mg:Str→Option Value} {base:Heap} {A:Around} {outer:List Env} {s:Shared} {H:Hp} (e:Env0 P w K mg base A outer s H) :
  Env0 P w K mg base A.in1 outer s H:=⟨e.frames,e.mod,e.bs,e.bsz,e.funs,e.frf,e.hok,e.bare⟩
section
variable {X:Cx} {pins:List (Addr × Obj)} {σ:St} {H:Hp} {s s':Shared}
theorem Inv.env0 (I:Inv X pins σ H s):Env0 X.prog X.w X.K X.mg X.base X.A X.stack s H :=
 ⟨I.ok.frames,I.ok.mod,I.bs,Nat.le_trans I.ok.bsz I.sz,I.stack,I.stkFree,I.hok,I.bare⟩
theorem Inv.after {Q:VK} {u:Value} (I:Inv X pins σ H s) (h:CE X.stack X.prog X.w H s Q u s'):EP X pins σ Q u s':=by
 obtain ⟨v,H',os,bare,un,hok,r,q⟩:=h
 obtain ⟨hh,g,d,t,os'⟩:=s'
 obtain rfl:os'=s.os:=os
 exact ⟨v,H',I.call (h':=hh) (g':=g) (d':=d) (t':=t) (ch:=[]) un hok bare (fun b z=>absurd z (by simp)),r,q⟩
end
def tCall (sp:Sp) (dvs:List V) (E:XK) (t:TA):TE:=fun σ H Q=>t σ H fun vs H1=>sp (vs++dvs) H1 Q E
def tMake (C:Addr) (sp:Sp) (dvs:List V) (E:XK) (t:TA):TE:=fun σ H Q=>t σ H fun vs H1=>∀ x dx,H1 x=none→H1 dx=none→dx≠x →
 sp (.ref x::(vs++dvs)) (upd (upd H1 dx (.own x)) x (.ins C dx [])) (fun v H2=>v=.non∧Q (.ref x) H2) E
def Binds (K:PySem.W.Frag) (fd:FuncData) (ps:List Str) (ds:List Value):Prop :=
 ∀ (s:Shared) (us:List Value),K.In s.heap→(us++ds).length=ps.length→BindsTo s fd ⟨us,[]⟩ (ps.zip (us++ds))
theorem Binds.all {K:PySem.W.Frag} {fd:FuncData} {ps:List Str} (h:∀ us:List Value,us.length=ps.length→bindArgs fd ⟨us,[]⟩=pure (ps.zip us)):Binds K fd ps []:=fun s us _ hl=>by
 rw [List.append_nil] at hl ⊢
 exact .of_eq (h us hl)
def Passes (CX:CXT) (X:Cx) (E:XK):Prop:=∀ (pins:List (Addr × Obj)) (σ:St) (H:Hp) (s:Shared) (e:Value) (s':Shared),Inv X pins σ H s→CX X.stack H s E e s'→X.xe e s'
section
variable {X:Cx} {CX:CXT} {k:Nat} {f C:Addr} {fd:FuncData} {ps:List Str} {sp:Sp} {dvs:List V} {ds:List Value} {E:XK} {x m:Str} {p pos apos:Pos} {e o:Expr} {es:List Expr} {ta:TE} {t:TA}
structure Mk (K:PySem.W.Frag) (C f:Addr):Prop where
 makes:PySem.W.makesIn K C=true
 init:PySem.W.findIn K (.ref C) "__init__"=some (some (.ref f))
 fn:PySem.W.isFn K (.ref f)=true
 kp:PySem.W.keepIn K (.ref C)=true
theorem run_make {pins:List (Addr × Obj)} {σ:St} {H:Hp} {s:Shared} {Q:VK} {us:List Value} {vs:List V} (M:Mk X.K C f) (F:FnOk X.prog X.w X.K X.mg X.base CX k f fd ps sp) (hr:Room (k+1) X.A) (hb:Binds X.K fd ps ds) (hd:Vals dvs ds)
  (hx:Passes CX X E) (I:Inv X pins σ H s) (r:Vals vs us)
  (h:∀ x dx,H x=none→H dx=none→dx≠x→sp (.ref x::(vs++dvs)) (upd (upd H dx (.own x)) x (.ins C dx [])) (fun v H2=>v=.non∧Q (.ref x) H2) E) :
  wpAny (model X.prog X.w) X.A (call (.ref C) us) (EP X pins σ Q) X.xe s:=by
 have hq:=h (s.heap.objs.size+1) s.heap.objs.size (I.hok.fresh (Nat.le_succ _)) (I.hok.fresh (Nat.le_refl _)) (Nat.ne_of_lt (Nat.lt_succ_self _))
 have I2:=Inv.made (C:=C) I
 have r2:Vals (V.ref (s.heap.objs.size+1)::(vs++dvs)) (Value.ref (s.heap.objs.size+1)::(us++ds)):=.cons rfl (r.append hd)
 have hl:(Value.ref (s.heap.objs.size+1)::us++ds).length=ps.length:=by
  have e:=r2.length
  rw [F.len _ _ _ _ hq] at e
  exact e.symm
 refine wpAny_call (make_map (f:=f) I.kIn M.makes M.init (beq_iff_eq.mp M.fn) (codeAny_mono (F.run _ X.stack _ _ ⟨Value.ref (s.heap.objs.size+1)::us,[]⟩ (Value.ref (s.heap.objs.size+1)::(us++ds)) _ _ E (hr.make C us [])
  (I2.env0.make C us []) (hb _ (Value.ref (s.heap.objs.size+1)::us) I2.kIn hl) r2 hq) fun r s' hq'=>?_))
 cases r with
 | error e=>exact hx pins σ _ _ e s' I2 hq'
 | ok fl =>
  cases fl with
  | ret u =>
   obtain ⟨v,H',I3,rv,ev,q3⟩:=I2.after hq'
   subst ev
   exact ⟨rv,⟨V.ref (s.heap.objs.size+1),H',I3,rfl,q3⟩⟩
  | next=>exact False.elim hq'
  | brk=>exact False.elim hq'
  | cont=>exact False.elim hq'
theorem pe_make (M:Mk X.K C f) (F:FnOk X.prog X.w X.K X.mg X.base CX k f fd ps sp) (hr:Room (k+1) X.A) (hg:Gl X x) (hm:X.mg x=some (.ref C)) (hb:Binds X.K fd ps ds) (hd:Vals dvs ds) (hx:Passes CX X E)
  (ha:PA X (e::es) t) (hdb:(x == ("__debug__":Str))=false:=by decide) (he:starEach (e::es) X.env=(false,eval e X.env)::starEach es X.env:=by rfl) (hpl:(backTo pos (starEach es X.env)).any (·.1)=false:=by rfl) :
  PE X (.Call (.Name x p) (e::es) [] pos) (tMake C sp dvs E t):=by
 intro pins s σ H Q I h
 refine wpAny_Call_Name_kw (ld_glob I hg hm ?_ hdb)
 refine PySem.W.callWith_K (h₀:=X.base) I.ok.mod.kin M.kp (thn (ha pos pins s σ H _ I h) fun us s1 ⟨vs,H1,I1,r,q⟩=>⟨I1.kIn,?_⟩) he hpl
 exact run_make M F hr hb hd hx I1 r q
end
section
variable {X:Cx} {CX:CXT} {k:Nat} {f C:Addr} {fd:FuncData} {ps ks:List Str} {sp:Sp} {E:XK} {x m:Str} {p pos apos kpos:Pos} {e o:Expr} {es:List Expr} {kws:List Keyword} {te ta:TE} {t tk:TA} {nm:Option Str}
structure KBinds (K:PySem.W.Frag) (fd:FuncData) (ps ks:List Str) (g:List Value→List Value→List Value) (gV:List V→List V→List V):Prop where
 to:∀ (s:Shared) (us ws:List Value),K.In s.heap→(g us ws).length=ps.length→BindsTo s fd ⟨us,ks.zip ws⟩ (ps.zip (g us ws))
 rel:∀ {vs:List V} {us:List Value} {zs:List V} {ws:List Value},Vals vs us→Vals zs ws→Vals (gV vs zs) (g us ws)
variable {g:List Value→List Value→List Value} {gV:List V→List V→List V}
end
structure FnScope (N P:List Str) (sc:Scope):Prop where
 kind:sc.kind=.function
 co:sc.isCoroutine=false
 gen:sc.isGenerator=false
 nd:N.Nodup
 pre:N.take P.length=P
 par:∀ x∈P,sc.names.lookup x=some .local∨sc.names.lookup x=some .cell
 nofree:∀ y∈sc.names,y.2≠.free
theorem bindL_out {kindOf:Str→Option NameKind} {x:Str}:∀ {binds:List (Str × Value)} {m:Str→Option Value},(∀ v,(x,v)∉binds)→bindL kindOf binds m x=m x
 | [],_,_=>rfl
 | (n,v)::r,m,h=>by
  unfold bindL
  rw [bindL_out fun w hw=>h w (List.mem_cons_of_mem _ hw)]
  split
  ·have:x≠n:=by rintro rfl;exact h v List.mem_cons_self
   simp [this]
  ·rfl
theorem bindC_out {kindOf:Str→Option NameKind} {x:Str}:∀ {binds:List (Str × Value)} {m:Str→Option Value},(∀ v,(x,v)∉binds)→bindC kindOf binds m x=m x
 | [],_,_=>rfl
 | (n,v)::r,m,h=>by
  unfold bindC
  rw [bindC_out fun w hw=>h w (List.mem_cons_of_mem _ hw)]
  split
  ·rfl
  ·have:x≠n:=by rintro rfl;exact h v List.mem_cons_self
   simp [this]
theorem bindL_get {kindOf:Str→Option NameKind} {x:Str} {v:Value}:∀ {P:List Str} {vs:List Value} {i:Nat} {m:Str→Option Value},P.Nodup→P[i]?=some x→vs[i]?=some v→kindOf x=some .local →
  bindL kindOf (P.zip vs) m x=some v
 | [],_,_,_,_,h,_,_=>by simp at h
 | _::_,[],_,_,_,_,h,_=>by simp at h
 | p::P,w::vs,0,m,nd,h1,h2,hk=>by
  simp at h1 h2;subst h1;subst h2
  show bindL kindOf ((p,w)::P.zip vs) m p=_
  unfold bindL
  rw [bindL_out fun v hv=>(List.nodup_cons.mp nd).1 (List.of_mem_zip hv).1,if_pos hk]
  simp
 | p::P,w::vs,i+1,m,nd,h1,h2,hk=>by
  show bindL kindOf ((p,w)::P.zip vs) m x=_
  unfold bindL
  exact bindL_get (i:=i) (List.nodup_cons.mp nd).2 (by simpa using h1) (by simpa using h2) hk
theorem bindC_get {kindOf:Str→Option NameKind} {x:Str} {v:Value}:∀ {P:List Str} {vs:List Value} {i:Nat} {m:Str→Option Value},P.Nodup→P[i]?=some x→vs[i]?=some v→kindOf x≠some .local →
  bindC kindOf (P.zip vs) m x=some v
 | [],_,_,_,_,h,_,_=>by simp at h
 | _::_,[],_,_,_,_,h,_=>by simp at h
 | p::P,w::vs,0,m,nd,h1,h2,hk=>by
  simp at h1 h2;subst h1;subst h2
  show bindC kindOf ((p,w)::P.zip vs) m p=_
  unfold bindC
  rw [bindC_out fun v hv=>(List.nodup_cons.mp nd).1 (List.of_mem_zip hv).1,if_neg hk]
  simp
 | p::P,w::vs,i+1,m,nd,h1,h2,hk=>by
  show bindC kindOf ((p,w)::P.zip vs) m x=_
  unfold bindC
  exact bindC_get (i:=i) (List.nodup_cons.mp nd).2 (by simpa using h1) (by simpa using h2) hk
def start (N:List Str) (vs:List V):St:=vs.map some++List.replicate (N.length - vs.length) none
def cxOf (CX:CXT) (P:Program) (w:World) (K:PySem.W.Frag) (mg:Str→Option Value) (base:Heap) (N:List Str) (qual:Str) (scope:Scope) (f:Addr) (cd:Value) (A:Around) (outer:List Env) (s:Shared) (H:Hp) (E:XK):Cx where
 prog:=P
 w:=w
 K:=K
 mg:=mg
 base:=base
 A:=A.deeper (envOfC qual scope s.heap.objs.size f cd)
 N:=N
 s₀:=s
 H₀:=H
 env:=envOfC qual scope s.heap.objs.size f cd
 outer:=outer
 stack:=envOfC qual scope s.heap.objs.size f cd::outer
 ex:=[]
 calm:=true
 fn:=fun _=>true
 pn:=[]
 xe:=fun e s'=>wpAny (model P w) (A.deeper (envOfC qual scope s.heap.objs.size f cd)) (leaving (envOfC qual scope s.heap.objs.size f cd) e) (fun _ s''=>CX outer H s E e s'') (fun e' s''=>CX outer H s E e' s'') s'
theorem cell_has {sc:Scope} {n:Nat} {x:Str} (h:sc.names.lookup x=some .cell):∃ c,(cellsFrom n sc.names []).lookup x=some c:=by
 have q:=PySem.W.cellsFrom_some sc.names n [] (.inl h)
 exact Option.isSome_iff_exists.mp q
theorem inv_start {CX:CXT} {P:Program} {w:World} {K:PySem.W.Frag} {mg:Str→Option Value} {base:Heap} {N ps:List Str} {qual:Str} {scope:Scope} {f:Addr} {cd:Value} {A:Around} {outer:List Env} {s s1:Shared} {H:Hp} {E:XK} {us:List Value} {vs:List V}
  (S:FnScope N ps scope) (hd:A.handled=none) (e0:Env0 P w K mg base A outer s H) (hl:vs.length=ps.length) (r:Vals vs us)
  (x:InCallC s s.heap.objs.size (bindL (envOfC qual scope s.heap.objs.size f cd).kindOf (ps.zip us) fun _=>none) (cellsFrom (s.heap.objs.size+1) scope.names []) (bindC (envOfC qual scope s.heap.objs.size f cd).kindOf (ps.zip us) fun _=>none) s1) :
  Inv (cxOf CX P w K mg base N qual scope f cd A outer s H E) [] (start N vs) H s1:=by
 have hpl:ps.length≤N.length:=by have:=congrArg List.length S.pre;rw [List.length_take] at this;lia
 obtain ⟨h1,tk,rfl,hk⟩:=x.done
 have noA:∀ b:Addr,b∉(cxOf CX P w K mg base N qual scope f cd A outer s H E).ex:=fun b z=>absurd (show b∈([]:List Addr) from z) (by simp)
 refine ⟨⟨e0.mod,S.kind,rfl,rfl,Nat.le_refl _,fun y z c h1 h2=>?_,fun y hy=>?_,fun y c _ h=>?_,fun _=>hd,Around.frames_deeper e0.frames,.inr ⟨rfl,rfl⟩,fun b z=>absurd z (noA b),e0.bs,e0.bsz,fun b _ _=>noA b,fun b z=>absurd z (noA b),e0.funs,e0.frf⟩,
  rfl,e0.bare,Un.kept hk,⟨_,x.toInCall.ns,fun i y v h1 h2 h3=>?_⟩,fun y c h=>⟨_,x.cell y c h⟩,e0.hok.fresh (Nat.le_refl _),fun y c h=>?_,fun p hp=>absurd (show p∈([]:List (Addr × Obj)) from hp) (by simp),e0.hok.kept hk,?_⟩
 ·exact name_of_addr x.apart (PySem.mem_of_lookup h1) (PySem.mem_of_lookup h2)
 ·have hy:scope.names.lookup y=some .cell∨scope.names.lookup y=some .free:=hy
  rcases hy with hy | hy
  ·exact cell_has hy
  ·exact absurd rfl (S.nofree _ (PySem.mem_of_lookup hy))
 ·exact Nat.le_of_lt (x.above y c (PySem.mem_of_lookup h))
 ·have hi:i<vs.length:=by
   unfold start at h2
   by_cases hi:i<vs.length
   ·exact hi
   ·rw [List.getElem?_append_right (by simpa using hi)] at h2
    rw [List.getElem?_replicate] at h2
    split at h2 <;> cases h2
  have ha:vs[i]?=some v:=by
   unfold start at h2
   rw [List.getElem?_append_left (by simpa using hi),List.getElem?_map] at h2
   cases e:vs[i]? with
   | none=>rw [e] at h2;cases h2
   | some a=>rw [e] at h2;cases h2;rfl
  obtain ⟨u,hu,rv⟩:=r.get ha
  have hp:ps[i]?=some y:=by
   rw [←S.pre,List.getElem?_take_of_lt (by lia)];exact h1
  have ndP:ps.Nodup:=by rw [←S.pre];exact S.nd.sublist (List.take_sublist _ _)
  refine ⟨u,rv,?_⟩
  rcases S.par y (List.mem_of_getElem? hp) with k | k
  ·exact .inl ⟨k,bindL_get ndP hp hu k⟩
  ·obtain ⟨c,e⟩:=cell_has (n:=s.heap.objs.size+1) k
   refine .inr ⟨.inl k,c,e,?_⟩
   have q:=x.cell y c e
   rw [bindC_get ndP hp hu (by show scope.names.lookup y≠_;rw [k];decide)] at q
   exact q
 ·exact e0.hok.fresh (Nat.le_of_lt (x.above y c (PySem.mem_of_lookup h)))
 ·unfold start
  show _=N.length
  rw [List.length_append,List.length_map,List.length_replicate]
  lia
theorem fn_of {CX:CXT} {P:Program} {w:World} {K:PySem.W.Frag} {mg:Str→Option Value} {base:Heap} {k:Nat} {f:Addr} {name qual:Str} {params:Arguments} {body:List Stmt} {scope:Scope} {dV kV doc pm cdv ct oc:Value} {an od:Option Addr}
  {osl:Array (Option Value)} {N ps:List Str} {sp:Sp} (lk:K.lookup f=some ⟨oc,od,.func (PySem.W.fnOf name qual params body scope dV kV doc pm an cdv ct),osl⟩) (hcd:PySem.W.codeIn K cdv qual=true) (S:FnScope N ps scope)
  (len:∀ vs H Q E,sp vs H Q E→vs.length=ps.length)
  (hbody:∀ (A:Around) (outer:List Env) (s:Shared) (H:Hp) (vs:List V) (Q:VK) (E:XK),Room k (A.deeper (envOfC qual scope s.heap.objs.size f cdv))→sp vs H Q E →
   ∃ t,PSs (cxOf CX P w K mg base N qual scope f cdv A outer s H E) body t∧t { nx:=fun _ H'=>Q .non H',rt:=Q } (start N vs) H) :
  FnOk P w K mg base CX (k+1) f (PySem.W.fnOf name qual params body scope dV kV doc pm an cdv ct) ps sp:=by
 refine ⟨len,fun A outer s H args us vs Q E hr e0 hb r hsp=>?_⟩
 have hl:=len _ _ _ _ hsp
 have KX:K.In s.heap:=e0.mod.kin.keeps fun b o e=>(e0.bs b o e).1
 have lim:s.heap.NoLimit:=e0.mod.nolimit.keeps fun b o e=>(e0.bs b o e).1
 have hkind:∀ y∈ps.zip us,scope.names.lookup y.1=some .local∨(scope.names.lookup y.1=some .cell∧((cellsFrom (s.heap.objs.size+1) scope.names []).lookup y.1).isSome=true):=fun ⟨n,v⟩ hy=>by
  rcases S.par n (List.of_mem_zip hy).1 with q | q
  ·exact .inl q
  ·exact .inr ⟨q,PySem.W.cellsFrom_some _ _ _ (.inl q)⟩
 refine codeAny_call_function hr.depth (KX _ _ lk) rfl S.co S.gen rfl (PySem.W.codeRec_of KX hcd) (hb _ _ _ _ ?_)
 refine wpAny_newFunctionEnv_cells S.kind hkind fun env he s1 x=>?_
 subst he
 refine ⟨lim.keeps x.toInCall.keep,codeAny_func ?_⟩
 obtain ⟨t,ht,hq⟩:=hbody A outer s H vs Q E (hr.deeper _) hsp
 have I:Inv (cxOf CX P w K mg base N qual scope f cdv A outer s H E) [] (start N vs) H s1:=inv_start S hr.hd e0 hl r x
 refine wpAny_mono (ht [] s1 (start N vs) H _ I hq) (fun fl s' hs=>?_) fun e s' hs=>hs
 have fin:∀ {σ':St} {H':Hp} {v:V} {u:Value},Inv (cxOf CX P w K mg base N qual scope f cdv A outer s H E) [] σ' H' s'→RelV v u→Q v H'→CE outer P w H s Q u s' :=
  fun {σ' H' v u} J rv q=>⟨v,H',J.os,J.bare,J.base,J.hok,rv,q⟩
 cases fl with
 | ret u =>
  obtain ⟨v,σ',H',J,rv,q⟩:=hs
  exact fin J rv q
 | next =>
  obtain ⟨σ',H',J,q⟩:=hs
  exact fin (v:=V.non) (u:=Value.none) J rfl q
 | brk =>
  obtain ⟨_,_,_,q⟩:=hs
  exact False.elim q
 | cont =>
  obtain ⟨_,_,_,q⟩:=hs
  exact False.elim q
end L2
namespace L2
open PySem PySem.Spec PyProof.Rows
section
variable {X:Cx} {x:Str} {p pos:Pos} {e:Expr} {es:List Expr} {t:TA} {id T:String} {r:List V→Hp→VK→Prop}
def tCB (r:List V→Hp→VK→Prop) (t:TA):TE:=fun σ H Q=>t σ H fun vs H1=>r vs H1 Q
theorem pe_callB (hc:CallR X (.builtin id) r) (hg:Gl X x) (hm:X.mg x=none) (hv:bootBuiltins x=some (.builtin id)) (ha:PA X (e::es) t) (hn:x≠"__name__":=by decide) (hdb:(x == ("__debug__":Str))=false:=by decide)
  (he:starEach (e::es) X.env=(false,eval e X.env)::starEach es X.env:=by rfl) (hpl:(backTo pos (starEach es X.env)).any (·.1)=false:=by rfl):PE X (.Call (.Name x p) (e::es) [] pos) (tCB r t):=by
 intro pins s σ H Q I h
 refine wpAny_Call_Name_kw (ld_blt I hg hm hv ?_ hn hdb)
 exact PyProof.Rows.callWith_builtin1 (thn (ha pos pins s σ H _ I h) fun us s1 ⟨vs,H1,I1,r1,q1⟩=>hc pins s1 σ H1 vs us Q I1 r1 q1) he hpl
theorem pe_callTy (hc:CallR X (.type T) r) (hg:Gl X x) (hm:X.mg x=none) (hv:bootBuiltins x=some (.type T)) (ha:PA X (e::es) t) (hn:x≠"__name__":=by decide) (hdb:(x == ("__debug__":Str))=false:=by decide)
  (he:starEach (e::es) X.env=(false,eval e X.env)::starEach es X.env:=by rfl) (hpl:(backTo pos (starEach es X.env)).any (·.1)=false:=by rfl):PE X (.Call (.Name x p) (e::es) [] pos) (tCB r t):=by
 intro pins s σ H Q I h
 refine wpAny_Call_Name_kw (ld_blt I hg hm hv ?_ hn hdb)
 exact PyProof.Rows.callWith_type1 (thn (ha pos pins s σ H _ I h) fun us s1 ⟨vs,H1,I1,r1,q1⟩=>hc pins s1 σ H1 vs us Q I1 r1 q1) he hpl
end
end L2
namespace HT
open PySem PyProof.Rows
section
open PySem.SeqAt
open PySem.AutoSeq1 (wpAny_loadPart')
open PySem.MeetsSeq PySem.MeetsSeq2 PySem.MeetsSeq3
end
section
variable {prog:Program} {w:World} {A:Around} {E:Value→Shared→Prop} {s:Shared}
def sIx (n d:Nat):Option Int→Nat
 | none=>d
 | some v=>if v<0 then (v+(n:Int)).toNat else min v.toNat n
end
end HT
namespace L2
open PySem PySem.Spec PyProof.Rows
abbrev TO:=St→Hp→(Option Int→Hp→Prop)→Prop
def PO (X:Cx) (e:Option Expr) (t:TO):Prop :=
 ∀ (pins:List (Addr × Obj)) (s:Shared) (σ:St) (H:Hp) (Q:Option Int→Hp→Prop),Inv X pins σ H s→t σ H Q →
  wpAny (model X.prog X.w) X.A (evalPart e X.env) (fun u s'=>∃ o H',Inv X pins σ H' s'∧IsPart u o∧Q o H') X.xe s
def tNoPart:TO:=fun _ H Q=>Q none H
def tPart (t:TE):TO:=fun σ H Q=>t σ H fun x H1=>∃ i,x=.int i∧Q (some i) H1
theorem intsAre_of {ns:List Int}:∀ {us:List Value},Vals (ns.map V.int) us→IntsAre us ns:=by
 induction ns with
 | nil=>intro us r;rw [List.map_nil] at r;cases r;exact .nil
 | cons n ns ih =>
  intro us r
  rw [List.map_cons] at r
  cases r with
  | cons r1 r2 =>
   obtain ⟨t,e⟩:=r1
   subst e
   exact .cons n t (ih r2)
section
variable {X:Cx} {e:Expr} {te:TE} {lo hi:Option Expr} {tl th:TO} {pos p2:Pos}
theorem po_none:PO X none tNoPart:=by
 intro pins s σ H Q I h
 rw [evalPart_none]
 exact wpAny_pure ⟨none,H,I,.none,h⟩
theorem po_some (h:PE X e te):PO X (some e) (tPart te):=by
 intro pins s σ H Q I hw
 rw [evalPart_some]
 refine thn (h pins s σ H _ I hw) fun u s1 ⟨x,H1,I1,r1,q1⟩=>?_
 obtain ⟨i,rfl,q⟩:=q1
 obtain ⟨t,rfl⟩:=r1
 exact ⟨some i,H1,I1,.int i t,q⟩
def SlR (X:Cx) (r:V→Option Int→Option Int→Hp→VK→Prop):Prop :=
 ∀ (pins:List (Addr × Obj)) (s:Shared) (σ:St) (H:Hp) (x:V) (v vl vu:Value) (lo hi:Option Int) (sl:Addr) (Q:VK),Inv X pins σ H s→RelV x v→s.heap.IsSliceOf sl vl vu .none→IsPart vl lo→IsPart vu hi→r x lo hi H Q →
  ∃ T id,typeLookup (.type T) "__getitem__"=pure (some (.builtin id))∧s.TypeIs v T∧wpAny (model X.prog X.w) X.A (getItem v (.ref sl)) (EP X pins σ Q) X.xe s
def tSl (r:V→Option Int→Option Int→Hp→VK→Prop) (te:TE) (tl th:TO):TE:=fun σ H Q=>te σ H fun x H1=>tl σ H1 fun l H2=>th σ H2 fun u H3=>r x l u H3 Q
theorem pe_slice {r:V→Option Int→Option Int→Hp→VK→Prop} (hr:SlR X r) (he:PE X e te) (hl:PO X lo tl) (hu:PO X hi th):PE X (.Subscript e (.Slice lo hi none p2) pos) (tSl r te tl th):=by
 intro pins s σ H Q I h
 refine Subscript_ (thn (he pins s σ H _ I h) fun v s1 ⟨x,H1,I1,r1,q1⟩=>?_)
 refine wpAny_Slice (thn (hl pins s1 σ H1 _ I1 q1) fun vl s2 ⟨l,H2,I2,pl,q2⟩=>thn (hu pins s2 σ H2 _ I2 q2) fun vu s3 ⟨u,H3,I3,pu,q3⟩=>?_)
 rw [evalPart_none]
 refine wpAny_pure ?_
 have I4:Inv X pins σ H3 { s3 with heap:=s3.heap.push { cls:=.type "slice",data:=.fields #[vl,vu,.none] } }:=I3.kept (t':=s3.toks) fun b ob q=>Heap.get?_push_of_some _ q
 obtain ⟨T,id,hT,ht,hg⟩:=hr pins { s3 with heap:=s3.heap.push { cls:=.type "slice",data:=.fields #[vl,vu,.none] } } σ H3 x v vl vu l u s3.heap.objs.size Q I4 r1 (Heap.IsSliceOf.new ..) pl pu q3
 show wpAny (model X.prog X.w) X.A (subscriptTail e (.Slice lo hi none p2) v (.ref s3.heap.objs.size)) (EP X pins σ Q) X.xe { s3 with heap:=s3.heap.push { cls:=.type "slice",data:=.fields #[vl,vu,.none] } }
 exact tail_any (ops:=[.ref s3.heap.objs.size,v]) ht hT hg (by with_unfolding_all rfl)
def cutV (xs:List V) (lo hi:Option Int):List V:=(xs.drop (HT.sIx xs.length 0 lo)).take (HT.sIx xs.length xs.length hi - HT.sIx xs.length 0 lo)
theorem cutV_length (xs:List V) (lo hi:Option Int):(cutV xs lo hi).length≤xs.length:=by
 unfold cutV
 rw [List.length_take,List.length_drop]
 lia
end
end L2
namespace L2
open PySem PySem.Spec PyProof.Rows
def ixN (n:Nat) (i:Int):Option Nat:=if 0≤i then (if i<n then some i.toNat else none) else if -(n:Int)≤i then some (i+n).toNat else none
def atI {α:Type} (xs:List α) (i:Int):Option α:=(ixN xs.length i).bind fun j=>xs[j]?
theorem ixN_seq {n:Nat} {i:Int} {j:Nat} (h:ixN n i=some j):seqIndex? i n=some j∧j<n∧-(n:Int)≤i∧i<n:=by
 unfold ixN at h
 by_cases h0:0≤i
 ·rw [if_pos h0] at h
  by_cases h1:i<n
  ·rw [if_pos h1] at h
   have e:i.toNat=j:=Option.some.inj h
   exact ⟨by rw [seqIndex_of h0 h1,e],by lia,by lia,h1⟩
  ·rw [if_neg h1] at h;cases h
 ·rw [if_neg h0] at h
  by_cases h1:-(n:Int)≤i
  ·rw [if_pos h1] at h
   have e:(i+n).toNat=j:=Option.some.inj h
   exact ⟨by rw [seqIndex_neg (by lia) h1,e],by lia,h1,by lia⟩
  ·rw [if_neg h1] at h;cases h
theorem atI_get {α:Type} {xs:List α} {i:Int} {v:α} (h:atI xs i=some v):∃ j,seqIndex? i xs.length=some j∧xs[j]?=some v∧j<xs.length∧-(xs.length:Int)≤i∧i<xs.length:=by
 unfold atI at h
 cases e:ixN xs.length i with
 | none=>rw [e] at h;cases h
 | some j =>
  rw [e] at h
  obtain ⟨h1,h2,h3,h4⟩:=ixN_seq e
  exact ⟨j,h1,h,h2,h3,h4⟩
theorem atI_nat {α:Type} {xs:List α} {j:Nat} {v:α} (h:xs[j]?=some v):atI xs (j:Int)=some v:=by
 have hj:j<xs.length:=(List.getElem?_eq_some_iff.mp h).1
 have e:ixN xs.length (j:Int)=some j:=by
  unfold ixN
  rw [if_pos (by lia),if_pos (by lia)];simp
 unfold atI;rw [e];exact h
def PlainIx (b:Expr):Prop:=∀ o i,subscripted b false o i=operate [o,i] (getItem o i)
def IxR (X:Cx) (r:R2):Prop :=
 ∀ (value slice:Expr) (pins:List (Addr × Obj)) (s:Shared) (σ:St) (H:Hp) (x y:V) (v u:Value) (Q:VK),Inv X pins σ H s→RelV x v→RelV y u→r x y H Q →
  subscripted slice false v u=operate [v,u] (getItem v u)→wpAny (model X.prog X.w) X.A (subscriptTail value slice v u) (EP X pins σ Q) X.xe s
def MtR (X:Cx) (id:String) (r:V→List V→Hp→VK→Prop):Prop :=
 ∀ (pins:List (Addr × Obj)) (s:Shared) (σ:St) (H:Hp) (x:V) (xs:List V) (v:Value) (us:List Value) (Q:VK),Inv X pins σ H s→RelV x v→Vals xs us→r x xs H Q →
  wpAny (model X.prog X.w) X.A (call (.builtin id) (v::us)) (EP X pins σ Q) X.xe s
section
variable {X:Cx} {a b:Expr} {ta tb:TE} {pos:Pos}
theorem pe_ix {r:R2} (hr:IxR X r) (ha:PE X a ta) (hb:PE X b tb) (hs:PlainIx b):PE X (.Subscript a b pos) (tOp r ta tb):=by
 intro pins s σ H Q I h
 exact Subscript_ (binT ha hb I h fun v u s2 x y H2 I2 rx ry q=>hr a b pins s2 σ H2 x y v u Q I2 rx ry q (hs _ _))
def rIxL (K:PySem.W.Frag):R2:=fun x y H Q=>∃ p xs i v,x=.ref p∧y=.int i∧SqL K H p xs∧atI xs i=some v∧Q v H
def rIxT (K:PySem.W.Frag):R2:=fun x y H Q=>∃ p xs i v,x=.ref p∧y=.int i∧SqT K H p xs∧atI xs i=some v∧Q v H
theorem ix_list:IxR X (rIxL X.K):=by
 intro value slice pins s σ H x y v u Q I rx ry h hs
 obtain ⟨p,xs,i,z,rfl,rfl,hq,he,q⟩:=h
 cases rx
 obtain ⟨t,rfl⟩:=ry
 obtain ⟨its,r,pl,hz⟩:=I.list hq
 obtain ⟨j,h1,h2,h3,h4,h5⟩:=atI_get he
 obtain ⟨w,ew,rw'⟩:=r.get h2
 have hl:=r.length
 have hn:=line63
 have fin:EP X pins σ Q w s:=⟨z,H,I,rw',q⟩
 by_cases h0:0≤i
 ·have hj:i.toNat=j:=by
   rw [seqIndex_of h0 h5] at h1
   exact Option.some.inj h1
  exact item_listR pl.isList h0 (by lia) (by rw [hj];simpa using ew) fin hs
 ·have hj:(i+(its.toArray.size:Int)).toNat=j:=by
   rw [seqIndex_neg (by lia) h4] at h1
   rw [List.size_toArray,←hl]
   exact Option.some.inj h1
  exact subscriptTail_builtinR (x:=w) pl.isList.typeIs slot_list_getitem.lookup
   (wpAny_getItem_list_neg (Q:=fun r s'=>r=w∧EP X pins σ Q r s') pl.isList (by lia) (by rw [List.size_toArray] <;> lia) (by lia) (by rw [hj];simpa using ew) ⟨rfl,fin⟩) hs
theorem ix_tup:IxR X (rIxT X.K):=by
 intro value slice pins s σ H x y v u Q I rx ry h hs
 obtain ⟨p,xs,i,z,rfl,rfl,hq,he,q⟩:=h
 cases rx
 obtain ⟨t,rfl⟩:=ry
 obtain ⟨its,r,pl,hz⟩:=I.tuple hq
 obtain ⟨j,h1,h2,h3,h4,h5⟩:=atI_get he
 obtain ⟨w,ew,rw'⟩:=r.get h2
 have hl:=r.length
 have hn:=line63
 have fin:EP X pins σ Q w s:=⟨z,H,I,rw',q⟩
 exact subscriptTail_builtinR (x:=w) pl.typeIs slot_tuple_getitem.lookup
  (getItem_tuple (j:=j) (Q:=fun r s'=>r=w∧EP X pins σ Q r s') pl (by lia) (by lia) (by rw [List.size_toArray,←hl];exact h1) (by simpa using ew) ⟨rfl,fin⟩) hs
theorem mapSeq_set (its:List Value) (n j:Nat) (u:Value):Obj.mapSeq (·.setIfInBounds j u) { cls:=.type "list",data:=.seq its.toArray n }={ cls:=.type "list",data:=.seq (its.set j u).toArray n }:=by
 simp [Obj.mapSeq]
theorem Inv.lst {pins:List (Addr × Obj)} {σ:St} {H:Hp} {s:Shared} {p:Addr} {xs:List V} (I:Inv X pins σ H s) (h:H p=some (.lst xs)) :
  ∃ (its:List Value) (n:Nat),Vals xs its∧s.heap.get? p=some { cls:=.type "list",data:=.seq its.toArray n }∧xs.length≤sizeLine:=by
 obtain ⟨z,its,n,r,e⟩:=I.hok p _ h
 exact ⟨its,n,r,e,z⟩
theorem Inv.lstUpd {pins:List (Addr × Obj)} {σ:St} {H:Hp} {s:Shared} {p:Addr} {xs ys:List V} {its its':List Value} {n n':Nat} {f:Obj→Obj} (I:Inv X pins σ H s) (h:H p=some (.lst xs))
  (ho:s.heap.get? p=some { cls:=.type "list",data:=.seq its.toArray n }) (hf:f { cls:=.type "list",data:=.seq its.toArray n }={ cls:=.type "list",data:=.seq its'.toArray n' }) (r:Vals ys its') (hz:ys.length≤sizeLine) (t:Nat) :
  Inv X pins σ (upd H p (.lst ys)) { s with heap:=s.heap.update p f,toks:=t }:=by
 have e:(s.heap.update p f).get? p=some { cls:=.type "list",data:=.seq its'.toArray n' }:=by
  rw [Heap.get?_update_self f ho (by rw [hf] <;> rfl),hf]
 refine I.write (x:=p) (e:=p) (by rw [h];trivial) (.inl rfl) (fun b u hb q=>(Heap.get?_update_other _ _ (Ne.symm hb)).trans q) ⟨_,e⟩ ?_
 exact ⟨hz,its',n',r,e⟩
def rSetL:V→V→V→Hp→(Hp→Prop)→Prop:=fun o i v H Q=>∃ p xs k j,o=.ref p∧i=.int k∧H p=some (.lst xs)∧ixN xs.length k=some j∧Q (upd H p (.lst (xs.set j v)))
theorem set_list:PSet X rSetL:=by
 intro pins s σ H o i v ov iv u Q I ro ri rv h
 obtain ⟨p,xs,k,j,rfl,rfl,hp,hj,q⟩:=h
 cases ro
 obtain ⟨t,rfl⟩:=ri
 obtain ⟨its,n,r,ho,hz⟩:=I.lst hp
 obtain ⟨h1,h2,h3,h4⟩:=ixN_seq hj
 have hl:=r.length
 have hn:=line63
 have I':Inv X pins σ (upd H p (.lst (xs.set j v))) { s with heap:=s.heap.update p (Obj.mapSeq (·.setIfInBounds j u)) } :=
  I.lstUpd hp ho (mapSeq_set its n j u) (r.set rv j) (by rw [List.length_set];exact hz) s.toks
 by_cases h0:0≤k
 ·have hk:k.toNat=j:=by
   rw [seqIndex_of h0 h4] at h1
   exact Option.some.inj h1
  exact PySem.W.ki_setAt ho h0 (by lia) (by rw [List.size_toArray,←hl];exact h4) (by rw [hk];exact ⟨_,I',q⟩)
 ·have hk:(k+(its.toArray.size:Int)).toNat=j:=by
   rw [seqIndex_neg (by lia) h3] at h1
   rw [List.size_toArray,←hl]
   exact Option.some.inj h1
  exact PySem.W.ki_setBack ho (by lia) (by rw [List.size_toArray,←hl];exact h3) (by lia) (by rw [hk];exact ⟨_,I',q⟩)
theorem slice_bounds (lo hi:Option Int) (n:Nat):(sliceBounds lo hi none n).1=((HT.sIx n 0 lo:Nat):Int)∧(sliceBounds lo hi none n).2.1=((HT.sIx n n hi:Nat):Int)∧(sliceBounds lo hi none n).2.2=1:=by
 refine ⟨?_,?_,rfl⟩
 ·cases lo with
  | none=>simp [sliceBounds,HT.sIx]
  | some i =>
   simp only [sliceBounds,HT.sIx,Option.getD_none,show (1:Int) > 0 by decide,if_true]
   by_cases h:i<0
   ·simp only [h,if_true] <;> lia
   ·simp only [h,if_false] <;> lia
 ·cases hi with
  | none=>simp [sliceBounds,HT.sIx]
  | some i =>
   simp only [sliceBounds,HT.sIx,Option.getD_none,show (1:Int) > 0 by decide,if_true]
   by_cases h:i<0
   ·simp only [h,if_true] <;> lia
   ·simp only [h,if_false] <;> lia
theorem slicePick_cut (its:List Value) (lo hi:Option Int):slicePick its.toArray lo hi none=((its.drop (HT.sIx its.length 0 lo)).take (HT.sIx its.length its.length hi - HT.sIx its.length 0 lo)).toArray:=by
 obtain ⟨h1,h2,h3⟩:=slice_bounds lo hi its.toArray.size
 unfold slicePick
 rw [h1,h2,h3]
 simp only [sliceRange_one,pick_run,List.size_toArray] <;> rfl
def rSlL (K:PySem.W.Frag):V→Option Int→Option Int→Hp→VK→Prop:=fun x lo hi H Q=>∃ a xs,x=.ref a∧SqL K H a xs∧∀ p,H p=none→Q (.ref p) (upd H p (.lst (cutV xs lo hi)))
theorem sl_list:SlR X (rSlL X.K):=by
 intro pins s σ H x v vl vu lo hi sl Q I rx hs pl pu h
 obtain ⟨a,xs,rfl,hx,q⟩:=h
 cases rx
 obtain ⟨its,r,ht,hz⟩:=I.list hx
 have hlen:=r.length
 refine ⟨"list",_,slot_list_getitem.lookup,ht.isList.typeIs,?_⟩
 refine wpAny_getItem_list_slice ht.isList hs pl pu .none (by simp) ?_ (by rw [List.size_toArray] <;> lia)
 rw [slicePick_cut,←hlen]
 refine ⟨.ref s.heap.objs.size,_,I.laid (t':=s.toks) (o:=.lst (cutV xs lo hi)) (fun b ob q=>Heap.get?_push_of_some _ q) (Nat.le_refl _) ?_,rfl,q _ (I.hok.fresh (Nat.le_refl _))⟩
 exact ⟨Nat.le_trans (cutV_length xs lo hi) hz,_,0,(r.drop (HT.sIx xs.length 0 lo)).take (HT.sIx xs.length xs.length hi - HT.sIx xs.length 0 lo),Heap.get?_push_size _ rfl⟩
def flatV:V→Bool
 | .non=>true
 | .bl _=>true
 | .int _=>true
 | .str _=>true
 | _=>false
def eqV:V→V→Bool
 | .non,.non=>true
 | .bl a,.bl b=>a == b
 | .bl a,.int b=>(if a then 1 else 0) == b
 | .int a,.bl b=>a == (if b then 1 else 0)
 | .int a,.int b=>a == b
 | .str a,.str b=>a == b
 | _,_=>false
theorem eqAt_V {A:Around} {s:Shared} {y x:V} {u v:Value} (ry:RelV y u) (rx:RelV x v) (fy:flatV y=true) (fx:flatV x=true):SeqAt.EqAt A s u v (eqV y x):=by
 cases y with
 | non =>
  cases ry
  cases x with
  | non=>cases rx;exact SeqAt.EqAt.same _
  | bl b=>cases rx;exact SeqAt.EqAt.none_bool b
  | int b=>obtain ⟨t,rfl⟩:=rx;exact SeqAt.EqAt.none_int b t
  | str b=>obtain ⟨t,rfl⟩:=rx;exact SeqAt.EqAt.none_str b t
  | _=>exact absurd (show false=true from fx) Bool.false_ne_true
 | bl a =>
  cases ry
  cases x with
  | non=>cases rx;exact SeqAt.EqAt.bool_none a
  | bl b=>cases rx;exact SeqAt.EqAt.bool_bool a b
  | int b=>obtain ⟨t,rfl⟩:=rx;exact SeqAt.EqAt.bool_int a b t
  | str b=>obtain ⟨t,rfl⟩:=rx;exact SeqAt.EqAt.bool_str a b t
  | _=>exact absurd (show false=true from fx) Bool.false_ne_true
 | int a =>
  obtain ⟨t',rfl⟩:=ry
  cases x with
  | non=>cases rx;exact SeqAt.EqAt.int_none a t'
  | bl b=>cases rx;exact SeqAt.EqAt.int_bool a t' b
  | int b=>obtain ⟨t,rfl⟩:=rx;exact SeqAt.EqAt.int_int a t' b t
  | str b=>obtain ⟨t,rfl⟩:=rx;exact SeqAt.EqAt.int_str a t' b t
  | _=>exact absurd (show false=true from fx) Bool.false_ne_true
 | str a =>
  obtain ⟨t',rfl⟩:=ry
  cases x with
  | non=>cases rx;exact SeqAt.EqAt.str_none a t'
  | bl b=>cases rx;exact SeqAt.EqAt.str_bool a t' b
  | int b=>obtain ⟨t,rfl⟩:=rx;exact SeqAt.EqAt.str_int a t' b t
  | str b=>obtain ⟨t,rfl⟩:=rx;exact SeqAt.EqAt.str_str a t' b t
  | _=>exact absurd (show false=true from fx) Bool.false_ne_true
 | _=>exact absurd (show false=true from fy) Bool.false_ne_true
def eqU (x:V) (u:Value):Bool:=match u with
 | .none=>eqV .non x
 | .bool b=>eqV (.bl b) x
 | .int i _=>eqV (.int i) x
 | .str z _=>eqV (.str z) x
 | _=>false
theorem eqU_of {x y:V} {u:Value} (r:RelV y u) (f:flatV y=true):eqU x u=eqV y x:=by
 cases y with
 | non=>cases r;rfl
 | bl b=>cases r;rfl
 | int i=>obtain ⟨t,rfl⟩:=r;rfl
 | str z=>obtain ⟨t,rfl⟩:=r;rfl
 | _=>exact absurd (show false=true from f) Bool.false_ne_true
theorem any_eqU {x:V}:∀ {xs:List V} {us:List Value},Vals xs us→xs.all flatV=true→us.any (eqU x)=xs.any fun y=>eqV y x
 | _,_,.nil,_=>rfl
 | y::xs,u::us,.cons r t,f=>by
  rw [List.all_cons,Bool.and_eq_true] at f
  rw [List.any_cons,List.any_cons,eqU_of r f.1,any_eqU t f.2]
theorem mem_eqAt {A:Around} {s:Shared} {x:V} {v:Value} (rx:RelV x v) (fx:flatV x=true):∀ {xs:List V} {us:List Value},Vals xs us→xs.all flatV=true→∀ u∈us,SeqAt.EqAt A s u v (eqU x u)
 | _,_,.nil,_=>fun u hu=>by cases hu
 | y::xs,u::us,.cons r t,f=>fun u' hu=>by
  rw [List.all_cons,Bool.and_eq_true] at f
  rcases List.mem_cons.mp hu with rfl | hu
  ·rw [eqU_of r f.1];exact eqAt_V r rx f.1 fx
  ·exact mem_eqAt rx fx t f.2 u' hu
def inV (x:V) (xs:List V):Bool:=xs.any fun y=>eqV y x
def rIn (K:PySem.W.Frag) (neg:Bool):R2:=fun x y H Q=>∃ p xs,y=.ref p∧(SqL K H p xs∨SqT K H p xs)∧flatV x=true∧xs.all flatV=true∧Q (.bl (if neg then !inV x xs else inV x xs)) H
theorem op_in_seq:OpR X (compareOp .In) (rIn X.K false):=by
 intro pins s σ H x y v u Q I rx ry h
 obtain ⟨p,xs,rfl,hq,fx,fs,q⟩:=h
 cases ry
 rcases hq with hq | hq
 ·obtain ⟨its,r,pl,hz⟩:=I.list hq
  refine SeqAt.in_listAt (eqU x) pl.isList (fun w hw=>mem_eqAt rx fx r fs w (by simpa using hw)) ⟨.bl _,H,I,rfl,?_⟩
  rw [show its.toArray.any (eqU x)=its.any (eqU x) by simp,any_eqU r fs]
  exact q
 ·obtain ⟨its,r,pl,hz⟩:=I.tuple hq
  refine SeqAt.in_tupleAt (eqU x) pl (fun w hw=>mem_eqAt rx fx r fs w (by simpa using hw)) ⟨.bl _,H,I,rfl,?_⟩
  rw [show its.toArray.any (eqU x)=its.any (eqU x) by simp,any_eqU r fs]
  exact q
theorem call_len_seq:CallR X (.builtin "len") (fun xs H Q=>∃ p ys,xs=[.ref p]∧(SqL X.K H p ys∨SqT X.K H p ys)∧Q (.int ys.length) H):=by
 intro pins s σ H xs us Q I r h
 obtain ⟨p,ys,rfl,hq,q⟩:=h
 obtain ⟨u,rfl,rx⟩:=vals1 r
 cases rx
 have hn:=line63
 rcases hq with hq | hq
 ·obtain ⟨its,r',pl,hz⟩:=I.list hq
  have hlen:=r'.length
  exact Calls.call_len_list pl.isList (by simp only [List.size_toArray] <;> lia) ⟨.int ys.length,H,I.tok _,⟨s.toks+1,by rw [List.size_toArray,hlen]⟩,q⟩
 ·obtain ⟨its,r',pl,hz⟩:=I.tuple hq
  have hlen:=r'.length
  exact len_tuple pl (by simp only [List.size_toArray] <;> lia) ⟨.int ys.length,H,I.tok _,⟨s.toks+1,by rw [List.size_toArray,hlen]⟩,q⟩
theorem call_list_of:CallR X (.type "list") (fun xs H Q=>∃ p ys,xs=[.ref p]∧(SqL X.K H p ys∨SqT X.K H p ys)∧∀ l,H l=none→Q (.ref l) (upd H l (.lst ys))):=by
 intro pins s σ H xs us Q I r h
 obtain ⟨p,ys,rfl,hq,q⟩:=h
 obtain ⟨u,rfl,rx⟩:=vals1 r
 cases rx
 have fin:∀ (its:List Value),Vals ys its→ys.length≤sizeLine→∀ (h':Heap) (c':Nat),(∀ b o',s.heap.get? b=some o'→h'.get? b=some o') →
   h'.get? s.heap.objs.size=some { cls:=.type "list",dict:=none,data:=.seq its.toArray c',slots:=#[] }→EP X pins σ Q (.ref s.heap.objs.size) { s with heap:=h' }:=fun its r' hz h' c' kp e =>
  ⟨.ref s.heap.objs.size,_,I.laid (t':=s.toks) kp (Nat.le_refl _) (show ObjOk X.prog X.w _ h' _ (.lst ys) from ⟨hz,its,c',r',e⟩),rfl,q _ (I.hok.fresh (Nat.le_refl _))⟩
 rcases hq with hq | hq
 ·obtain ⟨its,r',pl,hz⟩:=I.list hq
  have hlen:=r'.length
  obtain ⟨o,ho,hc,n,hd⟩:=pl.isList
  exact call_list_seq p (.inl rfl) ho hc hd (fun h' c' kp e=>fin its r' hz h' c' kp e) (by simp only [List.size_toArray] <;> lia)
 ·obtain ⟨its,r',pl,hz⟩:=I.tuple hq
  have hlen:=r'.length
  obtain ⟨o,ho,hc,n,hd⟩:=pl
  exact call_list_seq p (.inr rfl) ho hc hd (fun h' c' kp e=>fin its r' hz h' c' kp e) (by simp only [List.size_toArray] <;> lia)
theorem call_tuple_of:CallR X (.type "tuple") (fun xs H Q=>∃ p ys,xs=[.ref p]∧((SqL X.K H p ys∧∀ l,H l=none→Q (.ref l) (upd H l (.tup ys)))∨(SqT X.K H p ys∧Q (.ref p) H))):=by
 intro pins s σ H xs us Q I r h
 obtain ⟨p,ys,rfl,h⟩:=h
 obtain ⟨u,rfl,rx⟩:=vals1 r
 cases rx
 rcases h with ⟨hq,q⟩ | ⟨hq,q⟩
 ·obtain ⟨its,r',pl,hz⟩:=I.list hq
  have hlen:=r'.length
  refine call_tuple_list pl.isList (fun h' kp=>?_) (by simp only [List.size_toArray] <;> lia)
  have I1:Inv X pins σ H { s with heap:=h' }:=I.kept (t':=s.toks) kp
  have I2:Inv X pins σ (upd H h'.objs.size (.tup ys)) { s with heap:=h'.push { cls:=.type "tuple",data:=.seq its.toArray } } :=
   I1.laid (t':=s.toks) (fun b o e=>Heap.get?_push_of_some _ e) (Nat.le_refl _) (show ObjOk X.prog X.w _ _ _ (.tup ys) from ⟨hz,its,r',IsTup.new _ _⟩)
  exact ⟨.ref h'.objs.size,_,I2,rfl,q _ (I1.hok.fresh (Nat.le_refl _))⟩
 ·obtain ⟨its,r',pl,hz⟩:=I.tuple hq
  exact call_tuple_same pl ⟨.ref p,H,I,rfl,q⟩
def tyV (K:PySem.W.Frag) (T:String) (x:V) (H:Hp):Prop:=match x with
 | .str _=>T="str"
 | .int _=>T="int"
 | .ref p=>(T="list"∧∃ xs,SqL K H p xs)∨(T="tuple"∧∃ o,K.lookup p=some o∧o.cls=.type "tuple"∧o.dict=none) ∨
   (T="dict"∧((∃ kvs,H p=some (.dK kvs))∨∃ kvs,H p=some (.dT kvs)))∨(T="set"∧∃ S n,H p=some (.set S n))
 | _=>False
theorem tyV_is {pins:List (Addr × Obj)} {σ:St} {H:Hp} {s:Shared} {T:String} {x:V} {v:Value} (I:Inv X pins σ H s) (r:RelV x v) (ty:tyV X.K T x H) :
  s.TypeIs v T∧∀ a,v=.ref a→∃ ob,s.heap.get? a=some ob∧ob.dict=none:=by
 cases x with
 | str z =>
  obtain ⟨t,rfl⟩:=r
  cases (show T="str" from ty)
  exact ⟨typeIs_str s z t,fun _ e=>nomatch e⟩
 | int i =>
  obtain ⟨t,rfl⟩:=r
  cases (show T="int" from ty)
  exact ⟨typeIs_int s i t,fun _ e=>nomatch e⟩
 | ref p =>
  cases r
  rcases ty with ⟨rfl,xs,hq⟩ | ⟨rfl,o,hk,hc,hd⟩ | ⟨rfl,hk⟩ | ⟨rfl,S,n,hk⟩
  ·obtain ⟨its,_,pl,_⟩:=I.list hq
   refine ⟨pl.isList.typeIs,fun a e=>?_⟩
   cases e
   obtain ⟨o,n,e,c,hd,_⟩:=pl
   exact ⟨o,e,hd⟩
  ·refine ⟨⟨o,I.kIn p o hk,hc⟩,fun a e=>?_⟩
   cases e
   exact ⟨o,I.kIn _ o hk,hd⟩
  ·have z:∃ o,s.heap.get? p=some o∧o.ExactDict:=by
    rcases hk with ⟨kvs,hk⟩ | ⟨kvs,hk⟩
    ·obtain ⟨_,_,_,_,o,_,_,e,ex,_⟩:=I.hok p _ hk
     exact ⟨o,e,ex⟩
    ·obtain ⟨_,_,_,_,o,_,_,e,ex,_⟩:=I.hok p _ hk
     exact ⟨o,e,ex⟩
   obtain ⟨o,e,ex⟩:=z
   refine ⟨⟨o,e,ex.1⟩,fun a e2=>?_⟩
   cases e2
   exact ⟨o,e,ex.2.1⟩
  ·obtain ⟨o,_,_,_,e,ex,_⟩:=I.hok p _ hk
   refine ⟨⟨o,e,ex.1⟩,fun a e2=>?_⟩
   cases e2
   exact ⟨o,e,ex.2.1⟩
 | _=>exact False.elim ty
def tBM0 (K:PySem.W.Frag) (T:String) (r:V→List V→Hp→VK→Prop) (to:TE):TE:=fun σ H Q=>to σ H fun x H1=>tyV K T x H1∧r x [] H1 Q
def tBM (K:PySem.W.Frag) (T:String) (r:V→List V→Hp→VK→Prop) (to:TE) (t:TA):TE:=fun σ H Q=>to σ H fun x H1=>tyV K T x H1∧t σ H1 fun xs H2=>r x xs H2 Q
variable {o e:Expr} {es:List Expr} {to:TE} {t:TA} {name:Str} {apos cpos:Pos} {T id:String} {r:V→List V→Hp→VK→Prop}
theorem pe_bm0 (pa:PlainAttrs T) (slot:Slot T name id) (hty:typeOf (.builtin id)=pure (.type "method_descriptor")) (hm:MtR X id r) (ho:PE X o to)
  (hbase:attributeBase o name X.env (eval o X.env)=eval o X.env:=by rfl) (hline:(apos.endLine == cpos.line)=true:=by rfl):PE X (.Call (.Attribute o name apos) [] [] cpos) (tBM0 X.K T r to):=by
 intro pins s σ H Q I h
 refine wpAny_Call_method0_late hbase hline (thn (ho pins s σ H _ I h) fun v s1 ⟨x,H1,I1,r1,ty,q1⟩=>?_)
 obtain ⟨h1,h2⟩:=tyV_is I1 r1 ty
 exact ⟨T,id,pa,slot,hty,h1,h2,Calls.callWith_builtin rfl (PySem.evalArgs_none (hm pins s1 σ H1 x [] v [] Q I1 r1 .nil q1))⟩
theorem pe_bm (pa:PlainAttrs T) (slot:Slot T name id) (hty:typeOf (.builtin id)=pure (.type "method_descriptor")) (hm:MtR X id r) (ho:PE X o to) (ha:PA X (e::es) t)
  (hbase:attributeBase o name X.env (eval o X.env)=eval o X.env:=by rfl)
  (hfew:((backTo cpos (starEach (e::es) X.env)).all (fun x=>!x.1) && (backToKw cpos (keywordEach [] X.env)).all (fun x=>x.1.isSome)
   && decide ((e::es).length+([]:List Keyword).length+(if ([]:List Keyword).isEmpty then 0 else 1)<30))=true:=by rfl)
  (hline:(apos.endLine == cpos.line)=true:=by rfl) (hs:starEach (e::es) X.env=(false,eval e X.env)::starEach es X.env:=by rfl) (hplain:(backTo cpos (starEach es X.env)).any (·.1)=false:=by rfl) :
  PE X (.Call (.Attribute o name apos) (e::es) [] cpos) (tBM X.K T r to t):=by
 intro pins s σ H Q I h
 refine wpAny_Call_method_late hbase hfew hline rfl (thn (ho pins s σ H _ I h) fun v s1 ⟨x,H1,I1,r1,ty,q1⟩=>?_)
 obtain ⟨h1,h2⟩:=tyV_is I1 r1 ty
 refine ⟨T,id,pa,slot,hty,h1,h2,?_⟩
 have hA:=ha cpos pins s1 σ H1 _ I1 q1
 rw [hs] at hA ⊢
 refine Calls.callWith_builtin (by show (false || (backTo cpos (starEach es X.env)).any (·.1))=false;rw [hplain] <;> rfl) (Calls.evalArgs_plain ?_)
 exact thn hA fun us s2 ⟨vs,H2,I2,r2,q2⟩=>hm pins s2 σ H2 x vs v us Q I2 r1 r2 q2
end
end L2
namespace L2
open PySem PySem.Spec PyProof.Rows
def MtM (X:Cx) (id:String) (r:V→List V→Hp→VK→Prop):Prop :=
 ∀ (pins:List (Addr × Obj)) (s:Shared) (σ:St) (H:Hp) (x:V) (xs:List V) (v:Value) (us:List Value) (Q:VK),Inv X pins σ H s→RelV x v→Vals xs us→r x xs H Q →
  wpAny (model X.prog X.w) X.A (call (.builtin id) (v::us)) (EP X pins σ Q) X.xe s
theorem Vals.one:∀ {x:V} {us:List Value},Vals [x] us→∃ u,us=[u]∧RelV x u
 | _,_,.cons r .nil=>⟨_,rfl,r⟩
theorem Vals.two:∀ {x y:V} {us:List Value},Vals [x,y] us→∃ u v,us=[u,v]∧RelV x u∧RelV y v
 | _,_,_,.cons r (.cons q .nil)=>⟨_,_,rfl,r,q⟩
theorem Vals.zero:∀ {us:List Value},Vals [] us→us=[]
 | _,.nil=>rfl
theorem Vals.reverse {xs:List V} {us:List Value} (h:Vals xs us):Vals xs.reverse us.reverse:=by
 induction h with
 | nil=>exact .nil
 | cons r t ih=>rw [List.reverse_cons,List.reverse_cons];exact Vals.append ih (.cons r .nil)
theorem Vals.rep {xs:List V} {us:List Value} (h:Vals xs us):∀ k:Nat,Vals (List.replicate k xs).flatten (List.replicate k us).flatten
 | 0=>.nil
 | k+1=>by
  rw [List.replicate_succ,List.replicate_succ,List.flatten_cons,List.flatten_cons]
  exact Vals.append h (Vals.rep h k)
theorem foldl_rep (its:List Value):∀ (k:Nat) (acc:List Value),
  List.foldl (fun x1 x2=>x1++x2) acc.toArray (List.replicate k its.toArray)=(acc++(List.replicate k its).flatten).toArray
 | 0,acc=>by simp
 | k+1,acc=>by
  have e:acc.toArray++its.toArray=(acc++its).toArray:=by simp
  have e2:(acc++its)++(List.replicate k its).flatten=acc++(List.replicate (k+1) its).flatten:=by
   rw [List.replicate_succ,List.flatten_cons,List.append_assoc]
  rw [←e2,←foldl_rep its k (acc++its),←e,List.replicate_succ,List.foldl_cons]
section
variable {X:Cx} {pins:List (Addr × Obj)} {σ:St} {H:Hp} {s:Shared} {l b:Addr} {xs ys zs:List V}
theorem Inv.lset {its its':List Value} {n:Nat} {f:Array Value→Array Value} {t':Nat} (I:Inv X pins σ H s) (hH:H l=some (.lst xs))
  (e:s.heap.get? l=some { cls:=.type "list",data:=.seq its.toArray n }) (hf:f its.toArray=its'.toArray) (hv:Vals ys its') (hz:ys.length≤sizeLine) :
  Inv X pins σ (upd H l (.lst ys)) { s with heap:=s.heap.update l (Obj.mapSeq f),toks:=t' }:=by
 have q:=PySem.IsL.update e f
 rw [hf] at q
 refine I.write (x:=l) (e:=l) (by rw [hH];exact trivial) (.inl rfl) (fun b' u hb hu=>(Heap.get?_update_other s.heap (Obj.mapSeq f) (Ne.symm hb)).trans hu) ⟨_,q⟩ ?_
 exact ⟨hz,its',_,hv,q⟩
theorem Inv.lnew {its:List Value} {t':Nat} (I:Inv X pins σ H s) (hv:Vals ys its) (hz:ys.length≤sizeLine) :
  Inv X pins σ (upd H s.heap.objs.size (.lst ys)) { s with heap:=s.heap.push { cls:=.type "list",data:=.seq its.toArray },toks:=t' } :=
 I.laid (fun _ _ q=>Heap.get?_push_of_some _ q) (Nat.le_refl _) ⟨hz,its,0,hv,Heap.get?_push_size _ rfl⟩
theorem Inv.fresh (I:Inv X pins σ H s):H s.heap.objs.size=none:=I.hok.fresh (Nat.le_refl _)
theorem Inv.lstM (I:Inv X pins σ H s) (hH:H l=some (.lst xs)):xs.length≤sizeLine∧∃ (its:List Value) (n:Nat),Vals xs its∧xs.length=its.length∧s.heap.get? l=some { cls:=.type "list",data:=.seq its.toArray n }:=by
 obtain ⟨z,its,n,r,e⟩:=I.hok l _ hH
 exact ⟨z,its,n,r,r.length,e⟩
theorem notLongL {n:Nat} (h:n≤sizeLine):Builtin.List.listTooLong n=false:=by
 unfold Builtin.List.listTooLong
 exact decide_eq_false (by lia)
end
section
variable {X:Cx}
def rAppend:V→List V→Hp→VK→Prop:=fun x vs H Q=>∃ l xs y,x=.ref l∧vs=[y]∧H l=some (.lst xs)∧xs.length<sizeLine∧Q .non (upd H l (.lst (xs++[y])))
theorem mt_append:MtM X "list.append" rAppend:=by
 intro pins s σ H x vs v us Q I rx rv h
 obtain ⟨l,xs,y,rfl,rfl,hH,hz,q⟩:=h
 cases rx
 obtain ⟨u,rfl,ru⟩:=rv.one
 obtain ⟨z,its,n,r,hl,e⟩:=I.lstM hH
 refine call_meets F.slot_list_append ⟨_,e,rfl⟩ F.entry_list_append (F.args_list_append_2 _ _) (PySem.list_append l its.toArray n u (by rw [List.size_toArray];lia)) ⟨e,?_⟩
 refine ⟨.non,_,I.lset (its':=its++[u]) hH e (by simp) (r.append (.cons ru .nil)) ?_,rfl,q⟩
 rw [List.length_append,List.length_singleton]
 lia
def rClear:V→List V→Hp→VK→Prop:=fun x vs H Q=>∃ l xs,x=.ref l∧vs=[]∧H l=some (.lst xs)∧Q .non (upd H l (.lst []))
theorem mt_clear:MtM X "list.clear" rClear:=by
 intro pins s σ H x vs v us Q I rx rv h
 obtain ⟨l,xs,rfl,rfl,hH,q⟩:=h
 cases rx
 have hus:=rv.zero
 subst hus
 obtain ⟨z,its,n,r,hl,e⟩:=I.lstM hH
 refine call_meets F.slot_list_clear ⟨_,e,rfl⟩ F.entry_list_clear (F.args_list_clear_1 _) (AutoSeq1.list_clear_list_0 l its.toArray n (by rw [List.size_toArray];lia)) ⟨e,?_⟩
 exact ⟨.non,_,I.lset (its':=[]) (ys:=[]) hH e rfl .nil (Nat.zero_le _),rfl,q⟩
def rCat:R2:=fun x y H Q=>∃ l b xs zs,x=.ref l∧y=.ref b∧H l=some (.lst xs)∧H b=some (.lst zs)∧xs.length+zs.length≤sizeLine∧∀ p,H p=none→Q (.ref p) (upd H p (.lst (xs++zs)))
theorem op_cat:OpR X (binaryOp .Add) rCat:=by
 intro pins s σ H x y v u Q I rx ry h
 obtain ⟨l,b,xs,zs,rfl,rfl,hH,hB,hz,q⟩:=h
 cases rx
 cases ry
 obtain ⟨z,its,n,r,hl,e⟩:=I.lstM hH
 obtain ⟨z2,its2,n2,r2,hl2,e2⟩:=I.lstM hB
 refine PySem.P.add_list e e2 ?_ (by rw [List.size_toArray,List.size_toArray];lia)
 have ea:its.toArray++its2.toArray=(its++its2).toArray:=by simp
 rw [ea]
 exact ⟨.ref _,_,I.lnew (t':=s.toks) (r.append r2) (by rw [List.length_append];lia),rfl,q _ I.fresh⟩
def rRep:R2:=fun x y H Q=>∃ l k xs,x=.ref l∧y=.int k∧H l=some (.lst xs)∧-(2^63)≤k∧k<2^63∧xs.length*k.toNat≤sizeLine ∧
 ∀ p,H p=none→Q (.ref p) (upd H p (.lst (List.replicate k.toNat xs).flatten))
theorem len_rep {α:Type} (xs:List α) (k:Nat):(List.replicate k xs).flatten.length=k*xs.length:=by
 induction k with
 | zero=>simp
 | succ k ih=>rw [List.replicate_succ,List.flatten_cons,List.length_append,ih,Nat.succ_mul,Nat.add_comm]
theorem op_rep:OpR X (binaryOp .Mult) rRep:=by
 intro pins s σ H x y v u Q I rx ry h
 obtain ⟨l,k,xs,rfl,rfl,hH,h1,h2,hz,q⟩:=h
 cases rx
 obtain ⟨t,rfl⟩:=ry
 obtain ⟨z,its,n,r,hl,e⟩:=I.lstM hH
 have hlen:its.toArray.size*k.toNat≤sizeLine:=by rw [List.size_toArray,←hl];exact hz
 have hcap:¬ its.toArray.size*k.toNat > (2^63 - 1) / 8:=by
  have:(sizeLine:Nat)≤(2^63 - 1) / 8:=by decide
  lia
 have hfit:¬ (!Builtin.List.listFitsIndex k)=true:=by
  rw [fitsIndex_both h1 h2]
  exact Bool.false_ne_true
 have hlong:¬ Builtin.List.listTooLong (its.toArray.size*k.toNat)=true:=by
  rw [notLongL hlen]
  exact Bool.false_ne_true
 have hnew:List.foldl (fun x1 x2=>x1++x2) #[] (List.replicate (if its.toArray.isEmpty=true then 0 else k.toNat) its.toArray)=(List.replicate k.toNat its).flatten.toArray:=by
  have f0:∀ m:Nat,List.foldl (fun x1 x2=>x1++x2) #[] (List.replicate m its.toArray)=(List.replicate m its).flatten.toArray:=fun m=>by
   have:=foldl_rep its m []
   rw [List.nil_append] at this
   exact this
  rw [f0]
  cases its with
  | nil=>simp
  | cons a r'=>rw [if_neg (by simp)]
 refine wpAny_binaryOp_repeat_ref (T:="list") (U:="int") (by decide) ⟨_,e,rfl⟩ (fun s'=>typeIs_int s' k t) noFill_list_mul F.fills_int_mul F.slot_int_rmul repeat_list F.slot_int_index.lookup
  (call_meets F.slot_int_rmul (typeIs_int s k t) F.entry_int_rmul (F.args_int_rmul_2 _ _) (int___rmul___int_list k t l its.toArray n)
   ⟨e,rfl,⟨_,e,rfl⟩,call_meets F.slot_list_mul ⟨_,e,rfl⟩ F.entry_list_mul (F.args_list_mul_2 _ _) (AutoListH.list___mul___list_int_3 l its.toArray n k t hfit hcap hlong) ⟨e,?_⟩⟩)
 rw [hnew]
 exact ⟨.ref _,_,I.lnew (t':=s.toks) (r.rep k.toNat) (by rw [len_rep,Nat.mul_comm];exact hz),rfl,q _ I.fresh⟩
end
section
variable {prog:Program} {w:World} {A:Around} {E:Value→Shared→Prop} {s:Shared}
end
section
variable {X:Cx}
end
end L2
namespace Att
open PySem PySem.W PySem.Calls PyProof.Rows
theorem ints_of_wellAll {P:Params} {h:Heap}:∀ (ns:List Int) (vs:List Value),WellAll P h vs (ns.map WData.int)→IntsAre vs ns:=by
 intro ns
 induction ns with
 | nil =>
  intro vs w
  rw [List.map_nil] at w
  cases w
  exact .nil
 | cons n ns ih =>
  intro vs w
  rw [List.map_cons] at w
  cases w with
  | cons a b =>
   cases a
   exact .cons _ _ (ih _ b)
theorem script_of {l:OpenLaw} {n:Nat} (hn:l.most=some n) {P:Params} {h:Heap} {args:List WData} {vals:List Value}
  (hpre:l.row.toRowW.claim.pre args=true) (hwl:WellAll P h vals args) :
  ∃ a vs ns,vals=[Value.ref a]∧args=[WData.list (ns.map WData.int)]∧h.get? a=some { cls:=.type "list",data:=.seq vs.toArray }∧IntsAre vs ns∧ns.length≤n:=by
 have hsh:WShape.hasAll [] args [.list .int]=true:=(pre_splitW hpre).1
 have hc:l.pre.holds [] { args:=args }=true:=(pre_splitW hpre).2
 obtain ⟨d,r,rfl,h1,h2⟩:=hasAllW_cons hsh
 obtain rfl:=hasAllW_nil h2
 obtain ⟨xs,rfl,h3⟩:=hasW_list h1
 obtain ⟨ns,rfl⟩:=items_int h3
 have hlen:ns.length≤n:=by
  unfold OpenLaw.pre at hc
  have h4:(WTm.not (.lt (.lit (.int (n:Int))) (.len (.arg 0)))).holds [] { args:=[.list (ns.map .int)] }=true:=by
   have h4:=(holds_andW hc).1
   rw [hn] at h4
   exact h4
  have h5:=condW_of h4 (w_not (w_lt w_lit (w_len_list (w_arg rfl))))
  rw [List.length_map] at h5
  refine Nat.le_of_not_lt fun q=>?_
  have q':(n:Int)<((ns.length:Nat):Int):=by lia
  first
   | (rw [decide_eq_true q'] at h5;exact absurd h5 (by decide))
   | (simp at h5;lia)
 cases hwl with
 | cons w1 w2 =>
  cases w2
  cases w1 with
  | list ho hall=>exact ⟨_,_,ns,rfl,rfl,ho,ints_of_wellAll ns _ hall,hlen⟩
theorem post_true (l:OpenLaw) (args:List WData):l.row.toRowW.claim.post args (.bool true) args=true :=
 postW_of (r:=l.row.toRowW) (X:=(true == true))
  (show WShape.has [] (.bool true) .bool=true by first | rfl | decide | simp [WShape.has,WShape.arms,WShape.armsAll])
  (show (WTm.eq .res (.lit (.bool true))).value [] { args:=args,res:=some (.bool true),after:=args }=some (.bool (true == true)) from w_eq_bool (w_res rfl) w_lit) rfl
theorem attach_call {l:OpenLaw} {n:Nat} {q:Program} {loose:List Str} {XP:(Str→Option Value)→Heap→Prop} {YP:World→Heap→Prop} {d:DefRec}
  (hn:l.most=some n) (hdf:d.params.defaults=[])
  (call:∀ (w:World) (s₀ s₁:Shared) (mg mb:Str→Option Value) (fa:Addr) (o:Obj) (pm cd doc:Value) (a:Addr) (vs:List Value) (ns:List Int),
   Ground q loose [] XP w s₀ mg mb s₁.heap→YP w s₁.heap →
   s₁.heap.get? fa=some o→o.data=.func (docDef d.name d.params d.body d.scope pm cd doc)→s₁.heap.CodeRec cd d.name→mg d.name=some (.ref fa) →
   s₁.heap.get? a=some { cls:=.type "list",data:=.seq vs.toArray }→IntsAre vs ns→ns.length≤n→s₁.gens=#[] →
   codeAny (model l.prog w) callerA (.call (.ref fa) ⟨[.ref a],[]⟩) (fun r s'=>r=.ok (.ret (.bool true))∧OldK s₁.heap s'.heap∧s'.os=s₁.os∧AllBare s'.gens) s₁) :
  WalkO q loose XP YP l.row.toRowW d [] (fun f vs=>PySem.call f vs):=by
 intro w s₀ s₁ mg mb G Y fa o pm cd doc dV kV ho hd hcd hD hmg hg args vals as hpre hlay hrd hwl hlo
 obtain rfl:dV=.none:=Dflts.none hD hdf
 obtain rfl:kV=.none:=Dflts.noKw hD
 obtain ⟨a,vs,ns,rfl,rfl,hobj,hints,hlen⟩:=script_of hn hpre hwl
 refine enter_call (codeAny_mono (call w s₀ s₁ mg mb fa o pm cd doc a vs ns G Y ho (fd_plain hd) hcd hmg hobj hints hlen hg) fun r s' hq=>?_)
 obtain ⟨rfl,h2,h3,h4⟩:=hq
 exact ⟨.inl ⟨.bool true,.bool true,[],rfl,fun _=>rfl,.bool true,post_true l _,fun _=>⟨List.Pairwise.nil,fun _ hm=>(nomatch hm)⟩⟩,h2,h3,h4⟩
section
variable {prog:Program} {w:World} {A:Around} {E:Value→Shared→Prop} {s:Shared} {K:Frag}
def ledger (h:Heap) (L d:Addr):List (Addr × Obj):=(List.range h.objs.size).filterMap fun a=>if a=L∨a=d then none else (h.get? a).map fun o=>(a,o)
end
end Att
namespace L2
open PySem PySem.Spec PyProof.Rows
theorem vals_ints:∀ {vs:List Value} {ns:List Int},IntsAre vs ns→Vals (ns.map V.int) vs
 | _,_,.nil=>.nil
 | _,_,.cons n t h=>.cons ⟨t,rfl⟩ (vals_ints h)
def Only (H:Hp):Prop:=∀ b,H b=none∨∃ o xs,H b=some (.frz o (.lst xs))
theorem law_call {P:Program} {w:World} {K:PySem.W.Frag} {mg mb:Str→Option Value} {CX:CXT} {k:Nat} {fa a:Addr} {fd:FuncData} {x:Str} {sp:Sp} {s₁:Shared} {vs:List Value} {ns:List Int}
  (KX:K.In s₁.heap) (hns:s₁.heap.Ns mainGlobals mg) (hb:s₁.heap.Ns builtinsNs mb) (hbb:∀ x:Str,x≠"__name__"→mb x=bootBuiltins x) (hlim:s₁.heap.NoLimit) (hg:s₁.gens=#[])
  (ha:s₁.heap.get? a=some { cls:=.type "list",data:=.seq vs.toArray }) (hi:IntsAre vs ns) (hl:ns.length≤sizeLine) (hr:Room k callerA)
  (F:∀ base:Heap,K.In base→base.Ns mainGlobals mg→FnOk P w K mg base CX k fa fd [x] sp) (hbind:∀ (s:Shared) (u:Value),BindsTo s fd ⟨[u],[]⟩ [(x,u)])
  (hsp:∀ H:Hp,Only H→SqL K H a (ns.map V.int)→sp [.ref a] H (fun v _=>v=.bl true) fun _ _ _=>False)
  (hCX:∀ H e s',CX [] H s₁ (fun _ _ _=>False) e s'→False) :
  codeAny (model P w) callerA (.call (.ref fa) ⟨[.ref a],[]⟩) (fun r s'=>r=.ok (.ret (.bool true))∧OldK s₁.heap s'.heap∧s'.os=s₁.os∧AllBare s'.gens) s₁:=by
 have rv:=vals_ints hi
 have lenV:=hi.length
 have core:∀ H:Hp,Only H→SqL K H a (ns.map V.int)→HOk P w H s₁.heap→(∀ b,H b≠none→b=a)→(H a≠none→K.lookup a=none) →
   codeAny (model P w) callerA (.call (.ref fa) ⟨[.ref a],[]⟩) (fun r s'=>r=.ok (.ret (.bool true))∧OldK s₁.heap s'.heap∧s'.os=s₁.os∧AllBare s'.gens) s₁:=by
  intro H hO hS hok hA hK
  have base_of:∀ {b:Addr} {o:Obj},s₁.heap.get? b=some o→H b=none→(hidT s₁.heap H).get? b=some o:=fun e n=>hidT_get e n
  have noA:∀ {b:Addr} {o:Obj} {es:Array DictEntry} {ep:Nat},s₁.heap.get? b=some o→o.data=.dict es ep→H b=none:=fun {b o es ep} e d=>by
   cases q:H b with
   | none=>rfl
   | some u =>
    have e':b=a:=hA b (by rw [q];simp)
    subst e'
    rw [ha] at e;cases e
    have d':Data.seq vs.toArray _=Data.dict es ep:=d
    cases d'
  have nsK:∀ {b:Addr} {m:Str→Option Value},s₁.heap.Ns b m→(hidT s₁.heap H).Ns b m:=fun {b m} ⟨o,es,ep,e,d,r⟩=>⟨o,es,ep,base_of e (noA e d),d,r⟩
  have hKb:K.In (hidT s₁.heap H):=fun b o e=>base_of (KX b o e) (by
   cases q:H b with
   | none=>rfl
   | some u =>
    have e':b=a:=hA b (by rw [q];simp)
    subst e'
    rw [hK (by rw [q];simp)] at e;cases e)
  have hM:Mod K mg (hidT s₁.heap H):=⟨hKb,nsK hns,⟨mb,nsK hb,hbb⟩,let ⟨mc,h1,h2⟩:=hlim;⟨mc,nsK h1,h2⟩⟩
  have e0:Env0 P w K mg (hidT s₁.heap H) callerA [] s₁ H:=⟨rfl,hM,fun b o e=>of_hidT e,Nat.le_of_eq (hidT_size _ _),trivial,fun b hb=>absurd (show b∈([]:List Addr) from hb) (by simp),hok,.of_eq hg⟩
  refine codeAny_mono ((F _ hKb (nsK hns)).run callerA [] s₁ H ⟨[.ref a],[]⟩ [.ref a] [.ref a] _ _ hr e0 (hbind s₁ (.ref a)) (.cons rfl .nil) (hsp H hO hS)) fun r s' h=>?_
  cases r with
  | error e=>exact (hCX H e s' h).elim
  | ok fl =>
   cases fl with
   | next=>exact False.elim h
   | brk=>exact False.elim h
   | cont=>exact False.elim h
   | ret u =>
    obtain ⟨v,H',os,bare,un,hok',r',q⟩:=h
    have q':v=.bl true:=q
    subst q'
    obtain rfl:u=Value.bool true:=r'
    refine ⟨rfl,OldK.of_keep fun b o e=>?_,os,bare⟩
    cases q:H b with
    | none=>exact un.keep b o e q (by intro z;exact absurd (show b∈([]:List Addr) from z) (by simp)) (by simp)
    | some u =>
     rcases hO b with z | ⟨ob,xs,z⟩
     ·rw [q] at z;cases z
     ·have z2:=un.frzs b ob _ z
      obtain ⟨e1,_⟩:=hok b _ z
      obtain ⟨e2,_⟩:=hok' b _ z2
      rw [e] at e1;cases e1
      exact e2
 cases hk:K.lookup a with
 | some o =>
  have e:=KX a o hk
  rw [ha] at e
  cases e
  refine core (fun _=>none) (fun _=>.inl rfl) (.inr ⟨_,vs.toArray,_,hk,rfl,rfl,rfl,by rw [List.size_toArray,lenV];exact hl,by simpa using rv⟩) (fun b u z=>by have z':(none:Option HO)=some u:=z;cases z') (fun b z=>absurd rfl z) fun z=>absurd rfl z
 | none =>
  refine core (fun b=>if b=a then some (.frz { cls:=.type "list",data:=.seq vs.toArray } (.lst (ns.map V.int))) else none) (fun b=>?_) (.inl (.inr ⟨{ cls:=.type "list",data:=.seq vs.toArray },if_pos rfl⟩)) (fun b u z=>?_) (fun b z=>?_) fun _=>hk
  ·by_cases hb:b=a
   ·exact .inr ⟨_,_,if_pos hb⟩
   ·exact .inl (if_neg hb)
  ·by_cases hb:b=a
   ·have z':=(if_pos hb).symm.trans z
    cases z'
    subst hb
    exact ⟨ha,by rw [List.length_map];exact hl,vs,_,rv,ha⟩
   ·have z':=(if_neg hb).symm.trans z
    cases z'
  ·by_cases hb:b=a
   ·exact hb
   ·exact absurd (if_neg hb) z
end L2
namespace L2
open PySem PySem.Spec PyProof.Rows
abbrev KOf {K:PySem.W.Frag} {h:Heap} (_:K.In h):PySem.W.Frag:=K
theorem walk_of {l:PySem.W.OpenLaw} {n k:Nat} {q:Program} {loose:List Str} {XP:(Str→Option Value)→Heap→Prop} {YP:World→Heap→Prop} {d:DefRec} {K:Params→PySem.W.Frag} {CX:World→CXT} {sp:World→Sp} {x:Str}
  (hn:l.most=some n) (hn2:n≤sizeLine) (hdf:d.params.defaults=[]) (hr:Room k callerA)
  (hY:∀ (w:World) (h:Heap),YP w h→(K w.params).In h)
  (F:∀ (w:World) (mg:Str→Option Value) (fa:Addr) (h:Heap),(K w.params).In h→h.Ns mainGlobals mg→mg d.name=some (.ref fa) →
   ∃ fd:FuncData,(∀ (s:Shared) (u:Value),BindsTo s fd ⟨[u],[]⟩ [(x,u)]) ∧
    ∀ base:Heap,(K w.params).In base→base.Ns mainGlobals mg→FnOk l.prog w (K w.params) mg base (CX w) k fa fd [x] (sp w))
  (hsp:∀ (w:World) (H:Hp) (a:Addr) (ns:List Int),ns.length≤n→Only H→SqL (K w.params) H a (ns.map V.int)→sp w [.ref a] H (fun v _=>v=.bl true) fun _ _ _=>False)
  (hCX:∀ (w:World) (H:Hp) (s:Shared) (e:Value) (s':Shared),CX w [] H s (fun _ _ _=>False) e s'→False) :
  PySem.W.WalkO q loose XP YP l.row.toRowW d [] (fun f vs=>PySem.call f vs):=by
 refine Att.attach_call hn hdf fun w s₀ s₁ mg mb fa o pm cd doc a vs ns G Y ho hd hcd hmg hobj hints hlen hg=>?_
 have KX:=hY w _ Y
 obtain ⟨fd,hb,hF⟩:=F w mg fa _ KX G.T.g hmg
 exact law_call KX G.T.g G.T.b G.T.builtins G.T.nolimit hg hobj hints (Nat.le_trans hlen hn2) hr hF hb (fun H hO hS=>hsp w H a ns hlen hO hS) fun H e s'=>hCX w H s₁ e s'
end L2
namespace L2
open PySem PySem.Spec PyProof.Rows
def inClass (s:Stmt) (j:Nat):Stmt:=match s with
 | .ClassDef _ _ _ body _ _ _ _ _ _ _=>body.getD j (.Pass ⟨0,0,0,0⟩)
 | _=>.Pass ⟨0,0,0,0⟩
def defArgs (s:Stmt):Arguments:=match s with
 | .FunctionDef _ a _ _ _ _ _ _ _ _=>a
 | _=>{ posonlyargs:=[],args:=[],vararg:=none,kwonlyargs:=[],kw_defaults:=[],kwarg:=none,defaults:=[] }
def defBody (s:Stmt):List Stmt:=match s with
 | .FunctionDef _ _ b _ _ _ _ _ _ _=>b
 | _=>[]
def defScope (s:Stmt):Scope:=match s with
 | .FunctionDef _ _ _ _ _ _ sc _ _ _=>sc
 | _=>{ kind:=.function,names:=[],isGenerator:=false,isCoroutine:=false }
abbrev CX0:CXT:=fun _ _ _ _ _ _=>False
abbrev E0:XK:=fun _ _ _=>False
structure Fun (K:PySem.W.Frag) (x qual:Str) (st:Stmt) (f:Addr) (fd:FuncData):Prop where
 ex:∃ (oc:Value) (od:Option Addr) (kV doc pm:Value) (an:Option Addr) (cdv ct:Value) (osl:Array (Option Value)),
  fd=PySem.W.fnOf x qual (defArgs st) (defBody st) (defScope st) .none kV doc pm an cdv ct∧K.lookup f=some ⟨oc,od,.func fd,osl⟩∧PySem.W.codeIn K cdv qual=true
 kp:PySem.W.keepIn K (.ref f)=true
section
variable {P:Program} {w:World} {K:PySem.W.Frag} {mg:Str→Option Value} {base:Heap}
theorem Fun.ok {x qual:Str} {st:Stmt} {f:Addr} {fd:FuncData} {N ps:List Str} {k:Nat} {sp:Sp} (F:Fun K x qual st f fd) (S:FnScope N ps (defScope st)) (len:∀ vs H Q E,sp vs H Q E→vs.length=ps.length)
  (hbody:∀ (cdv:Value) (A:Around) (outer:List Env) (s:Shared) (H:Hp) (vs:List V) (Q:VK) (E:XK),Room k (A.deeper (envOfC qual (defScope st) s.heap.objs.size f cdv))→sp vs H Q E →
   ∃ t,PSs (cxOf CX0 P w K mg base N qual (defScope st) f cdv A outer s H E).nox (defBody st) t∧t { nx:=fun _ H'=>Q .non H',rt:=Q } (start N vs) H):FnOk P w K mg base CX0 (k+1) f fd ps sp:=by
 obtain ⟨oc,od,kV,doc,pm,an,cdv,ct,osl,rfl,lk,hcd⟩:=F.ex
 refine fn_of lk hcd S len fun A outer s H vs Q E hr hsp=>?_
 obtain ⟨t,h,q⟩:=hbody cdv A outer s H vs Q E hr hsp
 exact ⟨t,h.nox,q⟩
theorem Fun.binds {x qual:Str} {st:Stmt} {f:Addr} {fd:FuncData} {ps:List Str} (F:Fun K x qual st f fd)
  (h:∀ (kV doc pm:Value) (an:Option Addr) (cdv ct:Value) (us:List Value),us.length=ps.length→bindArgs (PySem.W.fnOf x qual (defArgs st) (defBody st) (defScope st) .none kV doc pm an cdv ct) ⟨us,[]⟩=pure (ps.zip us)):Binds K fd ps []:=by
 obtain ⟨oc,od,kV,doc,pm,an,cdv,ct,osl,rfl,lk,hcd⟩:=F.ex
 exact .all (h kV doc pm an cdv ct)
theorem fun_mk {x qual:Str} {st:Stmt} {f:Addr} {oc:Value} {od an:Option Addr} {osl:Array (Option Value)} {kV doc pm cdv ct:Value} (l:K.lookup f=some ⟨oc,od,.func (PySem.W.fnOf x qual (defArgs st) (defBody st) (defScope st) .none kV doc pm an cdv ct),osl⟩)
  (c:PySem.W.codeIn K cdv qual=true) (k:PySem.W.keepIn K (.ref f)=true):Fun K x qual st f (PySem.W.fnOf x qual (defArgs st) (defBody st) (defScope st) .none kV doc pm an cdv ct):=⟨⟨oc,od,kV,doc,pm,an,cdv,ct,osl,rfl,l,c⟩,k⟩
end
theorem small1000 {n:Nat} (h:n≤1000):n<sizeLine:=Nat.lt_of_le_of_lt h (by decide)
section
variable {X:Cx}
theorem pv (i:Nat) {x:Str} {pos:Pos} (hN:X.N[i]?=some x:=by rfl) (hv:Vis X.env.scope x:=by first | exact Or.inl rfl | exact Or.inr (Or.inl rfl) | exact Or.inr (Or.inr rfl)) (hd:(x == ("__debug__":Str))=false:=by decide)
  (hcd:(x == ("__classdict__":Str))=false:=by decide):PE X (.Name x pos) (tVar i):=pe_var hN hv hd hcd
end
theorem iteF {A B:Prop} (h:B):if false=true then A else B:=by
 rw [if_neg Bool.false_ne_true]
 exact h
def Same (H H':Hp):Prop:=∀ b o,H b=some o→H' b=some o
theorem Same.refl (H:Hp):Same H H:=fun _ _ h=>h
theorem Same.trans {H H1 H2:Hp} (a:Same H H1) (b:Same H1 H2):Same H H2:=fun c o h=>b c o (a c o h)
theorem Same.free {H H':Hp} (e:Same H H') {l:Addr} (h:H' l=Option.none):H l=Option.none:=by
 cases q:H l with
 | none=>rfl
 | some o =>
  rw [e l o q] at h
  cases h
theorem Same.seq {K:PySem.W.Frag} {H H':Hp} {a:Addr} {xs:List V} (e:Same H H') (h:SqL K H a xs):SqL K H' a xs:=by
 rcases h with (h | ⟨o,h⟩) | h
 ·exact .inl (.inl (e _ _ h))
 ·exact .inl (.inr ⟨o,e _ _ h⟩)
 ·exact .inr h
end L2
set_option maxHeartbeats 4000000
namespace L2
open PySem PySem.Spec PyProof.Rows
def ctxOf (o:Obj):Option Value:=match o.data with
 | .fields vs=>vs[2]?
 | _=>none
def DK (h h':Heap):Prop:=h.objs.size≤h'.objs.size∧∀ (b:Nat) (o o':Obj),h.objs[b]?=some o→h'.objs[b]?=some o'→o'.dict=o.dict∧ctxOf o'=ctxOf o
theorem DK.refl (h:Heap):DK h h:=⟨Nat.le_refl _,fun b o o' e e'=>by rw [e] at e';cases e';exact ⟨rfl,rfl⟩⟩
theorem DK.trans {h1 h2 h3:Heap} (x:DK h1 h2) (y:DK h2 h3):DK h1 h3:=⟨Nat.le_trans x.1 y.1,fun b o o' e e'=>by
 obtain ⟨hb,_⟩:=Array.getElem?_eq_some_iff.mp e
 have q:h2.objs[b]?=some (h2.objs[b]'(Nat.lt_of_lt_of_le hb x.1)):=Array.getElem?_eq_getElem (Nat.lt_of_lt_of_le hb x.1)
 exact ⟨(y.2 b _ o' q e').1.trans (x.2 b o _ e q).1,(y.2 b _ o' q e').2.trans (x.2 b o _ e q).2⟩⟩
theorem raw_of {h:Heap} {a:Addr} {o:Obj} (e:h.get? a=some o):h.objs[a]?=some o:=by
 unfold Heap.get? at e
 split at e
 ·cases e
 ·exact e
theorem DK.get {h h':Heap} {a:Addr} {o o':Obj} (x:DK h h') (e:h.get? a=some o) (e':h'.get? a=some o'):o'.dict=o.dict∧ctxOf o'=ctxOf o:=x.2 a o o' (raw_of e) (raw_of e')
theorem DK.push (h:Heap) (o:Obj):DK h (h.push o):=by
 refine ⟨?_,fun b u u' e e'=>?_⟩
 ·rw [Heap.size_push];exact Nat.le_succ _
 ·have hb:=(Array.getElem?_eq_some_iff.mp e).1
  have q:(h.push o).objs[b]?=h.objs[b]?:=by
   show (h.objs.push o)[b]?=_
   rw [Array.getElem?_push_lt hb,Array.getElem?_eq_getElem hb]
  rw [q,e] at e'
  cases e';exact ⟨rfl,rfl⟩
theorem DK.update (h:Heap) (a:Addr) {f:Obj→Obj} (k:∀ o,(f o).dict=o.dict∧ctxOf (f o)=ctxOf o):DK h (h.update a f):=by
 have q:(h.update a f).objs=h.objs.modify a f:=rfl
 refine ⟨by rw [q,Array.size_modify];exact Nat.le_refl _,fun b u u' e e'=>?_⟩
 rw [q,Array.getElem?_modify] at e'
 split at e'
 ·rw [e] at e'
  cases e'
  exact k u
 ·rw [e] at e';cases e';exact ⟨rfl,rfl⟩
def KT {α:Type}:Sem α→Prop
 | .rule _ k=>∀ u,KT (k u)
 | .at _ k=>∀ u,KT (k u)
 | .load _ _ k=>∀ u,KT (k u)
 | .update _ _ f k=>(∀ o,(f o).dict=o.dict∧ctxOf (f o)=ctxOf o)∧∀ u,KT (k u)
 | .loadIfAlive _ k=>∀ u,KT (k u)
 | .point _ k=>∀ u,KT (k u)
 | .alloc _ k=>∀ u,KT (k u)
 | .fresh k=>∀ u,KT (k u)
 | .ask k=>∀ u,KT (k u)
 | .handled _ k=>∀ u,KT (k u)
 | .stack k=>∀ u,KT (k u)
 | .thread k=>∀ u,KT (k u)
 | .pure _=>True
 | .raise _=>True
 | .unsupported _=>True
 | .finish _=>True
 | _=>False
theorem KT.keep {α:Type} {M:Model} {Γ:PySem.Ctx}:∀ (t:Sem α),KT t→∀ (Q:α→Pos→Shared→Prop) (E:Value→Pos→Shared→Prop) (p:Pos) (s:Shared),Sem.wp M Γ t Q E p s →
  Sem.wp M Γ t (fun a p' s'=>Q a p' s'∧DK s.heap s'.heap) (fun e p' s'=>E e p' s'∧DK s.heap s'.heap) p s:=by
 intro t
 induction t with
 | pure x=>exact fun _ Q E p s h=>⟨h,DK.refl _⟩
 | raise v=>exact fun _ Q E p s h=>⟨h,DK.refl _⟩
 | unsupported | finish=>exact fun _ Q E p s h=>h
 | yield | fork | await | register | choose | os | call | genState | newGen | resume=>exact fun k=>k.elim
 | rule _ k ih | «at» _ k ih | point _ k ih | loadIfAlive _ k ih | fresh k ih | ask k ih | handled _ k ih | stack k ih | thread k ih=>exact fun z Q E p s h=>ih _ (z _) Q E _ _ h
 | alloc o k ih=>exact fun z Q E p s h=>Sem.wp_mono _ _ _ (fun a p' s' q=>⟨q.1,(DK.push _ _).trans q.2⟩) (fun a p' s' q=>⟨q.1,(DK.push _ _).trans q.2⟩) _ _ (ih _ (z _) Q E _ _ h)
 | load a _ k ih=>exact fun z Q E p s ⟨o,ho,h⟩=>⟨o,ho,ih _ (z _) Q E _ _ h⟩
 | update a _ f k ih=>exact fun z Q E p s ⟨ha,h⟩=>⟨ha,Sem.wp_mono _ _ _ (fun a p' s' q=>⟨q.1,(DK.update _ _ z.1).trans q.2⟩) (fun a p' s' q=>⟨q.1,(DK.update _ _ z.1).trans q.2⟩) _ _ (ih _ (z.2 _) Q E _ _ h)⟩
theorem KT.run {α:Type} {M:Model} {A:Around} {t:Sem α} {Q:α→Shared→Prop} {E:Value→Shared→Prop} {s:Shared} (k:KT t) (h:wpAny M A t Q E s) :
  wpAny M A t (fun a s'=>Q a s'∧DK s.heap s'.heap) (fun e s'=>E e s'∧DK s.heap s'.heap) s:=fun Γ p hΓ=>KT.keep t k _ _ p s (h Γ p hΓ)
theorem KT.bind {α β:Type} {m:Sem α} {f:α→Sem β} (a:KT m) (b:∀ x,KT (f x)):KT (m >>= f):=by
 show KT (m.bind f)
 induction m with
 | pure x=>exact b x
 | raise v=>exact a
 | unsupported | finish=>exact a
 | yield | fork | await | register | choose | os | call | genState | newGen | resume=>exact a.elim
 | rule _ k ih | «at» _ k ih | point _ k ih | loadIfAlive _ k ih | fresh k ih | ask k ih | handled _ k ih | stack k ih | thread k ih | alloc _ k ih | load _ _ k ih=>exact fun u=>ih u (a u)
 | update _ _ f' k ih=>exact ⟨a.1,fun u=>ih u (a.2 u)⟩
theorem KT.pure {α:Type} (x:α):KT (Pure.pure x:Sem α):=trivial
theorem KT.ite {α:Type} {c:Prop} [Decidable c] {a b:Sem α} (x:KT a) (y:KT b):KT (if c then a else b):=by split <;> assumption
theorem kt_un {α:Type} (x:String):KT (PySem.unsupported x:Sem α):=trivial
theorem kt_load (a:Addr):KT (PySem.load a):=fun _=>trivial
theorem kt_fieldsOf (v:Value):KT (fieldsOf v):=by
 unfold fieldsOf
 split
 ·refine KT.bind (kt_load _) fun o=>?_
  split
  ·exact KT.pure _
  ·exact kt_un _
 ·exact kt_un _
theorem kt_field (v:Value) (i:Nat):KT (field v i):=by
 unfold field
 refine KT.bind (kt_fieldsOf v) fun o=>?_
 split
 ·exact KT.pure _
 ·exact kt_un _
theorem kt_setField (v x:Value) (i:Nat) (hi:i≠2):KT (setField v i x):=by
 unfold setField
 split
 ·unfold updateField
  refine KT.bind (kt_load _) fun o=>?_
  split
  ·refine KT.ite ⟨fun o=>?_,fun _=>trivial⟩ (kt_un _)
   obtain ⟨c,d,dt,sl⟩:=o
   cases dt with
   | fields vs=>exact ⟨rfl,Array.getElem?_setIfInBounds_ne hi⟩
   | _=>exact ⟨rfl,rfl⟩
  ·exact kt_un _
 ·exact kt_un _
theorem kt_setFlight (e:Value) (f:Option Addr):KT (setFlight e f):=by
 unfold setFlight
 refine KT.bind (kt_field _ _) fun tb=>?_
 exact KT.ite (kt_setField _ _ _ (by decide)) (KT.pure _)
theorem kt_stack:KT PySem.stack:=fun _=>trivial
theorem kt_ready:∀ l:List Env,KT (readyFrames l)
 | []=>trivial
 | env::outer=>by
  unfold readyFrames
  split
  ·refine KT.bind (kt_load _) fun o=>KT.ite (KT.pure _) ?_
   refine KT.bind ?_ fun i=>KT.bind ?_ fun back=>KT.bind ⟨fun o=>⟨rfl,rfl⟩,fun _=>trivial⟩ fun _=>kt_ready outer
   ·unfold behindIsImport
    exact KT.ite (KT.pure _) (KT.ite (KT.pure _) (KT.bind (kt_field _ _) fun _=>KT.pure _))
   ·unfold keptBack
    split
    ·refine KT.ite (KT.pure _) (KT.bind ?_ fun _=>KT.pure _)
     unfold underTheClaimsCaller
     exact KT.bind kt_stack fun _=>KT.pure _
    ·exact KT.pure _
  ·exact kt_un _
theorem kt_frameOf (env:Env):KT (PySem.frameOf env):=by
 unfold PySem.frameOf frameEnvs
 refine KT.bind (KT.bind kt_stack fun _=>KT.pure _) fun l=>KT.bind ?_ fun r=>?_
 ·unfold frameObject
  split
  ·exact KT.pure _
  ·exact KT.bind (kt_ready _) fun _=>KT.pure _
 ·split
  ·exact KT.pure _
  ·exact kt_un _
theorem kt_newFields (ty:String) (vs:List Value):KT (newFields ty vs):=by
 unfold newFields newObj
 dsimp only
 split
 ·exact kt_un _
 ·exact fun _=>trivial
theorem kt_place (f:Addr) (b:Bool):KT (entryPlaceOf f b):=by
 unfold entryPlaceOf
 refine KT.bind kt_stack fun _=>?_
 split <;> exact KT.pure _
theorem kt_note (e:Value) (env:Env):KT (noteFrame e env):=by
 have last:∀ h:Value,∀ f:Addr,KT (do setField e 1 (←EntryCells.newEntry h (←PySem.frameOf env) .none (rawInt f) .none (←entryPlaceOf f (h != .none)))):=fun h f =>
  KT.bind (kt_frameOf env) fun _=>KT.bind (kt_place _ _) fun _=>KT.bind (kt_newFields _ _) fun _=>kt_setField _ _ _ (by decide)
 unfold noteFrame
 split
 ·refine KT.bind (kt_field _ _) fun h=>?_
  split
  ·refine KT.bind (kt_field _ _) fun x=>KT.ite (KT.pure _) (KT.bind (kt_setField _ _ _ (by decide)) fun _=>last h _)
  ·exact last h _
 ·exact kt_un _
theorem kt_leaving (e:Value) (env:Env):KT (leaving env e):=by
 unfold leaving
 exact KT.bind (kt_note _ _) fun _=>kt_setFlight _ _
end L2
namespace L2
open PySem PySem.Spec PyProof.Rows
structure Fly (nc:Bool) (P:Program) (w:World) (outer:List Env) (H:Hp) (s:Shared) (a:Addr) (cls a0:Value) (D:Option Addr) (B:Heap) (H':Hp) (s':Shared):Prop where
 os:s'.os=s.os
 bare:AllBare s'.gens
 un:Un (frs outer) [] H H' s.heap s'.heap
 hok:HOk P w H' s'.heap
 fly:Heap.FlyingW B outer a cls a0 s'.heap
 old:∀ b o,s.heap.get? b=some o→b∉frs outer→∀ o',s'.heap.get? b=some o'→B.get? b=some o'
 trk:∀ b u,H' b=some u→∀ o',s'.heap.get? b=some o'→B.get? b=some o'
 dct:∃ oe,s'.heap.get? a=some oe∧oe.dict=D
 ctx:nc=true→∃ oe,s'.heap.get? a=some oe∧ctxOf oe=some .none
def CXC (nc:Bool) (P:Program) (w:World):CXT:=fun outer H s E e s'=>∃ a cls a0 D B H',e=.ref a∧Fly nc P w outer H s a cls a0 D B H' s'∧E cls D H'
abbrev CXF (P:Program) (w:World):CXT:=CXC false P w
theorem ObjOk.somewhere {P:Program} {w:World} {H:Hp} {h:Heap} {a:Addr} {o:HO} (x:ObjOk P w H h a o):∃ ob,h.get? a=some ob:=by
 cases o with
 | lst xs=>obtain ⟨_,_,_,_,e⟩:=x;exact ⟨_,e⟩
 | tup xs=>obtain ⟨_,_,_,ob,e,_⟩:=x;exact ⟨ob,e⟩
 | dK kvs=>obtain ⟨_,_,_,_,ob,_,_,e,_⟩:=x;exact ⟨ob,e⟩
 | dT kvs=>obtain ⟨_,_,_,_,ob,_,_,e,_⟩:=x;exact ⟨ob,e⟩
 | set S n=>obtain ⟨ob,_,_,_,e,_⟩:=x;exact ⟨ob,e⟩
 | ins C dx fs=>obtain ⟨_,_,_,e,_⟩:=x;exact ⟨_,e⟩
 | own y=>exact x
 | xd fs=>obtain ⟨_,⟨ob,_,_,e,_⟩,_⟩:=x;exact ⟨ob,e⟩
 | rng lo hi=>obtain ⟨_,_,_,e⟩:=x;exact ⟨_,e⟩
 | frz ob u=>obtain ⟨e,_⟩:=x;exact ⟨ob,e⟩
 | tbl ps=>exact ⟨_,(show h.get? a=some _ from x)⟩
 | met f y=>exact ⟨_,(show h.get? a=some _ from x)⟩
 | ext φ=>obtain ⟨_,e,_⟩:=x;exact e
section
variable {X:Cx} {pins:List (Addr × Obj)} {σ:St} {H H':Hp} {s s':Shared} {h':Heap}
theorem Inv.slotted {t':Nat} (I:Inv X pins σ H s) (k:∀ b o,s.heap.get? b=some o→b∉frs X.stack→h'.get? b=some o)
  (f:∀ b o,s.heap.get? b=some o→b∈frs X.stack→∃ sl,h'.get? b=some { o with slots:=sl }):Inv X pins σ H { s with heap:=h',toks:=t' }:=by
 have u:Un (frs X.stack) [] H H s.heap h':=⟨fun b o e _ hb _=>k b o e hb,fun b o e _ hb _=>f b o e hb,fun _ _ _ n _=>n,fun b o e _=>by
  by_cases hb:b∈frs X.stack
  ·obtain ⟨sl,q⟩:=f b o e hb
   exact ⟨_,q⟩
  ·exact ⟨o,k b o e hb⟩,fun _ _ q=>q,fun _ _ _ q=>q,fun b ps q=>⟨#[],by rw [q];simp⟩⟩
 have hok:HOk X.prog X.w H h':=fun b u q=>(I.hok b u q).stay (fun c v hc r=>k c v r fun hm=>by
  have z:=I.stkFree c hm
  rcases hc with e | e
  ·rw [e,q] at z;cases z
  ·rw [e] at z;cases z) (fun _ q=>q) fun _ _ q=>q
 exact I.call (g':=s.gens) (d':=s.drawn) (ch:=[]) u hok I.bare (fun b z=>absurd z (by simp))
theorem Inv.frameData (I:Inv X pins σ H s) {b:Addr} {o:Obj} (e:s.heap.get? b=some o) (hb:b∈frs X.stack):∀ vs,o.data≠.fields vs:=by
 obtain ⟨_,o',e',nf⟩:=I.stack.mem hb
 rw [e] at e';cases e'
 exact nf
theorem Fly.fresh {nc:Bool} {a:Addr} {cls a0:Value} {D:Option Addr} {B:Heap} (F:Fly nc X.prog X.w X.stack H s a cls a0 D B H' s'):H' a=none∧s.heap.get? a=none:=by
 have hB:=F.fly.2.1
 obtain ⟨oe,vs,he,_,hd,_⟩:=F.fly.first
 refine ⟨?_,?_⟩
 ·cases q:H' a with
  | none=>rfl
  | some u =>
   have z:=F.trk a u q oe he
   rw [hB] at z;cases z
 ·cases q:s.heap.get? a with
  | none=>rfl
  | some o =>
   by_cases hm:a∈frs X.stack
   ·obtain ⟨_,o',e',nf⟩:=F.fly.2.2.1.mem hm
    rw [he] at e';cases e'
    exact absurd hd (nf vs)
   ·have z:=F.old a o q hm oe he
    rw [hB] at z;cases z
theorem Fly.unAt {nc:Bool} {a:Addr} {cls a0:Value} {D:Option Addr} {B:Heap} (I:Inv X pins σ H s) (F:Fly nc X.prog X.w X.stack H s a cls a0 D B H' s') (hB:B.StaysIn h') (sm:s'.heap.UpToSlots h') :
  Un (frs X.stack) [] H H' s.heap h'∧HOk X.prog X.w H' h':=by
 have up:∀ b o,s.heap.get? b=some o→b∈frs X.stack→∃ sl,h'.get? b=some { o with slots:=sl }:=fun b o e hb=>by
  obtain ⟨sl,e1⟩:=F.un.slot b o e (I.stkFree b hb) hb (by simp)
  obtain ⟨sl',e2⟩:=sm b _ e1 (show ∀ vs,o.data≠.fields vs from I.frameData e hb)
  exact ⟨sl',e2⟩
 refine ⟨⟨fun b o e n hb hx=>hB b o (F.old b o e hb o (F.un.keep b o e n hb hx)),fun b o e _ hb _=>up b o e hb,F.un.free,fun b o e hx=>?_,F.un.tups,F.un.frzs,F.un.tbls⟩,fun b u q=>?_⟩
 ·by_cases hb:b∈frs X.stack
  ·obtain ⟨sl,q⟩:=up b o e hb
   exact ⟨_,q⟩
  ·obtain ⟨o',e1⟩:=F.un.there b o e hx
   exact ⟨o',hB b o' (F.old b o e hb o' e1)⟩
 ·refine (F.hok b u q).stay (fun c v hc r=>?_) (fun _ q=>q) fun _ _ q=>q
  rcases hc with e | e
  ·subst e;exact hB c v (F.trk c u q v r)
  ·exact hB c v (F.trk c _ e v r)
theorem Fly.land {nc:Bool} {a:Addr} {cls a0:Value} {D:Option Addr} {B:Heap} {t':Nat} (I:Inv X pins σ H s) (F:Fly nc X.prog X.w X.stack H s a cls a0 D B H' s') (hB:B.StaysIn h') (sm:s'.heap.UpToSlots h'):Inv X pins σ H' { s' with heap:=h',toks:=t' }:=by
 obtain ⟨u,hok⟩:=F.unAt I hB sm
 exact I.call' (s':={ s' with heap:=h',toks:=t' }) (ch:=[]) F.os u hok F.bare (fun b z=>absurd z (by simp))
def excIs (a:Addr) (cls:Value) (D:Option Addr) (n:Bool) (h:Heap):Prop:=∃ o vs,h.get? a=some o∧o.cls=cls∧o.data=.fields vs∧o.dict=D∧(n=true→∃ t:Addr,vs=#[.ref t,.none,.none,.none,.bool false,.none])
def exo (a:Addr) (cls:Value) (D:Option Addr) (n:Bool):HO:=.ext (excIs a cls D n)
theorem Fly.land' {nc:Bool} {a:Addr} {cls a0:Value} {D:Option Addr} {B:Heap} {t':Nat} {l:List Env} (I:Inv X pins σ H s) (F:Fly nc X.prog X.w X.stack H s a cls a0 D B H' s') (fl:Heap.FlyingW B l a cls a0 h') (sm:s'.heap.UpToSlots h') (dk:DK s'.heap h') :
  Inv X pins σ (upd H' a (exo a cls D false)) { s' with heap:=h',toks:=t' }:=by
 obtain ⟨u,hok⟩:=F.unAt I fl.1 sm
 obtain ⟨n1,n2⟩:=F.fresh
 obtain ⟨oe,vs,he,hc,hd,_⟩:=fl.first
 have ne:∀ b o,s.heap.get? b=some o→b≠a:=fun b o e z=>by rw [z,n2] at e;cases e
 have ne2:∀ b o,H' b=some o→b≠a:=fun b o e z=>by rw [z,n1] at e;cases e
 refine I.call' (s':={ s' with heap:=h',toks:=t' }) (ch:=[]) F.os ⟨u.keep,u.slot,fun b o e n hx=>?_,u.there,fun b xs q=>?_,fun b o v q=>?_,fun b ps q=>?_⟩ (fun b v q=>?_) F.bare (fun b z=>absurd z (by simp))
 ·rw [upd_ne (ne b o e)];exact u.free b o e n hx
 ·have q':=u.tups b xs q
  rw [upd_ne (ne2 b _ q')];exact q'
 ·have q':=u.frzs b o v q
  rw [upd_ne (ne2 b _ q')];exact q'
 ·obtain ⟨more,q'⟩:=u.tbls b ps q
  exact ⟨more,by rw [upd_ne (ne2 b _ q')];exact q'⟩
 ·by_cases hb:b=a
  ·subst hb
   rw [upd_same] at q
   cases q
   obtain ⟨ow,hw,hwd⟩:=F.dct
   exact ⟨⟨oe,vs,he,hc,hd,(dk.get hw he).1.trans hwd,fun z=>by cases z⟩,⟨oe,he⟩,fun h1 h2 ⟨o,ws,e,r⟩ k=>⟨o,ws,k o e,r⟩⟩
  ·rw [upd_ne hb] at q
   exact (hok b v q).stay (fun c v' _ r=>r) (fun c z=>by rw [upd_ne (ne2 c _ z)];exact z) fun c xs z=>by rw [upd_ne (ne2 c _ z)];exact z
end
def Raises (X:Cx) (C:Value) (E:XK):Prop :=
 ∀ (pins:List (Addr × Obj)) (σ:St) (H:Hp) (s:Shared) (h':Heap) (e:Addr) (args:List Value),Inv X pins σ H s→Heap.MadeExcOf s.heap h' e C args→E C none H→X.xe (.ref e) { s with heap:=h' }
def PassesX (CX:CXT) (X:Cx) (E:St→XK):Prop:=∀ (pins:List (Addr × Obj)) (σ:St) (H:Hp) (s:Shared) (e:Value) (s':Shared),Inv X pins σ H s→CX X.stack H s (E σ) e s'→X.xe e s'
section
variable {P:Program} {w:World} {K:PySem.W.Frag} {mg:Str→Option Value} {base:Heap} {N:List Str} {qual:Str} {scope:Scope} {f:Addr} {cd:Value} {A:Around} {outer:List Env} {s:Shared} {H:Hp} {E:XK}
theorem raises_body {nc:Bool} {C:Value}:Raises (cxOf (CXC nc P w) P w K mg base N qual scope f cd A outer s H E) C E:=by
 intro pins σ H1 s1 h1 e args I hx hE
 generalize hX:cxOf (CXC nc P w) P w K mg base N qual scope f cd A outer s H E=X at I ⊢
 have hst:X.stack=X.env::X.outer:=by rw [←hX];rfl
 have hfr:X.env.frame=some X.env.locals:=by rw [←hX];rfl
 have hxe:X.xe=fun e s'=>wpAny (model P w) X.A (leaving X.env e) (fun _ s''=>CXC nc P w X.outer X.H₀ X.s₀ E e s'') (fun e' s''=>CXC nc P w X.outer X.H₀ X.s₀ E e' s'') s':=by rw [←hX];rfl
 have hex:X.ex=[]:=by rw [←hX];rfl
 have hp:X.prog=P:=by rw [←hX];rfl
 have hw:X.w=w:=by rw [←hX];rfl
 subst hp hw
 rw [hxe]
 have fr:=I.stack
 have hin:∀ env∈X.stack,∀ b,env.frame=some b→b∈frs X.stack:=fun env he b hb=>List.mem_filterMap.mpr ⟨env,he,hb⟩
 have fr':s1.heap.FunFrames (PySem.W.hideAll s1.heap (frs X.stack)) (X.env::X.outer):=by rw [←hst];exact PySem.W.funFrames_hide fr hin
 refine wpAny_mono (KT.run (kt_leaving _ _) (wpAny_leaves_madeW (Q:=fun _ s2=>∃ h2 t,s2={ s1 with heap:=h2 }∧Heap.FlyingW (PySem.W.hideAll s1.heap (frs X.stack)) X.outer e C (.ref t) h2∧h1.UpToSlots h2) (E:=fun _ _=>False) (base:=PySem.W.hideAll s1.heap (frs X.stack)) (h:=s1.heap) (L:=X.env.locals) (by rw [←hst];exact I.ok.frames) hfr (fun b o q=>PySem.W.of_hideAll _ q) fr' hx fun h2 t x1 x2 x3 x4=>⟨h2,t,rfl,x1,x4⟩)) (fun _ s2 q=>?_) fun _ _ q=>q.1.elim
 obtain ⟨⟨h2,t,rfl,x1,x4⟩,dk⟩:=q
 have kept:∀ b o,s1.heap.get? b=some o→b∉frs X.stack→h2.get? b=some o:=fun b o q hb=>x1.1 b o (PySem.W.hideAll_get _ q hb)
 have J:Inv X pins σ H1 { s1 with heap:=h2,toks:=s1.toks }:=I.slotted kept fun b o q hb=>x4 b o (hx.keeps b o q) (I.frameData q hb)
 have un:Un (frs X.outer) [] X.H₀ H1 X.s₀.heap h2:=by have z:=J.base;rw [hex] at z;exact z
 have hdc:∃ oe,h2.get? e=some oe∧oe.dict=none:=by
  obtain ⟨ob,hob,_⟩:=x1.there
  obtain ⟨t',he,_,_⟩:=hx.there
  exact ⟨ob,hob,(dk.get he hob).1.trans rfl⟩
 have hcx:∃ oe,h2.get? e=some oe∧ctxOf oe=some .none:=by
  obtain ⟨ob,hob,_⟩:=x1.there
  obtain ⟨t',he,_,_⟩:=hx.there
  exact ⟨ob,hob,(dk.get he hob).2.trans rfl⟩
 refine ⟨e,C,.ref t,none,_,H1,rfl,⟨J.os,J.bare,un,J.hok,x1,fun b o q hb o' q'=>?_,fun b u q o' q'=>?_,hdc,fun _=>hcx⟩,hE⟩
 ·obtain ⟨o1,q1⟩:=I.base.there b o q (by rw [hex];simp)
  have hn:b∉frs X.stack:=fun z=>by
   rcases List.mem_cons.mp (I.stkSub b z) with y | y
   ·exact absurd (Nat.lt_of_lt_of_le (Heap.lt_size q) I.ok.above) (by rw [y];exact Nat.lt_irrefl _)
   ·exact hb y
  have q2:=kept b o1 q1 hn
  rw [q'] at q2;cases q2
  exact PySem.W.hideAll_get _ q1 hn
 ·have hn:b∉frs X.stack:=fun z=>by
   have y:=I.stkFree b z
   rw [q] at y;cases y
  obtain ⟨o1,r⟩:=(I.hok b u q).somewhere
  have q2:=kept b o1 r hn
  rw [q'] at q2;cases q2
  exact PySem.W.hideAll_get _ r hn
theorem passes_body {nc:Bool}:PassesX (CXC nc P w) (cxOf (CXC nc P w) P w K mg base N qual scope f cd A outer s H E) (fun _=>E):=by
 intro pins σ H1 s1 e s2 I h
 generalize hX:cxOf (CXC nc P w) P w K mg base N qual scope f cd A outer s H E=X at I h ⊢
 have hst:X.stack=X.env::X.outer:=by rw [←hX];rfl
 have hfr:X.env.frame=some X.env.locals:=by rw [←hX];rfl
 have hxe:X.xe=fun e s'=>wpAny (model P w) X.A (leaving X.env e) (fun _ s''=>CXC nc P w X.outer X.H₀ X.s₀ E e s'') (fun e' s''=>CXC nc P w X.outer X.H₀ X.s₀ E e' s'') s':=by rw [←hX];rfl
 have hex:X.ex=[]:=by rw [←hX];rfl
 have hp:X.prog=P:=by rw [←hX];rfl
 have hw:X.w=w:=by rw [←hX];rfl
 subst hp hw
 rw [hxe]
 obtain ⟨a,cls,a0,D,B,H',rfl,F,hE⟩:=h
 have fl:Heap.FlyingW B (X.env::X.outer) a cls a0 s2.heap:=by rw [←hst];exact F.fly
 refine wpAny_mono (KT.run (kt_leaving _ _) (wpAny_leaves_onW (Q:=fun _ s3=>∃ h3,s3={ s2 with heap:=h3 }∧Heap.FlyingW B X.outer a cls a0 h3∧s2.heap.UpToSlots h3) (E:=fun _ _=>False) (by rw [←hst];exact I.ok.frames) hfr fl fun h3 x1 x2=>⟨h3,rfl,x1,x2⟩)) (fun _ s3 q=>?_) fun _ _ q=>q.1.elim
 obtain ⟨⟨h3,rfl,x1,x2⟩,dk⟩:=q
 have J:Inv X pins σ H' { s2 with heap:=h3,toks:=s2.toks }:=F.land I x1.1 x2
 have un:Un (frs X.outer) [] X.H₀ H' X.s₀.heap h3:=by have z:=J.base;rw [hex] at z;exact z
 have hdc:∃ oe,h3.get? a=some oe∧oe.dict=D:=by
  obtain ⟨ob,hob,_⟩:=x1.there
  obtain ⟨ow,hw,hwd⟩:=F.dct
  exact ⟨ob,hob,(dk.get hw hob).1.trans hwd⟩
 have hcx:nc=true→∃ oe,h3.get? a=some oe∧ctxOf oe=some .none:=fun hnc=>by
  obtain ⟨ob,hob,_⟩:=x1.there
  obtain ⟨ow,hw,hwd⟩:=F.ctx hnc
  exact ⟨ob,hob,(dk.get hw hob).2.trans hwd⟩
 refine ⟨a,cls,a0,D,B,H',rfl,⟨J.os,J.bare,un,J.hok,x1,fun b o q hb o' q'=>?_,fun b u q o' q'=>?_,hdc,hcx⟩,hE⟩
 ·obtain ⟨o1,q1⟩:=I.base.there b o q (by rw [hex];simp)
  have hn:b∉frs X.stack:=fun z=>by
   rcases List.mem_cons.mp (I.stkSub b z) with y | y
   ·exact absurd (Nat.lt_of_lt_of_le (Heap.lt_size q) I.ok.above) (by rw [y];exact Nat.lt_irrefl _)
   ·exact hb y
  obtain ⟨o2,q2⟩:=F.un.there b o1 q1 (by simp)
  have q3:=F.old b o1 q1 hn o2 q2
  have q4:=x1.1 b o2 q3
  rw [q'] at q4;cases q4
  exact q3
 ·obtain ⟨o2,q2⟩:=(F.hok b u q).somewhere
  have q3:=F.trk b u q o2 q2
  have q4:=x1.1 b o2 q3
  rw [q'] at q4;cases q4
  exact q3
end
abbrev bmVE:List Value:=[.type "ValueError",.type "Exception",.type "BaseException",.type "object"]
theorem exc_obj {K:PySem.W.Frag} {h:Heap} {C:Addr} {newId:String} {bmB:List Value} (kin:K.In h) (q:PySem.W.excIn K C bmB newId=true) :
  ∃ tl N nm qn bs dy sn sub ab col dd k0 k1 k2 k3 k5 mN,h.get? C=some (excClassObj nm qn C N bs tl dy sn sub ab col dd k0 k1 k2 k3 k5 newId)∧h.Ns N mN∧mN "__init__"=none∧OwnTail h bmB tl:=by
 unfold PySem.W.excIn at q
 split at q
 next dd cd sl ho =>
  split at q
  next C2 tl k0 k1 k2 k3 n k5 hm hs =>
   simp only [Bool.and_eq_true,beq_iff_eq,Bool.not_eq_true'] at q
   obtain ⟨⟨⟨⟨⟨e1,e2⟩,e3⟩,e4⟩,e5⟩,e6⟩:=q
   subst e1 e2
   obtain ⟨nm,bs,mro,N,qn,dy,sn,sub,ab,col,del⟩:=cd
   dsimp only at hm e3 e5 e6
   subst hm e3
   have e7:sl=#[k0,k1,k2,k3,some (.builtin n),k5]:=by
    obtain ⟨l⟩:=sl
    simp only at hs
    rw [hs]
   subst e7
   exact ⟨tl,N,nm,qn,bs,dy,sn,sub,ab,col,dd,k0,k1,k2,k3,k5,_,kin _ _ ho,.of_isNs (PySem.W.isNs_of_in kin e5),PySem.W.nsMap_none_of_in kin e5 e6,PySem.W.tail_of_in kin e4⟩
  next=>cases q
 next=>cases q
def tRaise (C:Addr) (E:XK) (t:TA):TS:=fun _ σ H=>t σ H fun vs H1=>vs.length≤sizeLine∧E (.ref C) none H1
section
variable {X:Cx} {x:Str} {C:Addr} {E:XK} {e:Expr} {es:List Expr} {t:TA} {np cpos pos:Pos}
theorem ps_raise (hc:X.calm=true) (hC:PySem.W.excIn X.K C bmVE "ValueError.__new__"=true) (hg:Gl X x) (hm:X.mg x=some (.ref C)) (hx:Raises X (.ref C) E) (ha:PA X (e::es) t)
  (hdb:(x == ("__debug__":Str))=false:=by decide) (he:starEach (e::es) X.env=(false,eval e X.env)::starEach es X.env:=by rfl) (hpl:(backTo cpos (starEach es X.env)).any (·.1)=false:=by rfl) :
  PS X (.Raise (some (.Call (.Name x np) (e::es) [] cpos)) none pos) (tRaise C E t):=by
 intro pins s σ H D I h
 obtain ⟨tl,N,nm,qn,bs,dy,sn,sub,ab,col,dd,k0,k1,k2,k3,k5,mN,hO,hN,hni,T⟩:=exc_obj I.mod.kin hC
 have FB:=PySem.F.excBase_ValueError
 have arg:=ha cpos pins s σ H _ I h
 refine wpAny_Raise_call_subT (C:=C) (nm:=nm) (q:=qn) (N:=N) (bs:=bs) (bm:=tl) (hdct:=dy) (sn:=sn) (sub:=sub) (ab:=ab) (col:=col) (dd:=dd) (k0:=k0) (k1:=k1) (k2:=k2) (k3:=k3) (k5:=k5) FB (mN:=mN) (T.hasType FB.hasBase) (I.ok.hd hc) ?_ hni (ld_glob I hg hm ⟨rfl,?_⟩ hdb)
 ·rw [he]
  show (false || (backTo cpos (starEach es X.env)).any (·.1))=false
  rw [hpl];rfl
 ·rw [he] at arg ⊢
  refine Calls.evalArgs_plain (thn arg fun us s2 ⟨vs,H2,I2,r,z,q⟩=>?_)
  exact ⟨rfl,by rw [←r.length];exact z,I2.bk _ _ hO,hN.keeps I2.bk,T.keeps I2.bk,fun h2 a hq=>hx pins σ H2 s2 h2 a us I2 hq q⟩
end
def tCallX (sp:Sp) (dvs:List V) (E:St→XK) (t:TA):TE:=fun σ H Q=>t σ H fun vs H1=>sp (vs++dvs) H1 Q (E σ)
section
variable {X:Cx} {CX:CXT} {k:Nat} {f:Addr} {fd:FuncData} {ps:List Str} {sp:Sp} {dvs:List V} {ds:List Value} {E:St→XK} {x:Str} {p pos:Pos} {e:Expr} {es:List Expr} {t:TA}
theorem pe_callX (F:FnOk X.prog X.w X.K X.mg X.base CX k f fd ps sp) (hr:Room k X.A) (hg:Gl X x) (hm:X.mg x=some (.ref f)) (hk:PySem.W.keepIn X.K (.ref f)=true) (hb:Binds X.K fd ps ds) (hd:Vals dvs ds) (hx:PassesX CX X E)
  (ha:PA X (e::es) t) (hdb:(x == ("__debug__":Str))=false:=by decide) (he:starEach (e::es) X.env=(false,eval e X.env)::starEach es X.env:=by rfl) (hpl:(backTo pos (starEach es X.env)).any (·.1)=false:=by rfl) :
  PE X (.Call (.Name x p) (e::es) [] pos) (tCallX sp dvs E t):=by
 intro pins s σ H Q I h
 refine wpAny_Call_Name_kw (ld_glob I hg hm ?_ hdb)
 refine PySem.W.callWith_K (h₀:=X.base) I.ok.mod.kin hk (thn (ha pos pins s σ H _ I h) fun us s1 ⟨vs,H1,I1,r,q⟩=>⟨I1.kIn,?_⟩) he hpl
 have r2:Vals (vs++dvs) (us++ds):=r.append hd
 have hl:(us++ds).length=ps.length:=by rw [←r2.length];exact F.len _ _ _ _ q
 refine wpAny_call (codeAny_mono (F.run X.A X.stack s1 H1 ⟨us,[]⟩ (us++ds) (vs++dvs) Q (E σ) hr I1.env0 (hb s1 us I1.kIn hl) r2 q) fun rs s2 hq=>?_)
 rcases rs with er | fl
 ·exact hx pins σ H1 s1 er s2 I1 hq
 ·cases fl with
  | ret u=>exact I1.after hq
  | next=>exact False.elim hq
  | brk=>exact False.elim hq
  | cont=>exact False.elim hq
end
section
variable {P:Program} {w:World} {K:PySem.W.Frag} {mg:Str→Option Value} {base:Heap}
theorem Fun.okX {nc:Bool} {x qual:Str} {st:Stmt} {f:Addr} {fd:FuncData} {N ps:List Str} {k:Nat} {sp:Sp} (F:Fun K x qual st f fd) (S:FnScope N ps (defScope st)) (len:∀ vs H Q E,sp vs H Q E→vs.length=ps.length)
  (hbody:∀ (cdv:Value) (A:Around) (outer:List Env) (s:Shared) (H:Hp) (vs:List V) (Q:VK) (E:XK),Room k (A.deeper (envOfC qual (defScope st) s.heap.objs.size f cdv))→sp vs H Q E →
   ∃ t,PSs (cxOf (CXC nc P w) P w K mg base N qual (defScope st) f cdv A outer s H E) (defBody st) t∧t { nx:=fun _ H'=>Q .non H',rt:=Q } (start N vs) H):FnOk P w K mg base (CXC nc P w) (k+1) f fd ps sp:=by
 obtain ⟨oc,od,kV,doc,pm,an,cdv,ct,osl,rfl,lk,hcd⟩:=F.ex
 exact fn_of lk hcd S len fun A outer s H vs Q E hr hsp=>hbody cdv A outer s H vs Q E hr hsp
end
theorem PS.nox {X:Cx} {st:Stmt} {t:TS} (h:PS X.nox st t):PS X st t:=fun pins s σ H D I hw =>
 wpAny_mono (h pins s σ H D (I.wish _) hw) (fun _ _ q=>q.unwish) fun _ _ q=>q.elim
abbrev Cx.but (X:Cx) (p:List (Addr × Obj)) (E:Value→Shared→Prop):Cx:={ X with pn:=p,xe:=E }
theorem Cx.Ok.but {X:Cx} (ok:X.Ok) (p:List (Addr × Obj)) (E:Value→Shared→Prop):(X.but p E).Ok :=
 ⟨ok.mod,ok.kind,ok.glob,ok.blt,ok.above,ok.inj,ok.has,ok.cab,ok.hd,ok.frames,ok.stk,ok.exf,ok.bs,ok.bsz,ok.noex,ok.exfs,ok.funs,ok.frf⟩
theorem Cx.Ok.unbut {X:Cx} {p:List (Addr × Obj)} {E:Value→Shared→Prop} (ok:(X.but p E).Ok):X.Ok :=
 ⟨ok.mod,ok.kind,ok.glob,ok.blt,ok.above,ok.inj,ok.has,ok.cab,ok.hd,ok.frames,ok.stk,ok.exf,ok.bs,ok.bsz,ok.noex,ok.exfs,ok.funs,ok.frf⟩
def Cx.tr (X:Cx) (p:List (Addr × Obj)) (W:St→XK):Cx:=X.but p fun e s'=>∃ pins σ H s,Inv (X.but p fun _ _=>False) pins σ H s∧CXF X.prog X.w X.stack H s (W σ) e s'
def Cx.hdl (X:Cx) (v:Value):Cx:={ X with A:=X.A.mark (some v),calm:=false,xe:=fun _ _=>False }
section
variable {X:Cx} {pins pins' p:List (Addr × Obj)} {σ:St} {H:Hp} {s:Shared} {E E':Value→Shared→Prop}
theorem Inv.but (I:Inv X pins σ H s) (E:Value→Shared→Prop):Inv (X.but (X.pn++pins) E) [] σ H s :=
 ⟨I.ok.but _ _,I.os,I.bare,I.base,I.loc,I.cell,I.free,I.freeC,fun q hq=>I.pin q (by simpa using hq),I.hok,I.len⟩
theorem Inv.unbut (I:Inv (X.but (X.pn++pins) E) pins' σ H s):Inv X pins σ H s :=
 ⟨I.ok.unbut,I.os,I.bare,I.base,I.loc,I.cell,I.free,I.freeC,fun q hq=>I.pin q (List.mem_append_left _ hq),I.hok,I.len⟩
theorem Inv.rebut (I:Inv (X.but p E) pins σ H s):Inv (X.but p E') pins σ H s :=
 ⟨I.ok.unbut.but _ _,I.os,I.bare,I.base,I.loc,I.cell,I.free,I.freeC,I.pin,I.hok,I.len⟩
theorem Inv.hdl (I:Inv X pins σ H s) (v:Value):Inv (X.hdl v) pins σ H s :=
 ⟨⟨I.ok.mod,I.ok.kind,I.ok.glob,I.ok.blt,I.ok.above,I.ok.inj,I.ok.has,I.ok.cab,fun z=>absurd z (by show ¬ (false=true);decide),I.ok.frames,I.ok.stk,I.ok.exf,I.ok.bs,I.ok.bsz,I.ok.noex,I.ok.exfs,I.ok.funs,I.ok.frf⟩,
  I.os,I.bare,I.base,I.loc,I.cell,I.free,I.freeC,I.pin,I.hok,I.len⟩
theorem Inv.unhdl {v:Value} (hd:X.calm=true→X.A.handled=none) (I:Inv (X.hdl v) pins σ H s):Inv X pins σ H s :=
 ⟨⟨I.ok.mod,I.ok.kind,I.ok.glob,I.ok.blt,I.ok.above,I.ok.inj,I.ok.has,I.ok.cab,hd,I.ok.frames,I.ok.stk,I.ok.exf,I.ok.bs,I.ok.bsz,I.ok.noex,I.ok.exfs,I.ok.funs,I.ok.frf⟩,
  I.os,I.bare,I.base,I.loc,I.cell,I.free,I.freeC,I.pin,I.hok,I.len⟩
theorem passes_try {W:St→XK}:PassesX (CXF X.prog X.w) (X.tr p W) W:=fun pins σ H s e s' I h=>⟨pins,σ,H,s,Inv.rebut (X:=X) I,h⟩
theorem SP.unbut {D:Ends} {f:Flow} {s':Shared} (h:SP (X.but (X.pn++pins) E) pins' D f s'):SP X pins D f s':=by
 cases f with
 | next=>obtain ⟨a,b,I,q⟩:=h;exact ⟨a,b,I.unbut,q⟩
 | brk=>obtain ⟨a,b,I,q⟩:=h;exact ⟨a,b,I.unbut,q⟩
 | cont=>obtain ⟨a,b,I,q⟩:=h;exact ⟨a,b,I.unbut,q⟩
 | ret u=>obtain ⟨v,a,b,I,q⟩:=h;exact ⟨v,a,b,I.unbut,q⟩
theorem gone_ok {M:Model} {A:Around} {i:Nat} {n:Str} {pos:Pos} {Q:Unit→Shared→Prop} (I:Inv X pins σ H s) (hN:X.N.Nodup) (hi:X.N[i]?=some n) (hl:X.env.scope.names.lookup n=some .local)
  (h:∀ s',Inv X pins (σ.set i none) H s'→Q () s'):wpAny M A (do bindName X.env n .none;unbindBehindTheSuite X.env n pos) Q E s:=by
 obtain ⟨m,hn,lk⟩:=id I.loc
 have hcls:(X.env.scope.kind == .class || (X.env.scope.kind == .module && X.env.locals != X.env.globals))=false:=by rw [I.ok.kind];rfl
 refine wpAny_nameGoes_keeps (show X.env.kindOf n=some .local from hl) hn hcls fun h' v hn' sb=>h _ ?_
 have away:∀ b o,X.s₀.heap.get? b=some o→b≠X.env.locals:=fun b o e=>Nat.ne_of_lt (Nat.lt_of_lt_of_le (Heap.lt_size e) I.ok.above)
 have hiσ:i<σ.length:=by rw [I.len];exact (List.getElem?_eq_some_iff.mp hi).1
 refine ⟨I.ok,I.os,I.bare,⟨fun b o e nn hb hx=>(sb.2 b (away b o e)).trans (I.base.keep b o e nn hb hx),fun b o e nn hb hx=>?_,I.base.free,fun b o e hx=>?_,I.base.tups,I.base.frzs,I.base.tbls⟩,
  ⟨_,hn',fun j y w e1 e2 e3=>?_⟩,fun y c e=>?_,I.free,I.freeC,fun q hq=>?_,fun b u q=>?_,by simpa using I.len⟩
 ·obtain ⟨sl,e1⟩:=I.base.slot b o e nn hb hx
  exact ⟨sl,(sb.2 b (away b o e)).trans e1⟩
 ·obtain ⟨o',e1⟩:=I.base.there b o e hx
  exact ⟨o',(sb.2 b (away b o e)).trans e1⟩
 ·by_cases hj:j=i
  ·subst hj
   rw [List.getElem?_set_self hiσ] at e2
   cases e2
  ·rw [List.getElem?_set_ne (Ne.symm hj)] at e2
   obtain ⟨u,r,z⟩:=lk j y w e1 e2 e3
   refine ⟨u,r,?_⟩
   rcases z with ⟨k,z⟩ | ⟨k,c,z,y'⟩
   ·have ny:y≠n:=fun q=>hj (nodup_ix hN e1 (q▸hi))
    exact .inl ⟨k,by simp [ny,z]⟩
   ·exact .inr ⟨k,c,z,y'.sameBut sb (I.cne y c z)⟩
 ·obtain ⟨w,z⟩:=I.cell y c e
  exact ⟨w,z.sameBut sb (I.cne y c e)⟩
 ·obtain ⟨e,nn,ne,nf,d⟩:=I.pin q hq
  exact ⟨(sb.2 q.1 ne).trans e,nn,ne,nf,d⟩
 ·refine (I.hok b u q).stay (fun c w hc r=>(sb.2 c fun z=>?_).trans r) (fun _ q=>q) fun _ _ q=>q
  have fz:=I.free
  rcases hc with e | e
  ·rw [←z,e,q] at fz;cases fz
  ·rw [←z,e] at fz;cases fz
end
def tTry (K:PySem.W.Frag) (R:Value) (i:Nat) (W:St→XK) (tb th:TS):TS:=fun D σ H=>tb D σ H∧∀ σ' cls D' H',W σ' cls D' H'→PySem.W.exmOne K cls R=some true∧∀ a,H' a=none →
 th { nx:=fun σ2 H2=>D.nx (σ2.set i none) H2,rt:=D.rt,bk:=fun σ2 H2=>D.bk (σ2.set i none) H2,ct:=fun σ2 H2=>D.ct (σ2.set i none) H2 } (σ'.set i (some (.ref a))) (upd H' a (exo a cls D' false))
section
variable {X:Cx} {x n:Str} {R:Addr} {i:Nat} {W:St→XK} {b:List Stmt} {c0:Stmt} {suite:List Stmt} {tb th:TS} {np hpos pos:Pos}
theorem ps_try (hN:X.N.Nodup) (hi:X.N[i]?=some n) (hl:X.env.scope.names.lookup n=some .local) (hg:Gl X x) (hm:X.mg x=some (.ref R)) (hst:X.stack=X.env::X.outer) (hfr:X.env.frame=some X.env.locals)
  (hb:∀ p,PSs (X.tr p W) b tb) (hs:∀ v,PSs (X.hdl v) (c0::suite) th) (hd:(x == ("__debug__":Str))=false:=by decide) :
  PS X (.Try b [.ExceptHandler (some (.Name x np)) (some n) (c0::suite) hpos] [] [] pos) (tTry X.K (.ref R) i W tb th):=by
 intro pins s σ H D I h
 obtain ⟨h1,h2⟩:=h
 refine wpAny_Try_except (wpAny_mono (hb (X.pn++pins) [] s σ H D (I.but _) h1) (fun f s1 q=>?_) fun e s1 q=>?_)
 ·have q':SP X pins D f s1:=SP.unbut (pins':=[]) q
  cases f with
  | next=>exact wpAny_execs_nil q'
  | ret u=>exact q'
  | brk=>exact q'
  | cont=>exact q'
 ·obtain ⟨pins0,σ0,H0,s0,I0,a,cls,a0,D',B,H',rfl,F,hW⟩:=q
  have J0:Inv X pins σ0 H0 s0:=I0.unbut
  obtain ⟨hx,hth⟩:=h2 σ0 cls D' H' hW
  have fl:Heap.FlyingW B (X.env::X.outer) a cls a0 s1.heap:=by rw [←hst];exact F.fly
  refine wpAny_mono (KT.run (kt_note _ _) (wpAny_looks_onW (Q:=fun _ s4=>∃ h4,s4={ s1 with heap:=h4 }∧Heap.HeldW B (X.env::X.outer) a cls a0 X.env.locals h4∧s1.heap.UpToSlots h4) (E:=fun _ _=>False) (by rw [←hst];exact J0.ok.frames) hfr fl fun h4 held4 sm4=>⟨h4,rfl,held4,sm4⟩)) (fun _ s4 q=>?_) fun _ _ q=>q.1.elim
  obtain ⟨⟨h4,rfl,held4,sm4⟩,dk4⟩:=q
  refine wpAny_mono (KT.run (kt_setFlight _ _) (wpAny_landsW (Q:=fun _ s5=>∃ h5,s5={ s1 with heap:=h5 }∧Heap.FlyingW B (X.env::X.outer) a cls a0 h5∧h4.UpToSlots h5) (E:=fun _ _=>False) (s:={ s1 with heap:=h4 }) held4 fun h5 fl5 sm5=>⟨h5,rfl,fl5,sm5⟩)) (fun _ s5 q=>?_) fun _ _ q=>q.1.elim
  obtain ⟨⟨h5,rfl,fl5,sm5⟩,dk5⟩:=q
  have J5:Inv X pins σ0 H' { s1 with heap:=h5,toks:=s1.toks }:=F.land J0 fl5.1 (sm4.trans sm5)
  have K5:=J5.hdl (.ref a)
  refine wpAny_handleBy_cons (codeAny_handlers_test (ld_glob K5 hg hm ?_ hd)) (by intro q;cases q)
  obtain ⟨ob,hob,hobc⟩:=fl5.there
  have LT:PySem.W.Looks (model X.prog X.w) h5 (typeOf (.ref a)) cls:=by
   subst hobc
   exact (PySem.W.Looks.ld hob).andThen .now
  refine (PySem.W.exm_one J5.kIn LT hx).here ?_
  show codeAny _ _ _ _ _
  refine codeAny_handlers_suite_as ?_
  refine wpAny_mono (KT.run (kt_setFlight _ _) (lands_againW (Q:=fun _ s6=>∃ h6,s6={ s1 with heap:=h6 }∧Heap.FlyingW B (X.env::X.outer) a cls a0 h6∧h5.UpToSlots h6) (E:=fun _ _=>False) (s:={ s1 with heap:=h5 }) fl5 fun h6 fl6 sm6=>⟨h6,rfl,fl6,sm6⟩)) (fun _ s6 q=>?_) fun _ _ q=>q.1.elim
  obtain ⟨⟨h6,rfl,fl6,sm6⟩,dk6⟩:=q
  have J6:Inv X pins σ0 (upd H' a (exo a cls D' false)) { s1 with heap:=h6,toks:=s1.toks }:=F.land' J0 fl6 ((sm4.trans sm5).trans sm6) ((dk4.trans dk5).trans dk6)
  refine store_ok J6 hN hi (.inl hl) (v:=.ref a) rfl (fun s7 I7=>?_) (.inr hl)
  have run:=hs (.ref a) pins s7 _ _ _ (I7.hdl (.ref a)) (hth a F.fresh.1)
  refine wpAny_mono run (fun f s8 q8=>?_) fun _ _ z=>z.elim
  cases f with
  | next =>
   obtain ⟨σ8,H8,I8,q8⟩:=q8
   exact gone_ok (I8.unhdl J0.ok.hd) hN hi hl fun s9 I9=>⟨_,_,I9,q8⟩
  | brk =>
   obtain ⟨σ8,H8,I8,q8⟩:=q8
   exact gone_ok (I8.unhdl J0.ok.hd) hN hi hl fun s9 I9=>⟨_,_,I9,q8⟩
  | cont =>
   obtain ⟨σ8,H8,I8,q8⟩:=q8
   exact gone_ok (I8.unhdl J0.ok.hd) hN hi hl fun s9 I9=>⟨_,_,I9,q8⟩
  | ret u =>
   obtain ⟨v8,σ8,H8,I8,r8,q8⟩:=q8
   exact gone_ok (I8.unhdl J0.ok.hd) hN hi hl fun s9 I9=>⟨v8,_,_,I9,r8,q8⟩
end
end L2
namespace L2
open PySem PySem.Spec PyProof.Rows
structure ExcK (K:PySem.W.Frag) (D:Addr):Prop where
 ci:(PySem.W.clsIn K D).isSome=true
 ga:PySem.W.findIn K (.ref D) "__getattribute__"=some (some (.builtin "BaseException.__getattribute__"))
 gn:PySem.W.findIn K (.ref D) "__getattr__"=some none
 ca:PySem.W.findIn K (.ref D) "__class__"=some (some (.builtin "object.__class__"))
 sg:PySem.W.specialIn K (.builtin "object.__class__") "__get__"=some (some (.builtin "getset_descriptor.__get__"))
 tk:PySem.W.takesIn K (.builtin "object.__class__")=some true
 mo:PySem.W.mroIn K D (.type "object")=some true
 mb:PySem.W.mroIn K D (.type "BaseException")=some true
section
variable {K:PySem.W.Frag} {D a:Addr} {dy:Option Addr} {n:Bool}
theorem ExcK.isCls (c:ExcK K D) {M:Model} {h:Heap} (kin:K.In h):PySem.W.Looks M h (isType (.ref D)) true:=by
 have z:=c.ci
 unfold PySem.W.clsIn at z
 split at z
 next ho =>
  intro A Q E s k q
  unfold isType loadHead
  exact wpAny_bind (wpAny_loadPart (k _ _ (kin _ _ ho)) (wpAny_pure q))
 next=>cases z
theorem excIs.ty {M:Model} {h:Heap} {cls:Value} (x:excIs a cls dy n h):PySem.W.Looks M h (typeOf (.ref a)) cls:=by
 obtain ⟨o,vs,e,c,_⟩:=x
 subst c
 exact (PySem.W.Looks.ld e).andThen .now
theorem looks_data {M:Model} {h:Heap} {x:Value} {name:Str} {u g:Value} (kin:K.In h) (h1:PySem.W.findIn K (.ref D) name=some (some u)) (h2:PySem.W.specialIn K u "__get__"=some (some g)) (h3:PySem.W.takesIn K u=some true) :
  PySem.W.Looks M h (Builtin.ObjectAttr.find x (.ref D) name) (.bind g u):=by
 have a1:=PySem.W.looks_findIn (M:=M) kin h1
 have a2:PySem.W.Looks M h (Builtin.ObjectAttr.getOf (some u)) (some g):=PySem.W.looks_specialIn kin h2
 have a3:PySem.W.Looks M h (Builtin.ObjectAttr.dataDescriptor? (some u) (some g)) (some (g,u)):=(PySem.W.looks_takesIn (M:=M) kin h3).andThen .now
 exact a1.andThen (a2.andThen (a3.andThen (PySem.W.Looks.tag .now)))
theorem exc_get {prog:Program} {w:World} {A:Around} {R:Result→Shared→Prop} {s:Shared} {tp:Value} (c:ExcK K D) (kin:K.In s.heap) (x:excIs a (.ref D) dy n s.heap) (q:R (.ok (.ret (.ref D))) s) :
  codeAny (model prog w) A (.call (.builtin "getset_descriptor.__get__") ⟨[.builtin "object.__class__",.ref a,tp],[]⟩) R s:=by
 obtain ⟨hp,g,d,t,os⟩:=s
 have a1:=x.ty (M:=model prog w)
 have a2:=PySem.W.looks_mroIn (M:=model prog w) kin c.mo
 refine codeAny_call_builtin PySem.W.KF.slot_gs.plain PySem.W.KF.entry_gs (PySem.W.KF.slot_gs.check _ _ _ _ _ _ _ _ PySem.W.KF.type_class (PySem.W.KF.args_gs _ _ _) ?_)
 (unfold Builtin.«getset_descriptor.__get__» Builtin.Getset_descriptor.descrGet;rw [PySem.W.dga_obj];refine wpAny_bind (wpAny_pure ?_))
 (unfold Builtin.Getset_descriptor.descrGetter Builtin.Getset_descriptor.descrCheckInstance Builtin.Getset_descriptor.descrNameAndClass isInstance;simp only [PySem.W.KF.owner_class])
 repeat lk
 refine ⟨Code.quiet_builtin _ (by decide +kernel),codeAny_builtin PySem.W.KF.entry_class ?_⟩
 (unfold Builtin.«object.__class__» shownTypeOf;repeat lk)
 exact q
theorem exc_class {prog:Program} {w:World} {A:Around} {E:Value→Shared→Prop} {Q:Option Value→Shared→Prop} {s:Shared} (c:ExcK K D) (kin:K.In s.heap) (x:excIs a (.ref D) dy n s.heap)
  (q:Q (some (.ref D)) { s with toks:=s.toks+1 }):wpAny (model prog w) A (getAttr? (.ref a) "__class__") Q E s:=by
 obtain ⟨hp,g,d,t,os⟩:=s
 have LT:=x.ty (M:=model prog w)
 have L1:=PySem.W.looks_findIn (M:=model prog w) kin c.ga
 have L2:=PySem.W.looks_findIn (M:=model prog w) kin c.gn
 have L3:=looks_data (M:=model prog w) (x:=.ref a) kin c.ca c.sg c.tk
 have L4:PySem.W.Looks (model prog w) hp (isInstance (.ref a) (.type "BaseException")) true:=LT.andThen (PySem.W.looks_mroIn kin c.mb)
 have FA:=PySem.F.excAttr_ValueError
 unfold getAttr? getAttrBy? getAttrBy
 refine wpAny_bind (wpAny_mkText (wpAny_bind (wpAny_attempt (wpAny_holding (wpAny_bind (LT.at (wpAny_bind (L1.at ?_))))))))
 show wpAny _ _ (getAttrByItsOwn _ _ _ _ _ _) _ _ _
 unfold getAttrByItsOwn
 refine wpAny_bind (show wpAny _ _ (typeLookup (.ref D) "__getattr__") _ _ _ from L2.at ?_)
 refine wpAny_bind (wpAny_attempt (wpAny_holding ?_))
 show wpAny _ _ (boundAndCalled _ _ _) _ _ _
 unfold boundAndCalled
 refine wpAny_bind (wpAny_of_eq (FA.ga.bind _) ?_)
 refine wpAny_call (codeAny_call_builtin FA.ga.plain PySem.F.entry_bexc_ga ?_)
 have hk:builtinKind "BaseException.__getattribute__"=some .slot:=by decide +kernel
 have hsp:splitId "BaseException.__getattribute__"=some ("BaseException","__getattribute__"):=by decide +kernel
 have ha:=PySem.F.args_bexc_ga (.ref a) (.str "__class__" t)
 show wpAny _ _ (checkBuiltinCall "BaseException.__getattribute__" ⟨[.ref a,.str "__class__" t],[]⟩) _ _ _
 simp only [checkBuiltinCall,hk,hsp]
 refine wpAny_bind (L4.at ?_)
 repeat (any_goals (first | assumption | wp_step))
 obtain ⟨o,vs,eo,co,vo⟩:=id x
 refine wpAny_loadPart eo ?_
 refine wpAny_pure ?_
 rw [co]
 refine wpAny_bind (L3.at ?_)
 show wpAny _ _ (call (.builtin "getset_descriptor.__get__") [.builtin "object.__class__",.ref a,.ref D] >>= fun v=>ret v) _ _ _
 refine wpAny_bind (wpAny_call (exc_get c kin ⟨o,vs,eo,co,vo⟩ ?_))
 refine wpAny_pure ?_
 show wpAny _ _ (handedOut (.ref D)) _ _ _
 exact wpAny_pure (wpAny_pure q)
theorem kitx_exc (c:ExcK K D):PySem.W.KitX K (.ref a) (.ref D) (excIs a (.ref D) dy n) where
 ty:=fun _ _ _ x=>x.ty
 it:=fun _ _ kin _=>c.isCls kin
 ne:=fun h tp dd its n sl kin htp=>by
  refine Bool.eq_false_iff.mpr fun q=>?_
  have e:D=tp:=Value.ref.inj (beq_iff_eq.mp q)
  subst e
  have z:=c.ci
  unfold PySem.W.clsIn at z
  split at z
  next ho =>
   have y:=(kin _ _ ho).symm.trans htp
   cases y
  next=>cases z
 ca:=fun kin x q=>exc_class c kin x q
end
inductive TyE (K:PySem.W.Frag) (H:Hp):V→Value→Prop where
 | of {x:V} {t:Value} (h:TyOf K H x t):TyE K H x t
 | exc {a D:Addr} {dy:Option Addr} {n:Bool} (e:H a=some (exo a (.ref D) dy n)) (c:ExcK K D):TyE K H (.ref a) (.ref D)
section
variable {X:Cx}
def clsV:V→Option Value
 | .ty n=>some (.type n)
 | .ref a=>some (.ref a)
 | _=>none
def rIsi (K:PySem.W.Frag):List V→Hp→VK→Prop
 | [x,c],H,Q=>∃ t u b,TyE K H x t∧clsV c=some u∧PySem.W.kitOne K t u=some b∧Q (.bl b) H
 | _,_,_=>False
theorem call_isi:CallR X (.builtin "isinstance") (rIsi X.K):=by
 intro pins s σ H xs us Q I rv h
 match xs,h with
 | [x,c],h =>
 obtain ⟨t,u,b,ty,rc,k,q⟩:=h
 obtain ⟨v1,v2,rfl,r1,r2⟩:=vals2 rv
 have e:v2=u:=by
  cases c with
  | ty n=>cases rc;exact r2
  | ref a=>cases rc;exact r2
  | _=>cases rc
 subst e
 cases ty with
 | of ty=>exact isinst_ok I r1 ty k fun tk=>⟨.bl b,H,I.tok tk,rfl,q⟩
 | @exc a D dy n e ck =>
  cases (show v1=Value.ref a from r1)
  obtain ⟨x,_,_⟩:=(show ObjOk X.prog X.w H s.heap a (.ext (excIs a (.ref D) _ _)) from I.hok a _ e)
  exact PySem.W.kia_one (kitx_exc ck) I.kIn x k (fun z=>nomatch z) fun tk=>⟨.bl b,H,I.tok tk,rfl,q⟩
end
end L2
namespace L2
open PySem PySem.Spec PyProof.Rows
section
variable {prog:Program} {w:World} {A:Around} {E:Value→Shared→Prop} {s:Shared}
theorem rev_nolen:typeLookup (.type "list_reverseiterator") "__len__"=pure none:=by rw [typeLookup_type,builtinLookup_eq_fast];kernel_rfl
theorem rev_hint:typeLookup (.type "list_reverseiterator") "__length_hint__"=pure (some (.builtin "list_reverseiterator.__length_hint__")):=by rw [typeLookup_type,builtinLookup_eq_fast];kernel_rfl
theorem hint_rev {I:Addr} {Q:Bool→Shared→Prop} (hT:s.TypeIs (.ref I) "list_reverseiterator") (q:Q false s):wpAny (model prog w) A (Builtin.List.listLengthHint (.ref I)) Q E s:=by
 unfold Builtin.List.listLengthHint
 refine wpAny_bind (wpAny_specialOf hT rev_nolen ?_)
 show wpAny _ A (specialOf (Value.ref I) (Str.ofString "__length_hint__") >>= _) _ _ _
 refine wpAny_bind (wpAny_specialOf hT rev_hint ?_)
 generalize hz:("list_reverseiterator.__length_hint__":String)=zz
 wp_delta
 rw [show splitId zz=some ("list_reverseiterator","__length_hint__") from by subst hz;decide +kernel]
 subst hz
 refine wpAny_bind (wpAny_isInstance (b:=true) hT (by rw [isSubtype_type];kernel_rfl) ?_)
 exact wpAny_pure q
theorem list_of_rev {I l:Addr} {items:Array Value} {Q:Value→Shared→Prop} (hh:A.handled=none) (hIl:l≠I) (hit:s.heap.IsRevIter I l ((items.size:Int) - 1)) (hl:s.heap.IsList l items) (hz:items.size≤sizeLine)
  (hQ:∀ h' tk c' acc,(∀ b o,b≠I→s.heap.get? b=some o→h'.get? b=some o)→h'.get? s.heap.objs.size=some { cls:=.type "list",dict:=none,data:=.seq acc c',slots:=#[] } →
   acc.toList=items.toList.reverse→Q (.ref s.heap.objs.size) { s with heap:=h',toks:=tk }):wpAny (model prog w) A (call (.type "list") [.ref I]) Q E s:=by
 have W:=(Walks.listRev (prog:=prog) (w:=w) (A:=A.in1.in1) hh I l hIl items).toS
 have hIlt:I<s.heap.objs.size:=by obtain ⟨o,e,_⟩:=hit;exact Heap.lt_size e
 have hllt:l<s.heap.objs.size:=by obtain ⟨o,e,_⟩:=hl;exact Heap.lt_size e
 refine callType_codes (Q₁:=fun obj s₁=>obj=.ref s.heap.objs.size∧s₁={ s with heap:=s.heap.push { cls:=.type "list",data:=.seq #[] } }) PySem.F.called_list (PySem.F.typeCall_list_1 _) PySem.F.entry_list_init
  (code_list_new _ ⟨rfl,rfl⟩) fun obj s₁ h₁=>?_
 obtain ⟨rfl,rfl⟩:=h₁
 have hS:(s.heap.push { cls:=.type "list",data:=.seq #[] }).get? s.heap.objs.size=some { cls:=.type "list",data:=.seq #[] }:=Heap.get?_push_size _ rfl
 refine ⟨⟨_,hS,rfl⟩,PySem.F.args_list_init_2 _ _,?_⟩
 show wpAny _ _ (do let old ←Builtin.List.listItems (.ref s.heap.objs.size);Builtin.List.listUpdate (.ref s.heap.objs.size) (fun _=>#[]);letGo old.toList.reverse;Builtin.List.listExtendWith (.ref s.heap.objs.size) (.ref I) .none) _ _ _
 refine wpAny_bind ?_
 unfold Builtin.List.listItems
 refine wpAny_bind (wpAny_seqItems hS rfl (wpAny_pure ?_))
 show wpAny _ _ (updateSeq s.heap.objs.size (fun _=>#[]) >>= fun _=>letGo (#[]:Array Value).toList.reverse >>= fun _=>Builtin.List.listExtendWith (.ref s.heap.objs.size) (.ref I) .none) _ _ _
 refine wpAny_bind (wpAny_updateSeq hS rfl ?_)
 have hS2:=Heap.get?_update_self (Obj.mapSeq (fun _=>(#[]:Array Value))) hS rfl
 have kp:∀ b o,s.heap.get? b=some o→((s.heap.push { cls:=.type "list",data:=.seq #[] }).update s.heap.objs.size (Obj.mapSeq (fun _=>(#[]:Array Value)))).get? b=some o :=
  fun b o e=>(Heap.get?_update_other _ _ (Nat.ne_of_gt (Heap.lt_size e))).trans (Heap.get?_push_of_some _ e)
 refine wpAny_bind (wpAny_letGo ?_)
 have hit2:=hit.at fun o e=>kp I o e
 have hl2:=hl.at fun o e=>kp l o e
 unfold Builtin.List.listExtendWith
 refine wpAny_bind (wpAny_typeOf (T:="list_reverseiterator") hit2.typeIs ?_)
 have h1:Builtin.List.listSameRef (.ref s.heap.objs.size) (.ref I)=false:=by simp [Builtin.List.listSameRef,Nat.ne_of_gt hIlt]
 rw [if_neg (by rw [h1];decide)]
 refine wpAny_bind (wpAny_pyIter_revIter hit2 ?_)
 refine wpAny_bind (wpAny_holding (hint_rev hit2.typeIs ?_))
 rw [if_neg (by decide)]
 have nf:s.heap.objs.size∉[I,l]:=by
  simp only [List.mem_cons,List.not_mem_nil,or_false,not_or]
  exact ⟨Nat.ne_of_gt hIlt,Nat.ne_of_gt hllt⟩
 refine wpAny_pure ⟨plainId_quiet PySem.F.plain_extend_loop _,codeAny_extend_loopS W hz _ nf _ items.size 0 _ _ _ rfl (Nat.zero_le _) ⟨Nat.zero_le _,by simpa using hit2,hl2⟩ hS2 (ItemsOf.nil _) fun s' acc c' hm hS' hacc=>?_⟩
 refine ⟨rfl,?_⟩
 rw [Moved.eq_with hm]
 refine hQ s'.heap s'.toks c' acc (fun b o hb e=>hm.heap b o (fun z=>?_) (kp b o e)) hS' ?_
 ·rcases List.mem_cons.mp z with z | z
  ·exact absurd (Heap.lt_size e) (by rw [z];exact Nat.lt_irrefl _)
  ·exact hb (List.mem_singleton.mp z)
 ·apply List.ext_getElem?
  intro i
  by_cases hi:i<items.size
  ·have hi2:i<acc.size:=by rw [hacc.1];exact hi
   have p:=hacc.2 i acc[i] (Array.getElem?_eq_getElem hi2)
   rw [List.getElem?_reverse (by simpa using hi),Array.getElem?_toList,Array.getElem?_eq_getElem hi2,Array.getElem?_toList,Array.length_toList]
   exact p.symm
  ·rw [List.getElem?_eq_none (by rw [Array.length_toList,hacc.1];lia),List.getElem?_eq_none (by rw [List.length_reverse,Array.length_toList];lia)]
end
section
variable {X:Cx} {tg:Expr}
def tLRev (K:PySem.W.Frag) (ta:TA):TE:=fun σ H Q=>ta σ H fun vs H1=>∃ a xs,vs=[.ref a]∧SqL K H1 a xs∧∀ p,H1 p=none→Q (.ref p) (upd H1 p (.lst xs.reverse))
theorem pe_lrev {l:Expr} {ta:TA} {p1 p2 pos1 pos2:Pos} (hc:X.calm=true) (hg:Gl X "reversed") (hm:X.mg "reversed"=none) (hg2:Gl X "list") (hm2:X.mg "list"=none) (ha:PA X [l] ta) (hs:starEach [l] X.env=[(false,eval l X.env)]:=by rfl)
  (hs2:starEach [.Call (.Name "reversed" p1) [l] [] pos1] X.env=[(false,eval (.Call (.Name "reversed" p1) [l] [] pos1) X.env)]:=by rfl) :
  PE X (.Call (.Name "list" p2) [.Call (.Name "reversed" p1) [l] [] pos1] [] pos2) (tLRev X.K ta):=by
 intro pins s σ H Q I h
 refine Call_ (ld_blt I hg2 hm2 PyProof.Rows.boot_list (PyProof.Rows.callWith_type1 (T:="list") ?_ hs2 rfl))
 rw [hs2]
 show wpAny _ _ (spliced ((false,eval (.Call (.Name "reversed" p1) [l] [] pos1) X.env)::[])) _ _ s
 refine Calls.spliced_cons (Call_ (ld_blt I hg hm boot_reversed (PyProof.Rows.callWith_type1 (thn (ha pos1 pins s σ H _ I h) fun us s1 ⟨vs,H1,I1,r1,q1⟩=>?_) hs rfl)))
 obtain ⟨a,xs,e,hq,q⟩:=q1
 subst e
 cases r1 with
 | cons r rr =>
  cases rr
  cases r
  obtain ⟨its,rv,pl,hz⟩:=I1.list hq
  have hlen:=rv.length
  refine call_reversed_list pl.isList ?_
  refine Calls.spliced_nil ?_
  have ne:a≠s1.heap.objs.size:=by obtain ⟨o,e,_⟩:=pl.isList;exact Nat.ne_of_lt (Heap.lt_size e)
  have hL:(s1.heap.push (revObj a ((its.toArray.size:Int) - 1))).IsList a its.toArray:=pl.isList.at fun o e=>Heap.get?_push_of_some _ e
  refine list_of_rev (s:={ s1 with heap:=s1.heap.push (revObj a ((its.toArray.size:Int) - 1)) }) (I.ok.hd hc) ne ⟨_,Heap.get?_push_size _ rfl,rfl,rfl⟩ hL (by rw [List.size_toArray,←hlen];exact hz) fun h' tk c' acc kp hD hacc=>?_
  have kp2:∀ b o,s1.heap.get? b=some o→h'.get? b=some o:=fun b o e=>kp b o (Nat.ne_of_lt (Heap.lt_size e)) (Heap.get?_push_of_some _ e)
  have hf:H1 (s1.heap.push (revObj a ((its.toArray.size:Int) - 1))).objs.size=none:=I1.hok.fresh (by rw [Heap.size_push];lia)
  have rv2:Vals xs.reverse acc.toList:=by rw [hacc];simpa using rv.reverse
  refine ⟨.ref _,_,I1.laid (t':=tk) kp2 (by rw [Heap.size_push];lia) ?_,rfl,q _ hf⟩
  exact ⟨by rw [List.length_reverse];exact hz,acc.toList,c',rv2,by simpa using hD⟩
def rEqL (K:PySem.W.Frag):R2:=fun x y H Q=>∃ (a b:Addr) (ns ms:List Int),x=.ref a∧y=.ref b∧SqL K H a (ns.map V.int)∧SqL K H b (ms.map V.int)∧Q (.bl (decide (ns=ms))) H
def rNeL (K:PySem.W.Frag):R2:=fun x y H Q=>∃ (a b:Addr) (ns ms:List Int),x=.ref a∧y=.ref b∧SqL K H a (ns.map V.int)∧SqL K H b (ms.map V.int)∧Q (.bl (!decide (ns=ms))) H
theorem op_eqL (hu:X.A.units+64<cLine):OpR X (compareOp .Eq) (rEqL X.K):=by
 intro pins s σ H x y v u Q I rx ry h
 obtain ⟨a,b,ns,ms,rfl,rfl,ha,hb,q⟩:=h
 cases rx
 cases ry
 obtain ⟨va,ra,pa,_⟩:=I.list ha
 obtain ⟨vb,rb,pb,_⟩:=I.list hb
 exact PySem.W.eq_intsK pa.isList (intsAre_of ra) pb.isList (intsAre_of rb) hu ⟨.bl _,H,I,rfl,q⟩
end
theorem cxOf_K {CX:CXT} {P:Program} {w:World} {K:PySem.W.Frag} {mg:Str→Option Value} {base:Heap} {N:List Str} {qual:Str} {scope:Scope} {f:Addr} {cd:Value} {A:Around} {outer:List Env} {s:Shared} {H:Hp} {E:XK}:(cxOf CX P w K mg base N qual scope f cd A outer s H E).K=K:=rfl
theorem tr_K {X:Cx} {p:List (Addr × Obj)} {W:St→XK}:(X.tr p W).K=X.K:=rfl
theorem hdl_K {X:Cx} {v:Value}:(X.hdl v).K=X.K:=rfl
theorem passF {P:Program} {w:World} {X:Cx}:PassesX (CXF P w) X (fun _=>E0):=fun _ _ _ _ _ _ _ ⟨_,_,_,_,_,_,_,_,h⟩=>h.elim
theorem Same.new {H:Hp} {p:Addr} (h:H p=none) (o:HO):Same H (upd H p o):=fun b u q=>by rw [upd_ne (ne_of_none q h)];exact q
theorem upd_none {H:Hp} {p q:Addr} {o:HO} (h:upd H p o q=none):q≠p∧H q=none:=by
 have ne:q≠p:=fun z=>by rw [z,upd_same] at h;cases h
 rw [upd_ne ne] at h
 exact ⟨ne,h⟩
theorem small {n:Nat} (h:n≤1000):n≤sizeLine:=Nat.le_of_lt (small1000 h)
section
variable {X:Cx} {x:Str} {pos p:Pos} {a c:Expr} {ta tc:TE}
theorem pe_ty {n:String} (hg:Gl X x) (hm:X.mg x=none) (hv:bootBuiltins x=some (.type n)) (hn:x≠"__name__":=by decide) (hd:(x == ("__debug__":Str))=false:=by decide):PE X (.Name x pos) (tC (.ty n)) :=
 pe_bltn (v:=.ty n) hg hm hv rfl hn hd
theorem pe_cls {C:Addr} (hg:Gl X x) (hm:X.mg x=some (.ref C)) (hd:(x == ("__debug__":Str))=false:=by decide):PE X (.Name x pos) (tC (.ref C)):=pe_glob (v:=.ref C) hg hm rfl hd
theorem pe_const {i:Int} {t:Tok} (hg:Gl X x) (hm:X.mg x=some (.int i t)) (hd:(x == ("__debug__":Str))=false:=by decide):PE X (.Name x pos) (tC (.int i)):=pe_glob (v:=.int i) hg hm ⟨t,rfl⟩ hd
theorem pe_isi (hg:Gl X "isinstance") (hm:X.mg "isinstance"=none) (ha:PE X a ta) (hc:PE X c tc) (h1:starEach [a,c] X.env=(false,eval a X.env)::starEach [c] X.env:=by rfl) (h2:starEach [c] X.env=(false,eval c X.env)::starEach [] X.env:=by rfl)
  (h3:(backTo pos (starEach [c] X.env)).any (·.1)=false:=by rfl):PE X (.Call (.Name "isinstance" p) [a,c] [] pos) (tCB (rIsi X.K) (tCons ta (tCons tc tNil))) :=
 pe_callB call_isi hg hm PyProof.Rows.boot_isinstance (pa_cons ha (pa_cons hc pa_nil h2) h1) (by decide) (by decide) h1 h3
end
theorem tSeq_step {t u:TS} {D:Ends} {σ:St} {H:Hp}:tSeq t u D σ H=t { D with nx:=u D } σ H:=rfl
theorem cut {t u:TS} {D:Ends} {σ:St} {H:Hp} (Z:St→Hp→Prop) (h1:∀ N:St→Hp→Prop,(∀ σ' H',Z σ' H'→N σ' H')→t { D with nx:=N } σ H) (h2:∀ σ' H',Z σ' H'→u D σ' H'):tSeq t u D σ H:=h1 (u D) h2
def cutI (ns:List Int) (lo hi:Option Int):List Int:=(ns.drop (HT.sIx ns.length 0 lo)).take (HT.sIx ns.length ns.length hi - HT.sIx ns.length 0 lo)
theorem cutV_int (ns:List Int) (lo hi:Option Int):cutV (ns.map V.int) lo hi=(cutI ns lo hi).map V.int:=by
 unfold cutV cutI
 rw [List.length_map,List.map_take,List.map_drop]
theorem flat_rep (k:Nat) (v:V):(List.replicate k [v]).flatten=List.replicate k v:=by
 induction k with
 | zero=>rfl
 | succ k ih=>rw [List.replicate_succ,List.flatten_cons,ih,List.replicate_succ];rfl
def HasDef (K:PySem.W.Frag) (x:Str) (st:Stmt) (f:Addr):Prop:=(∃ fd,Fun K x x st f fd)∧PySem.W.nsIn K mainGlobals x=some (some (.ref f))
theorem def_mk {K:PySem.W.Frag} {x:Str} {st:Stmt} {f:Addr} {oc:Value} {od an:Option Addr} {osl:Array (Option Value)} {kV doc pm cdv ct:Value} (a:PySem.W.nsIn K mainGlobals x=some (some (.ref f)))
  (l:K.lookup f=some ⟨oc,od,.func (PySem.W.fnOf x x (defArgs st) (defBody st) (defScope st) .none kV doc pm an cdv ct),osl⟩) (c:PySem.W.codeIn K cdv x=true) (k:PySem.W.keepIn K (.ref f)=true):HasDef K x st f :=
 ⟨⟨_,fun_mk l c k⟩,a⟩
end L2
namespace L2
open PySem PySem.Spec PyProof.Rows
section
variable {X:Cx} {pins:List (Addr × Obj)} {σ:St} {H:Hp} {s:Shared} {h':Heap}
end
def tModComp (K:PySem.W.Frag) (ti:TE) (ig iy:Nat):TS:=fun D σ H=>∃ gv:Int,σ[ig]?=some (some (.int gv))∧0<gv∧ti σ H fun v H1=>∃ (a:Addr) (ns:List Int),v=.ref a∧SqL K H1 a (ns.map V.int) ∧
 ∀ p,H1 p=none→D.nx (σ.set iy (some (.ref p))) (upd H1 p (.lst ((ns.map (·%gv)).map V.int)))
section
variable {X:Cx} {x y g:Str} {px py p1 p2 p3 pos spos:Pos} {iter:Expr} {scope:Scope} {ti:TE} {ig iy:Nat} {c:Addr}
end
end L2
namespace L2
open PySem PySem.Spec PyProof.Rows
section
variable {prog:Program} {w:World} {A:Around} {E:Value→Shared→Prop} {K:PySem.W.Frag} {hp:Heap} {gs:Array GenState} {dr:Drawn} {tk:Nat} {oz:OsState}
variable {nm qn:Str} {c N:Addr} {bs tl bmB:List Value} {dy:Bool} {sn:List Str} {sub:List Value} {ab:Bool} {col:Option Bool} {dd:Option Addr} {k0 k1 k2 k3 k5:Option Value} {B nid iid:String}
theorem xi_tree (F:ExcBaseFacts B nid iid bmB) (T:OwnTail hp bmB tl) {mN:Str→Option Value} {us:List Value} {f:Addr} {Q:Fin→Shared→Prop} (kin:K.In hp)
  (hC:hp.get? c=some (excClassObj nm qn c N bs tl dy sn sub ab col dd k0 k1 k2 k3 k5 nid)) (hN:hp.Ns N mN) (hi:mN "__init__"=some (.ref f)) (hf:PySem.W.typeIn K (.ref f)=some (.type "function"))
  (k:∀ hp' e,hp.objs.size≤e→Heap.MadeExcOf hp hp' e (.ref c) us→wpAny (model prog w) A (call (.ref f) (.ref e::us)) (fun r s'=>r=.none∧Q (.done (.ret (.ref e))) s') E ⟨hp',gs,dr,tk,oz⟩) (hl:us.length≤sizeLine) :
  wpAny (model prog w) A (Builtin.«type.__call__» ⟨.ref c::us,[]⟩) Q E ⟨hp,gs,dr,tk,oz⟩:=by
 repeat (first | with_reducible refine wpAny_madeBy_exc hC ?_ | with_reducible refine wpAny_loadPart_at hC ?_ | wp_step)
 refine codeAny_call_builtin_code (Code.quiet_builtin _ F.quiet) (wpAny_check_new_subU F F.hasB T hC (codeAny_exc_new_subU F F.hasB F T hC ?_ hl))
 show wpAny _ _ _ _ _ _
 generalize e1:hp.push { cls:=.type "tuple",data:=.seq us.toArray }=hp1
 have s1:hp1.objs.size=hp.objs.size+1:=by rw [←e1,Heap.size_push]
 have u1:∀ b o,hp.get? b=some o→hp1.get? b=some o:=fun b o z=>by rw [←e1];exact Heap.get?_push_of_some _ z
 have t1:hp1.get? hp.objs.size=some { cls:=.type "tuple",data:=.seq us.toArray }:=by rw [←e1];exact Heap.get?_push_size hp rfl
 generalize e2:hp1.push { cls:=.ref c,data:=.fields #[.ref hp.objs.size,.none,.none,.none,.bool false,.none] }=hp2
 have u2:∀ b o,hp1.get? b=some o→hp2.get? b=some o:=fun b o z=>by rw [←e2];exact Heap.get?_push_of_some _ z
 have x2:hp2.get? (hp.objs.size+1)=some { cls:=.ref c,data:=.fields #[.ref hp.objs.size,.none,.none,.none,.bool false,.none] }:=by
  rw [←e2,←s1];exact Heap.get?_push_size hp1 rfl
 have u3:∀ b o,hp.get? b=some o→hp2.get? b=some o:=fun b o z=>u2 b o (u1 b o z)
 have C2:=u3 _ _ hC
 have N2:hp2.Ns N mN:=hN.keeps u3
 have T2:=T.keeps u3
 have kin2:K.In hp2:=fun b o z=>u3 b o (kin b o z)
 have cc:(Value.ref c::tl).contains (.ref c)=true:=by simp
 unfold isInstance
 repeat (first | with_reducible refine wpAny_loadPart_at x2 ?_ | (with_reducible refine wpAny_isSubtype_exc C2 ?_;rw [cc]) | wp_step)
 show wpAny _ _ (typeLookup (.ref c) _) _ _ _
 refine wpAny_typeLookup_tail C2 N2 T2 F.mroIs F.init.lookup ?_
 rw [hi]
 refine wpAny_holding (wpAny_bind ((PySem.W.bind_fn kin2 _ hf).at ?_))
 have made:Heap.MadeExcOf hp hp2 (hp.objs.size+1) (.ref c) us:=⟨u3,Heap.get?_none_of_le (Nat.le_succ _),hp.objs.size,x2,Heap.get?_none_of_le (Nat.le_refl _),u2 _ _ t1⟩
 refine wpAny_bind (wpAny_mono (k hp2 _ (Nat.le_succ _) made) (fun r s' hr=>?_) fun _ _ z=>z)
 obtain ⟨er,hQ⟩:=hr
 subst er
 wp_walk
 exact hQ
theorem xi_call (F:ExcBaseFacts B nid iid bmB) (T:OwnTail hp bmB tl) {mN:Str→Option Value} {us:List Value} {f:Addr} {Q:Value→Shared→Prop} (kin:K.In hp)
  (hC:hp.get? c=some (excClassObj nm qn c N bs tl dy sn sub ab col dd k0 k1 k2 k3 k5 nid)) (hN:hp.Ns N mN) (hi:mN "__init__"=some (.ref f)) (hf:PySem.W.typeIn K (.ref f)=some (.type "function"))
  (k:∀ hp' e,hp.objs.size≤e→Heap.MadeExcOf hp hp' e (.ref c) us→wpAny (model prog w) (A.under (.builtin "type.__call__" ⟨.ref c::us,[]⟩)) (call (.ref f) (.ref e::us)) (fun r s'=>r=.none∧Q (.ref e) s') E ⟨hp',gs,dr,tk,oz⟩) (hl:us.length≤sizeLine) :
  wpAny (model prog w) A (call (.ref c) us) Q E ⟨hp,gs,dr,tk,oz⟩:=by
 have z1:=tc_lookup
 have z2:=tc_bind (.ref c)
 have z3:(⟨hp,gs,dr,tk,oz⟩:Shared).TypeIs (.ref c) "type":=⟨_,hC,rfl⟩
 refine wpAny_call (codeAny_of_tree ?_)
 show wpAny _ _ (callAny (.ref c) _) _ _ _
 repeat (any_goals (first | assumption | with_reducible refine wpAny_loadPart_at hC ?_ | wp_step))
 refine ⟨rfl,codeAny_call_builtin_at (Code.quiet_builtin _ (by decide +kernel)) entry_typeCall (wpAny_check_type_call_sub hC (xi_tree F T kin hC hN hi hf (fun hp' e z m=>?_) hl))⟩
 exact k hp' e z m
end
def mroT (K:PySem.W.Frag) (C R:Addr):Bool:=(PySem.W.clsIn K C).any fun cd=>cd.mro == Value.ref C::Value.ref R::bmVE
structure XA (K:PySem.W.Frag) (C R:Addr) (f:Str):Prop where
 sa:PySem.W.findIn K (.ref C) "__setattr__"=some (some (.builtin "object.__setattr__"))
 hd:PySem.W.hasDictIn K C=true
 mr:mroT K C R=true
 no:PySem.W.findIn K (.ref C) f=some none
 ek:ExcK K C
section
variable {prog:Program} {w:World} {A:Around} {E:Value→Shared→Prop} {K:PySem.W.Frag} {s:Shared} {x C R:Addr} {ox:Obj} {vs:Array Value} {f:Str} {v:Value}
theorem xset_tree {Q:Unit→Shared→Prop} (kin:K.In s.heap) (c:XA K C R f) (hx:s.heap.get? x=some ox) (hc:ox.cls=.ref C) (hd:ox.data=.fields vs) (hn:ox.dict=none)
  (k:∀ h' dx,s.heap.get? dx=none→dx≠x→h'.get? x=some { ox with dict:=some dx }→h'.Ns1 dx (fun y=>if y=f then some v else none)→(∀ b o,b≠x→s.heap.get? b=some o→h'.get? b=some o)→Q () { s with heap:=h',toks:=s.toks+2 }) :
  wpAny (model prog w) A (setAttr (.ref x) f v) Q E s:=by
 obtain ⟨oc,od,dt,sl⟩:=ox
 dsimp only at hc hd hn
 subst hc hd hn
 have SF:=PySem.F.store_object
 have SV:=PySem.F.store_ValueError
 have I:PySem.W.InstAt s.heap x ⟨.ref C,none,.fields vs,sl⟩ C none:=⟨hx,rfl,rfl,trivial⟩
 refine PySem.W.set_plain kin I c.sa ?_
 obtain ⟨cd,hcd,hm0⟩:=PySem.W.any_some c.mr
 have hm1:cd.mro=Value.ref C::Value.ref R::bmVE:=beq_iff_eq.mp hm0
 obtain ⟨cd',hcd',hdd⟩:=PySem.W.any_some c.hd
 have ecd:cd'=cd:=Option.some.inj (hcd'.symm.trans hcd)
 subst ecd
 generalize es:({ s with toks:=s.toks+1 }:Shared)=s1
 have hp1:s1.heap=s.heap:=by rw [←es]
 have ty:PySem.W.Looks (model prog w) s1.heap (typeOf (.ref x)) (.ref C):=by rw [hp1];exact I.type
 have mo:PySem.W.Looks (model prog w) s1.heap (isInstance (.ref x) (.type "object")) true:=ty.andThen (by rw [hp1];exact PySem.W.looks_mroIn kin c.ek.mo)
 have ml:PySem.W.Looks (model prog w) s1.heap (mroOf (.ref C)) cd'.mro:=by rw [hp1];exact (PySem.W.looks_clsIn kin hcd).andThen .now
 have lf:PySem.W.Looks (model prog w) s1.heap (typeLookup (.ref C) f) none:=by rw [hp1];exact PySem.W.looks_findIn kin c.no
 refine codeAny_call_builtin SF.slot.plain SF.entry (@PySem.W.check_slot (model prog w) _ _ s1 "object.__setattr__" "object" "__setattr__" (.ref x) [.str f s.toks,v] [] _ SF.kind SF.split mo (SF.args (.ref x) (.str f s.toks) v) ?_)
 rw [PySem.W.osa_eq,refuse_eq]
 refine wpAny_bind (wpAny_bind (ty.here (wpAny_bind (ml.here ?_))))
 rw [hm1,refuseLoop_ref,refuseLoop_ref,SV.passes]
 refine wpAny_pure (wpAny_bind (ty.here (wpAny_bind (lf.here (wpAny_bind ?_)))))
 refine wpAny_pure (a:=(none:Option Value)) ?_
 have hx1:s1.heap.get? x=some ⟨.ref C,none,.fields vs,sl⟩:=by rw [hp1];exact hx
 have lc:PySem.W.Looks (model prog w) s1.heap (classData C) cd':=by rw [hp1];exact PySem.W.looks_clsIn kin hcd
 refine wpAny_bind (wpAny_pure (wpAny_bind (wpAny_bind (wpAny_loadPart hx1 (wpAny_bind (lc.here ?_))))))
 rw [hdd]
 have nx:x≠s1.heap.objs.size:=Nat.ne_of_lt (Heap.lt_size hx1)
 have hx2:(s1.heap.push { cls:=.type "dict",data:=.dict #[] }).get? x=some ⟨.ref C,none,.fields vs,sl⟩:=Heap.get?_push_of_some _ hx1
 refine wpAny_bind (wpAny_alloc' (wpAny_bind (wpAny_update' hx2 (wpAny_pure ?_))))
 generalize e3:(s1.heap.push { cls:=.type "dict",data:=.dict #[] }).update x (fun o=>{ cls:=o.cls,dict:=some s1.heap.objs.size,data:=o.data,slots:=o.slots })=h3
 have d3:h3.get? s1.heap.objs.size=some { cls:=.type "dict",data:=.dict #[] }:=by rw [←e3];exact (Heap.get?_update_ne _ _ _ _ nx.symm).trans (Heap.get?_push_size s1.heap rfl)
 have x3:h3.get? x=some ⟨.ref C,some s1.heap.objs.size,.fields vs,sl⟩:=by rw [←e3];exact Heap.get?_update_self _ hx2 rfl
 have o3:∀ b o,b≠x→s1.heap.get? b=some o→h3.get? b=some o:=fun b o nb z=>by rw [←e3];exact (Heap.get?_update_ne _ _ _ _ nb).trans (Heap.get?_push_of_some _ z)
 have n3:h3.Ns s1.heap.objs.size (fun _=>none):=⟨_,#[],_,d3,rfl,fun e he=>absurd he (by simp),fun _=>rfl⟩
 show wpAny _ _ (Builtin.ObjectAttr.storeInDict s1.heap.objs.size (.str f s.toks) f v) _ _ _
 unfold Builtin.ObjectAttr.storeInDict Builtin.ObjectAttr.newKeyGuard
 refine wpAny_bind (wpAny_pure (wpAny_bind (wpAny_nsSet1 (Heap.Ns1.of_empty n3) fun h4 n4 sb=>?_)))
 obtain ⟨oD,esD,epD,hoD,hdD,hcD⟩:=n4.count (PySem.Within.cons f v PySem.Within.nil)
 refine wpAny_bind (wpAny_lookBehind hoD (by rw [hdD];exact pastItsLine_dict (Nat.le_trans hcD (by rw [List.length_cons,List.length_nil,sizeLine_eq];lia))) ?_)
 subst es
 exact wpAny_pure (k h4 _ (Heap.get?_none_of_le (Nat.le_refl _)) nx.symm ((sb.2 x nx).trans x3) n4 fun b o nb z=>(sb.2 b (Nat.ne_of_lt (Heap.lt_size z))).trans (o3 b o nb z))
end
def drop (H:Hp) (a:Addr):Hp:=fun b=>if b=a then none else H b
theorem drop_same {H:Hp} {a:Addr}:drop H a a=none:=by unfold drop;rw [if_pos rfl]
theorem drop_ne {H:Hp} {a b:Addr} (h:b≠a):drop H a b=H b:=by unfold drop;rw [if_neg h]
theorem drop_some {H:Hp} {a b:Addr} {o:HO} (h:drop H a b=some o):b≠a∧H b=some o:=by
 have ne:b≠a:=fun z=>by rw [z,drop_same] at h;cases h
 rw [drop_ne ne] at h
 exact ⟨ne,h⟩
section
variable {X:Cx} {pins:List (Addr × Obj)} {σ:St} {H:Hp} {s:Shared} {A:Around} {E:Value→Shared→Prop} {a C R dx:Addr} {f:Str} {n:Bool}
theorem xset_ok {y:V} {u:Value} {Q:Unit→Shared→Prop} (I:Inv X pins σ H s) (e:H a=some (exo a (.ref C) none n)) (c:XA X.K C R f) (ry:RelV y u)
  (h:∀ dx s',H dx=none→Inv X pins σ (upd (upd H a (exo a (.ref C) (some dx) n)) dx (.xd [(f,y)])) s'→Q () s'):wpAny (model X.prog X.w) A (setAttr (.ref a) f u) Q E s:=by
 obtain ⟨⟨ox,vs,hx,hc,hd,hn,hfr⟩,_,_⟩:=(show ObjOk X.prog X.w H s.heap a (.ext (excIs a (.ref C) none n)) from I.hok a _ e)
 refine xset_tree I.kIn c hx hc hd hn fun h' dx nd ne x1 n1 k1=>?_
 have hdx:H dx=none:=by
  cases q:H dx with
  | none=>rfl
  | some o =>
   obtain ⟨ob,z⟩:=(I.hok dx o q).somewhere
   rw [nd] at z;cases z
 have na:∀ b,H b=none→b≠a:=fun b z w=>by rw [w,e] at z;cases z
 have nb:∀ b o,s.heap.get? b=some o→b≠dx:=fun b o z w=>by rw [w,nd] at z;cases z
 have nh:∀ b o,H b=some o→b≠dx:=fun b o z=>ne_of_none z hdx
 have at2:∀ b,b≠a→b≠dx→upd (upd H a (exo a (.ref C) (some dx) n)) dx (.xd [(f,y)]) b=H b:=fun b z1 z2=>by rw [upd_ne z2,upd_ne z1]
 refine h dx _ hdx (I.un (h':=h') (t':=s.toks+2) ⟨fun b o q z _ _=>k1 b o (na b z) q,fun b o q z _ _=>⟨o.slots,k1 b o (na b z) q⟩,fun b o q z _=>by rw [at2 b (na b z) (nb b o q)];exact z,fun b o q _=>?_,fun b xs q=>?_,fun b o v q=>?_,fun b ps q=>?_⟩ fun b v q=>?_)
 ·by_cases w:b=a
  ·rw [w];exact ⟨_,x1⟩
  ·exact ⟨o,k1 b o w q⟩
 ·rw [at2 b (fun w=>by rw [w,e] at q;cases q) (nh b _ q)];exact q
 ·rw [at2 b (fun w=>by rw [w,e] at q;cases q) (nh b _ q)];exact q
 ·exact ⟨#[],by rw [at2 b (fun w=>by rw [w,e] at q;cases q) (nh b _ q),q];simp⟩
 ·by_cases w:b=dx
  ·rw [w,upd_same] at q
   cases q
   rw [w]
   refine ⟨_,n1,fun g=>?_⟩
   by_cases z:g=f
   ·rw [z,if_pos rfl,List.lookup_cons_self];exact ry
   ·rw [if_neg z,List.lookup_cons,beq_false_of_ne z];exact True.intro
  ·rw [upd_ne w] at q
   by_cases z:b=a
   ·rw [z,upd_same] at q
    cases q
    rw [z]
    exact ⟨⟨_,vs,x1,hc,hd,rfl,hfr⟩,⟨_,x1⟩,fun h1 h2 ⟨o,ws,e,r⟩ k=>⟨o,ws,k o e,r⟩⟩
   ·rw [upd_ne z] at q
    refine (I.hok b v q).stay (fun c2 o hc2 r=>k1 c2 o ?_ r) (fun c2 r=>by rw [at2 c2 (fun w2=>by rw [w2,e] at r;cases r) (nh c2 _ r)];exact r) fun c2 xs r=>by rw [at2 c2 (fun w2=>by rw [w2,e] at r;cases r) (nh c2 _ r)];exact r
    rcases hc2 with w2 | w2
    ·rw [w2];exact z
    ·intro w3
     rw [w3,e] at w2;cases w2
end
def exI (K:PySem.W.Frag) (C f:Addr):Bool:=(K.lookup C).any fun o=>match o with
 | ⟨.type t,_,.cls d,sl⟩=>t == "type" && (match d.mro with
  | .ref c::tl=>c == C && PySem.W.tailIn K bmVE tl
  | _=>false) && (match sl.toList with
  | [_,_,_,_,some (.builtin m),_]=>m == "ValueError.__new__"
  | _=>false) && !d.hasDel && PySem.W.nsOkIn K d.ns && PySem.W.nsIn K d.ns "__init__" == some (some (.ref f))
 | _=>false
theorem ns_some {K:PySem.W.Frag} {h:Heap} {N:Addr} {m:Str→Option Value} {x:Str} {v:Value} (kin:K.In h) (g:h.Ns N m) (e:PySem.W.nsIn K N x=some (some v)):m x=some v:=by
 obtain ⟨o,es,ep,ho,hd,_,hf⟩:=g
 unfold PySem.W.nsIn at e
 split at e
 ·rename_i es' n' sl q
  have z:=kin _ _ q
  rw [ho] at z
  cases z
  cases hd
  split at e
  ·rename_i en he
   cases e
   rw [←hf]
   unfold nsFind findBy
   rw [←Array.find?_toList,he]
   rfl
  ·split at e <;> cases e
 ·cases e
theorem exi_obj {K:PySem.W.Frag} {h:Heap} {C f:Addr} (kin:K.In h) (q:exI K C f=true) :
  ∃ tl N nm qn bs dy sn sub ab col dd k0 k1 k2 k3 k5 mN,h.get? C=some (excClassObj nm qn C N bs tl dy sn sub ab col dd k0 k1 k2 k3 k5 "ValueError.__new__")∧h.Ns N mN∧mN "__init__"=some (.ref f)∧OwnTail h bmVE tl:=by
 unfold exI at q
 cases ho:K.lookup C with
 | none=>rw [ho] at q;cases q
 | some o =>
  rw [ho] at q
  simp only [Option.any_some] at q
  split at q
  next t dd d sl =>
   simp only [Bool.and_eq_true,beq_iff_eq,Bool.not_eq_true'] at q
   obtain ⟨⟨⟨⟨⟨e1,e2⟩,e3⟩,e4⟩,e5⟩,e6⟩:=q
   subst e1
   split at e2
   next c tl hm =>
    simp only [Bool.and_eq_true,beq_iff_eq] at e2
    obtain ⟨e7,e8⟩:=e2
    subst e7
    split at e3
    next k0 k1 k2 k3 m k5 hs =>
     simp only [beq_iff_eq] at e3
     subst e3
     obtain ⟨nm,bs,mro,N,qn,dy,sn,sub,ab,col,del⟩:=d
     dsimp only at hm e4 e5 e6
     subst hm e4
     have e9:sl=#[k0,k1,k2,k3,some (.builtin "ValueError.__new__"),k5]:=by
      obtain ⟨l⟩:=sl
      simp only at hs
      rw [hs]
     subst e9
     have g:h.Ns N (h.nsMap N):=.of_isNs (PySem.W.isNs_of_in kin e5)
     exact ⟨tl,N,nm,qn,bs,dy,sn,sub,ab,col,dd,k0,k1,k2,k3,k5,_,kin _ _ ho,g,ns_some kin g e6,PySem.W.tail_of_in kin e8⟩
    next=>cases e3
   next=>cases e2
  next=>cases q
structure XMk (K:PySem.W.Frag) (C f:Addr):Prop where
 ci:exI K C f=true
 fn:PySem.W.typeIn K (.ref f)=some (.type "function")
 kp:PySem.W.keepIn K (.ref C)=true
section
variable {X:Cx} {pins:List (Addr × Obj)} {σ:St} {H:Hp} {s:Shared} {C f:Addr} {k:Nat} {fd:FuncData} {ps:List Str} {sp:Sp} {us:List Value} {vs:List V}
theorem run_newx {Q:VK} (M:XMk X.K C f) (F:FnOk X.prog X.w X.K X.mg X.base (CXF X.prog X.w) k f fd ps sp) (hr:Room (k+1) X.A) (hb:Binds X.K fd ps []) (I:Inv X pins σ H s) (r:Vals vs us) (hz:vs.length≤sizeLine)
  (h:∀ a,H a=none→sp (.ref a::vs) (upd H a (exo a (.ref C) none true)) (fun v H2=>v=.non∧Q (.ref a) H2) E0) :
  wpAny (model X.prog X.w) X.A (call (.ref C) us) (fun v s'=>∃ a H',v=.ref a∧s.heap.get? a=none∧Inv X pins σ H' s'∧Q (.ref a) H') X.xe s:=by
 obtain ⟨tl,N,nm,qn,bs,dy,sn,sub,ab,col,dd,k0,k1,k2,k3,k5,mN,hO,hN,hi,T⟩:=exi_obj I.kIn M.ci
 obtain ⟨hp,g,d,t,os⟩:=s
 refine xi_call PySem.F.excBase_ValueError T I.kIn hO hN hi M.fn (fun hp' e hsz m=>?_) (by rw [←r.length];exact hz)
 obtain ⟨t',he,ht,_⟩:=m.there
 have I2:Inv X pins σ (upd H e (exo e (.ref C) none true)) ⟨hp',g,d,t,os⟩:=I.laid (t':=t) m.keeps hsz
  ⟨⟨_,_,he,rfl,rfl,rfl,fun _=>⟨t',rfl⟩⟩,⟨_,he⟩,fun h1 h2 ⟨o,ws,e,r⟩ k=>⟨o,ws,k o e,r⟩⟩
 have hq:=h e (I.hok.fresh hsz)
 have r2:Vals (V.ref e::vs) (Value.ref e::us):=.cons rfl r
 have hl:(Value.ref e::us++[]).length=ps.length:=by
  rw [List.append_nil,←r2.length]
  exact F.len _ _ _ _ hq
 have bb:=hb ⟨hp',g,d,t,os⟩ (Value.ref e::us) I2.kIn hl
 rw [List.append_nil] at bb
 refine wpAny_call (codeAny_mono (F.run _ X.stack _ _ ⟨Value.ref e::us,[]⟩ (Value.ref e::us) _ _ E0 (hr.make C us []) (I2.env0.make C us []) bb r2 hq) fun rs s2 hq2=>?_)
 rcases rs with er | fl
 ·obtain ⟨_,_,_,_,_,_,_,_,z⟩:=hq2
  exact z.elim
 ·cases fl with
  | ret u =>
   obtain ⟨v,H',I3,rv,ev,q3⟩:=I2.after hq2
   subst ev
   exact ⟨rv,e,H',rfl,m.new,I3,q3⟩
  | next=>exact False.elim hq2
  | brk=>exact False.elim hq2
  | cont=>exact False.elim hq2
end
def tNewX (C:Addr) (sp:Sp) (t:TA):TE:=fun σ H Q=>t σ H fun vs H1=>vs.length≤sizeLine∧∀ a,H1 a=none→sp (.ref a::vs) (upd H1 a (exo a (.ref C) none true)) (fun v H2=>v=.non∧Q (.ref a) H2) E0
def tRaiseI (C:Addr) (sp:Sp) (E:XK) (t:TA):TS:=fun _ σ H=>tNewX C sp t σ H fun v H2=>∃ a D,v=.ref a∧H2 a=some (exo a (.ref C) D true)∧E (.ref C) D (drop H2 a)
def tXat (K:PySem.W.Frag) (ta:TE) (f:Str):TE:=fun σ H Q=>ta σ H fun x H1=>∃ a C R dx n fs v,x=.ref a∧H1 a=some (exo a (.ref C) (some dx) n)∧H1 dx=some (.xd fs)∧XA K C R f∧fs.lookup f=some v∧Q v H1
def sXat (K:PySem.W.Frag) (ta tv:TE) (f:Str):TS:=fun D σ H=>tv σ H fun y H1=>ta σ H1 fun x H2=>∃ a C R n,x=.ref a∧H2 a=some (exo a (.ref C) none n)∧XA K C R f∧∀ dx,H2 dx=none→D.nx σ (upd (upd H2 a (exo a (.ref C) (some dx) n)) dx (.xd [(f,y)]))
def RaisesI (X:Cx) (C:Value) (E:XK):Prop:=∀ (pins:List (Addr × Obj)) (σ:St) (H:Hp) (s:Shared) (a:Addr) (D:Option Addr),Inv X pins σ H s→X.s₀.heap.get? a=none→H a=some (exo a C D true)→E C D (drop H a)→X.xe (.ref a) s
section
variable {P:Program} {w:World} {K:PySem.W.Frag} {mg:Str→Option Value} {base:Heap} {N:List Str} {qual:Str} {scope:Scope} {f:Addr} {cd:Value} {A:Around} {outer:List Env} {s:Shared} {H:Hp} {E:XK}
theorem raisesI_body {nc:Bool} {C:Value}:RaisesI (cxOf (CXC nc P w) P w K mg base N qual scope f cd A outer s H E) C E:=by
 intro pins σ H1 s1 a D I ha0 ea hE
 generalize hX:cxOf (CXC nc P w) P w K mg base N qual scope f cd A outer s H E=X at I ha0 ⊢
 have hst:X.stack=X.env::X.outer:=by rw [←hX];rfl
 have hfr:X.env.frame=some X.env.locals:=by rw [←hX];rfl
 have hxe:X.xe=fun e s'=>wpAny (model P w) X.A (leaving X.env e) (fun _ s''=>CXC nc P w X.outer X.H₀ X.s₀ E e s'') (fun e' s''=>CXC nc P w X.outer X.H₀ X.s₀ E e' s'') s':=by rw [←hX];rfl
 have hex:X.ex=[]:=by rw [←hX];rfl
 have hp:X.prog=P:=by rw [←hX];rfl
 have hw:X.w=w:=by rw [←hX];rfl
 subst hp hw
 rw [hxe]
 obtain ⟨⟨oe,vs,he,hcl,hd,hdt,hfs⟩,_,_⟩:=(show ObjOk X.prog X.w H1 s1.heap a (.ext (excIs a C D true)) from I.hok a _ ea)
 obtain ⟨t,hv⟩:=hfs rfl
 subst hv hcl
 have fr:=I.stack
 have hin:∀ env∈X.stack,∀ b,env.frame=some b→b∈a::frs X.stack:=fun env he b hb=>List.mem_cons_of_mem _ (List.mem_filterMap.mpr ⟨env,he,hb⟩)
 have fr':s1.heap.FunFrames (PySem.W.hideAll s1.heap (a::frs X.stack)) (X.env::X.outer):=by rw [←hst];exact PySem.W.funFrames_hide fr hin
 have hen:(PySem.W.hideAll s1.heap (a::frs X.stack)).get? a=none:=PySem.W.hideAll_none _ (List.mem_cons_self ..)
 refine wpAny_mono (KT.run (kt_leaving _ _) (wpAny_leaving_firstW (Q:=fun _ s2=>∃ h2,s2={ s1 with heap:=h2 }∧Heap.LeftW (PySem.W.hideAll s1.heap (a::frs X.stack)) (X.env::X.outer) a oe.cls (.ref t) s1.heap h2) (E:=fun _ _=>False) (a0:=.ref t) (by rw [←hst];exact I.ok.frames) fr' hfr he (fun b o q=>PySem.W.of_hideAll _ q) hen hd rfl rfl fun h2 z=>⟨h2,rfl,z⟩)) (fun _ s2 q=>?_) fun _ _ q=>q.1.elim
 obtain ⟨⟨h2,rfl,k1,⟨k0,kk,k2⟩,k3,k4⟩,dk⟩:=q
 have fl:Heap.FlyingW (PySem.W.hideAll s1.heap (a::frs X.stack)) X.outer a oe.cls (.ref t) h2:=⟨k1,hen,k2,k3⟩
 have naf:a∉frs X.stack:=fun z=>by
  have y:=I.stkFree a z
  rw [ea] at y;cases y
 have nin:∀ b,b∉frs X.stack→b≠a→b∉a::frs X.stack:=fun b z1 z2 z=>(List.mem_cons.mp z).elim z2 z1
 have kept:∀ b o,s1.heap.get? b=some o→b∉frs X.stack→b≠a→h2.get? b=some o:=fun b o q hb hn=>k1 b o (PySem.W.hideAll_get _ q (nin b hb hn))
 have nea:∀ b,H1 b=none→b≠a:=fun b z w=>by rw [w,ea] at z;cases z
 have slt:∀ b o,s1.heap.get? b=some o→b∈frs X.stack→∃ sl,h2.get? b=some { o with slots:=sl }:=fun b o q hb=>k4 b o q (I.frameData q hb)
 obtain ⟨ob,hob,_⟩:=fl.there
 have un1:Un (frs X.stack) [] H1 (drop H1 a) s1.heap h2:=⟨fun b o q z hb _=>kept b o q hb (nea b z),fun b o q _ hb _=>slt b o q hb,fun b o q z _=>by rw [drop_ne (nea b z)];exact z,fun b o q _=>by
  by_cases hb:b∈frs X.stack
  ·obtain ⟨sl,z⟩:=slt b o q hb
   exact ⟨_,z⟩
  ·by_cases hn:b=a
   ·rw [hn];exact ⟨ob,hob⟩
   ·exact ⟨o,kept b o q hb hn⟩,fun b xs q=>by rw [drop_ne fun z=>by rw [z,ea] at q;cases q];exact q,fun b o u q=>by rw [drop_ne fun z=>by rw [z,ea] at q;cases q];exact q,fun b ps q=>⟨#[],by rw [drop_ne (fun z=>by rw [z,ea] at q;cases q),q];simp⟩⟩
 have hok1:HOk X.prog X.w (drop H1 a) h2:=fun b u q=>by
  obtain ⟨hn,q'⟩:=drop_some q
  refine (I.hok b u q').stay (fun c v hc r=>?_) (fun c z=>by rw [drop_ne fun z2=>by rw [z2,ea] at z;cases z];exact z) fun c xs z=>by rw [drop_ne fun z2=>by rw [z2,ea] at z;cases z];exact z
  rcases hc with z | z
  ·refine kept c v r (fun y=>?_) (by rw [z];exact hn)
   have y':=I.stkFree c y
   rw [z,q'] at y';cases y'
  ·refine kept c v r (fun y=>?_) fun y=>?_
   ·have y':=I.stkFree c y
    rw [z] at y';cases y'
   ·rw [y,ea] at z;cases z
 have J:Inv X pins σ (drop H1 a) { s1 with heap:=h2,toks:=s1.toks }:=I.call (g':=s1.gens) (d':=s1.drawn) (ch:=[]) un1 hok1 I.bare fun b z=>absurd z (by simp)
 have un:Un (frs X.outer) [] X.H₀ (drop H1 a) X.s₀.heap h2:=by have z:=J.base;rw [hex] at z;exact z
 refine ⟨a,oe.cls,.ref t,D,_,drop H1 a,rfl,⟨J.os,J.bare,un,J.hok,fl,fun b o q hb o' q'=>?_,fun b u q o' q'=>?_,⟨ob,hob,(dk.get he hob).1.trans hdt⟩,fun _=>⟨ob,hob,(dk.get he hob).2.trans (by unfold ctxOf;rw [hd];rfl)⟩⟩,hE⟩
 ·obtain ⟨o1,q1⟩:=I.base.there b o q (by rw [hex];simp)
  have hn:b∉frs X.stack:=fun z=>by
   rcases List.mem_cons.mp (I.stkSub b z) with y | y
   ·exact absurd (Nat.lt_of_lt_of_le (Heap.lt_size q) I.ok.above) (by rw [y];exact Nat.lt_irrefl _)
   ·exact hb y
  have hne:b≠a:=fun z=>by rw [z,ha0] at q;cases q
  have q2:=kept b o1 q1 hn hne
  rw [q'] at q2;cases q2
  exact PySem.W.hideAll_get _ q1 (nin b hn hne)
 ·obtain ⟨hne,qq⟩:=drop_some q
  have hn:b∉frs X.stack:=fun z=>by
   have y:=I.stkFree b z
   rw [qq] at y;cases y
  obtain ⟨o1,r⟩:=(I.hok b u qq).somewhere
  have q2:=kept b o1 r hn hne
  rw [q'] at q2;cases q2
  exact PySem.W.hideAll_get _ r (nin b hn hne)
end
section
variable {M:Model} {A:Around} {E:Value→Shared→Prop} {s:Shared} {env:Env} {nm qn:Str} {C N:Addr} {bs tl:List Value} {dy:Bool} {sn:List Str} {sub:List Value} {ab:Bool} {col:Option Bool} {dd:Option Addr} {k0 k1 k2 k3 k5:Option Value} {nid:String}
theorem raise_made {x:Sem Value} {Q:Flow→Shared→Prop} (hb:tl.contains (.type "BaseException")=true) (hh:A.handled=none)
  (h:wpAny M A x (fun v s1=>∃ (a t:Addr) (D:Option Addr) (sl:Array (Option Value)),v=.ref a∧s1.heap.get? C=some (excClassObj nm qn C N bs tl dy sn sub ab col dd k0 k1 k2 k3 k5 nid) ∧
   s1.heap.get? a=some ⟨.ref C,D,.fields #[.ref t,.none,.none,.none,.bool false,.none],sl⟩∧E (.ref a) s1) E s):wpAny M A (raiseStmt env (some x) none) Q E s:=by
 have hcB:(Value.ref C::tl).contains (.type "BaseException")=true:=by rw [List.contains_cons,hb,Bool.or_true]
 unfold raiseStmt
 refine wpAny_bind (wpAny_mono h (fun v s1 h1=>?_) fun _ _ x=>x)
 obtain ⟨a,t,D,sl,rfl,hC,he,hE⟩:=h1
 obtain ⟨hp,g,d,tk,os⟩:=s1
 repeat (first | with_reducible refine wpAny_loadPart_at hC ?_ | with_reducible refine wpAny_loadPart_at he ?_ | (with_reducible refine wpAny_isSubtype_exc hC ?_;rw [hcB]) | wp_step)
 exact wpAny_raiseNew_none hh hE
end
section
variable {X:Cx} {C f:Addr} {k:Nat} {fd:FuncData} {ps:List Str} {sp:Sp} {x fld:Str} {E:XK} {e o value:Expr} {es:List Expr} {t:TA} {ta tv:TE} {np cpos pos pos':Pos}
theorem ps_raiseI (hc:X.calm=true) (M:XMk X.K C f) (F:FnOk X.prog X.w X.K X.mg X.base (CXF X.prog X.w) k f fd ps sp) (hr:Room (k+1) X.A) (hb:Binds X.K fd ps []) (hg:Gl X x) (hm:X.mg x=some (.ref C)) (hx:RaisesI X (.ref C) E) (ha:PA X (e::es) t) (hex:X.ex=[]:=by rfl)
  (hdb:(x == ("__debug__":Str))=false:=by decide) (he:starEach (e::es) X.env=(false,eval e X.env)::starEach es X.env:=by rfl) (hpl:(backTo cpos (starEach es X.env)).any (·.1)=false:=by rfl) :
  PS X (.Raise (some (.Call (.Name x np) (e::es) [] cpos)) none pos) (tRaiseI C sp E t):=by
 intro pins s σ H D I h
 obtain ⟨tl,N,nm,qn,bs,dy,sn,sub,ab,col,dd,k0,k1,k2,k3,k5,mN,hO,hN,hni,T⟩:=exi_obj I.mod.kin M.ci
 have FB:=PySem.F.excBase_ValueError
 rw [arm_exec_Raise]
 have call:wpAny (model X.prog X.w) X.A (eval (.Call (.Name x np) (e::es) [] cpos) X.env) (fun v s2=>∃ (a t:Addr) (D:Option Addr) (sl:Array (Option Value)),v=.ref a∧s2.heap.get? C=some (excClassObj nm qn C N bs tl dy sn sub ab col dd k0 k1 k2 k3 k5 "ValueError.__new__") ∧
   s2.heap.get? a=some ⟨.ref C,D,.fields #[.ref t,.none,.none,.none,.bool false,.none],sl⟩∧X.xe (.ref a) s2) X.xe s:=by
  refine wpAny_Call_Name_kw (ld_glob I hg hm ?_ hdb)
  refine PySem.W.callWith_K (h₀:=X.base) I.ok.mod.kin M.kp (thn (ha cpos pins s σ H _ I h) fun us s1 ⟨vs,H1,I1,r,hz,q⟩=>⟨I1.kIn,?_⟩) he hpl
  refine thn (run_newx (Q:=fun v H2=>∃ a D,v=.ref a∧H2 a=some (exo a (.ref C) D true)∧E (.ref C) D (drop H2 a)) M F hr hb I1 r hz q) fun v s2 z=>?_
  obtain ⟨a,H2,ev,hn,I2,a',D',ea',h2,hE⟩:=z
  cases ea'
  obtain ⟨⟨oe,vs',he',hcl,hd,hdt,hfs⟩,_,_⟩:=(show ObjOk X.prog X.w H2 s2.heap a (.ext (excIs a (.ref C) D' true)) from I2.hok a _ h2)
  obtain ⟨t',hv⟩:=hfs rfl
  subst hv
  obtain ⟨c1,c2,c3,c4⟩:=oe
  dsimp only at hcl hd hdt
  subst hcl hd hdt
  refine ⟨a,t',_,_,ev,I2.bk _ _ hO,he',hx pins σ H2 s2 a _ I2 ?_ h2 hE⟩
  cases q0:X.s₀.heap.get? a with
  | none=>rfl
  | some o0 =>
   obtain ⟨o1,q1⟩:=I1.base.there a o0 q0 (by rw [hex];simp)
   rw [hn] at q1;cases q1
 exact wpAny_bind (wpAny_standAt (raise_made (C:=C) (nm:=nm) (qn:=qn) (N:=N) (bs:=bs) (tl:=tl) (dy:=dy) (sn:=sn) (sub:=sub) (ab:=ab) (col:=col) (dd:=dd) (k0:=k0) (k1:=k1) (k2:=k2) (k3:=k3) (k5:=k5) (nid:="ValueError.__new__") (T.hasType FB.hasBase) (I.ok.hd hc)
  (wpAny_bind (wpAny_mono call (fun v s3 h3=>wpAny_bind (wpAny_standAt (wpAny_pure h3))) fun _ _ z=>z))))
theorem ps_xat (ha:PE X o ta) (hv:PE X value tv) (hs:swapsWith value (some (.Attribute o fld pos')) pos.line X.env=pure false:=by rfl):PS X (.Assign [.Attribute o fld pos'] value pos) (sXat X.K ta tv fld):=by
 intro pins s σ H D I h
 refine plainObj_wpAny_Assign_Attribute (thn (hv pins s σ H _ I h) fun u s1 ⟨y,H1,I1,ry,q⟩=>thn (ha pins s1 σ H1 _ I1 q) fun ov s2 ⟨x,H2,I2,rx,a,C,R,n,ex,ea,c,q2⟩=>?_) hs
 subst ex
 obtain rfl:ov=Value.ref a:=rx
 exact xset_ok I2 ea c ry fun dx s3 hdx I3=>⟨σ,_,I3,q2 dx hdx⟩
end
end L2
namespace L2
open PySem PySem.Spec PyProof.Rows
section
variable {X:Cx} {pins:List (Addr × Obj)} {σ:St} {H:Hp} {s:Shared} {h':Heap}
theorem Inv.turnedNew {t':Nat} {ch:List Addr} {p:Addr} {o:HO} (I:Inv X pins σ H s) (hf:∀ b∈ch,FpOk X pins H b) (k:∀ b u,b∉ch→s.heap.get? b=some u→h'.get? b=some u) (hp:s.heap.objs.size≤p)
  (new:ObjOk X.prog X.w (upd H p o) h' p o):Inv X pins σ (upd H p o) { s with heap:=h',toks:=t' }:=by
 have hpn:H p=none:=I.hok.fresh hp
 have nit:∀ b u,H b=some u→b∉ch:=fun b u e z=>by rw [(hf b z).1] at e;cases e
 have np:∀ b u,s.heap.get? b=some u→b≠p:=fun b u e=>Nat.ne_of_lt (Nat.lt_of_lt_of_le (Heap.lt_size e) hp)
 refine I.step (g':=s.gens) (d':=s.drawn) (ch:=ch) (fun b hb=>⟨(hf b hb).2.2.2.1,(hf b hb).2.1,(hf b hb).2.2.2.2.1,(hf b hb).2.2.2.2.2⟩) (fun b u _ _ hc e _=>k b u hc e) (fun b u _ _ hc e _=>⟨u.slots,k b u hc e⟩)
  (fun b u _ e n=>by rw [upd_ne (np b u e)];exact n) (fun b u hc e=>⟨u,k b u hc e⟩) (fun b xs e=>by rw [upd_ne (ne_of_none e hpn)];exact e) (fun b u v e=>by rw [upd_ne (ne_of_none e hpn)];exact e)
  (fun b ps e=>⟨#[],by rw [upd_ne (ne_of_none e hpn),e];simp⟩) (fun m hm=>?_) (fun b u e=>?_) I.bare
 ·obtain ⟨o,es,ep,ho,r⟩:=hm
  exact ⟨o,es,ep,k _ o (fun z=>(hf _ z).2.1 rfl) ho,r⟩
 ·by_cases z:b=p
  ·subst z
   rw [upd_same] at e
   cases e
   exact new
  ·rw [upd_ne z] at e
   refine (I.hok b u e).stay (fun c v hc q=>k c v ?_ q) (fun c q=>by rw [upd_ne (ne_of_none q hpn)];exact q) fun c xs q=>by rw [upd_ne (ne_of_none q hpn)];exact q
   rcases hc with y | y
   ·rw [y];exact nit b u e
   ·exact nit c _ y
end
def Ite (K:PySem.W.Frag) (a:Addr):It :=
 ⟨fun i H=>∃ xs x,SqL K H a xs∧xs[i]?=some x,fun i H v H'=>∃ p x,v=.ref p∧H p=none∧H'=upd H p (.tup [.int i,x])∧∀ xs,SqL K H a xs→xs[i]?=some x,fun i H=>∃ xs,SqL K H a xs∧xs.length≤i⟩
theorem turn_enum {P:Program} {w:World} {K:PySem.W.Frag} {elts:List Expr} {ctx} {tpos:Pos} (a e it:Addr) (hne:e≠it) :
  Turn P w K (.Tuple elts ctx tpos) (Ite K a) [e,it] e (fun i h=>(∃ old,IsEnum h e it ((i:Nat):Int) old)∧h.IsListIter it a i) where
 mem:=by simp
 obj:=fun i h st b hb=>by
  obtain ⟨⟨old,q⟩,o,e1,c,d⟩:=st
  rcases List.mem_cons.mp hb with z | z
  ·rw [z];exact ⟨_,q,fun v y=>by cases y⟩
  ·rw [List.mem_singleton.mp z];exact ⟨o,e1,fun v y=>by rw [d] at y;cases y⟩
 keep:=fun i h h' st k=>by
  obtain ⟨⟨old,q⟩,li⟩:=st
  exact ⟨⟨old,k e (by simp) _ q⟩,li.at fun o z=>k it (by simp) o z⟩
 item:=by
  intro X hP hw hK hc i pins s σ H E I hf st hg
  subst hP hw hK
  obtain ⟨xs,x,hq,hx⟩:=hg
  obtain ⟨its,rv,p,hz⟩:=I.list hq
  obtain ⟨u,hu,ru⟩:=rv.get hx
  obtain ⟨⟨old,he⟩,li⟩:=st
  refine wpAny_pyNext_enum_item he li p.isList (x:=u) (by simpa using hu) hne fun h1 out li1 ht hsz k1=>?_
  refine ⟨_,rfl,wpAny_letOwnedTupleGo_enum out fun h2 he2 sb=>?_⟩
  have k2:∀ b o,b∉[e,it]→s.heap.get? b=some o→h2.get? b=some o:=fun b o hb z=>by
   have hb1:b≠e:=fun y=>hb (by simp [y])
   have hb2:b≠it:=fun y=>hb (by simp [y])
   exact (sb.2 b hb1).trans (k1 b o hb1 hb2 z)
  have hpe:s.heap.objs.size≠e:=Nat.ne_of_gt (Heap.lt_size he)
  have ht2:h2.get? s.heap.objs.size=some { cls:=.type "tuple",data:=.seq #[.int ((i:Nat):Int) s.toks,u] }:=(sb.2 _ hpe).trans ht
  have hn:H s.heap.objs.size=none:=I.hok.fresh (Nat.le_refl _)
  refine ⟨.ref s.heap.objs.size,upd H s.heap.objs.size (.tup [.int ((i:Nat):Int),x]),I.turnedNew (h':=h2) (t':=s.toks+1) hf k2 (Nat.le_refl _) ?_,rfl,⟨_,x,rfl,hn,rfl,fun ys hy=>by rw [I.list_inj hy hq];exact hx⟩,⟨⟨u,?_⟩,?_⟩,fun b hb=>?_⟩
  ·exact ⟨by show 2≤sizeLine;decide,[.int ((i:Nat):Int) s.toks,u],.cons ⟨_,rfl⟩ (.cons ru .nil),⟨_,ht2,rfl,_,rfl⟩⟩
  ·have ec:(((i+1:Nat)):Int)=((i:Nat):Int)+1:=by push_cast;rfl
   rw [ec];exact he2
  ·exact li1.at fun o z=>(sb.2 it (Ne.symm hne)).trans z
  ·have b0:=(hf b hb).1
   rw [upd_ne fun z=>?_]
   ·exact b0
   ·obtain ⟨o,z1,_⟩:=id li
    rcases List.mem_cons.mp hb with y | y
    ·exact hpe (z.symm.trans y)
    ·exact absurd (Heap.lt_size z1) (by rw [←List.mem_singleton.mp y,z];exact Nat.lt_irrefl _)
 done:=by
  intro X hP hw hK hc i pins s σ H E I hf st hg
  subst hP hw hK
  obtain ⟨xs,hq,hx⟩:=hg
  obtain ⟨its,rv,p,hz⟩:=I.list hq
  obtain ⟨⟨old,he⟩,li⟩:=st
  obtain ⟨f0,f1,f2,f3,f4,f5⟩:=hf it (by simp)
  have hl:=rv.length
  exact wpAny_pyNext_enum_end (I.ok.hd hc) he li p.isList (by simp;lia) fun h' eb=>⟨rfl,I.turned (t':=s.toks) (fun b o hb e=>eb b o hb e) f0 f1 f3 f4 f5⟩
 self:=fun _ _ _ _ _ st h=>by
  obtain ⟨⟨old,he⟩,_⟩:=st
  exact wpAny_pyIter_enum he h
section
variable {X:Cx} {elts:List Expr} {ctx} {tpos:Pos}
def iEnum (K:PySem.W.Frag) (ta:TA):TI:=fun σ H R=>ta σ H fun vs H1=>∃ a xs,vs=[.ref a]∧SqL K H1 a xs∧R (Ite K a) H1
theorem pi_enum {l:Expr} {ta:TA} {p pos:Pos} (hg:Gl X "enumerate") (hm:X.mg "enumerate"=none) (ha:PA X [l] ta) (hs:starEach [l] X.env=[(false,eval l X.env)]:=by rfl):PI X (.Tuple elts ctx tpos) (.Call (.Name "enumerate" p) [l] [] pos) (iEnum X.K ta):=by
 intro pins s σ H R I h
 refine Call_ (ld_blt I hg hm boot_enumerate (PyProof.Rows.callWith_type1 (thn (ha pos pins s σ H _ I h) fun us s1 ⟨vs,H1,I1,r1,q1⟩=>?_) hs rfl))
 obtain ⟨a,xs,e,hq,q⟩:=q1
 subst e
 cases r1 with
 | cons r rr =>
  cases rr
  cases r
  obtain ⟨its,rv,pl,hz⟩:=I1.list hq
  refine call_enumerate_list pl.isList fun h1 he li hsz k1=>?_
  refine wpAny_pyIter_enum he ?_
  have n1:H1 (s1.heap.objs.size+1)=none:=I1.hok.fresh (Nat.le_succ _)
  have n0:H1 s1.heap.objs.size=none:=I1.hok.fresh (Nat.le_refl _)
  refine ⟨s1.heap.objs.size+1,[s1.heap.objs.size+1,s1.heap.objs.size],_,_,H1,rfl,I1.kept (t':=s1.toks) k1,turn_enum a _ _ (Nat.succ_ne_self _),⟨⟨_,he⟩,li⟩,fun b hb=>?_,q⟩
  rcases List.mem_cons.mp hb with z | z
  ·rw [z];exact I1.fpOk (Nat.le_succ _) n1
  ·rw [List.mem_singleton.mp z];exact I1.fpOk (Nat.le_refl _) n0
theorem for_enum {K:PySem.W.Frag} {a:Addr} {xs:List V} {g:TG} {tb:TS} {D:Ends} {σ:St} {H:Hp} (Pv:Nat→St→Hp→Prop) (h0:Pv 0 σ H) (hl:∀ i σ H,i≤xs.length→Pv i σ H→SqL K H a xs)
  (hs:∀ i x p σ H,xs[i]?=some x→Pv i σ H→H p=none→g (.ref p) σ (upd H p (.tup [.int ((i:Nat):Int),x])) fun σ2 H2=>tb { D with nx:=Pv (i+1),ct:=Pv (i+1),bk:=D.nx } σ2 H2) (hd:∀ σ H,Pv xs.length σ H→D.nx σ H) :
  ∃ W:Nat→Nat→St→Hp→Prop,(∃ m,W 0 m σ H)∧∀ i m σ H,W i m σ H →
   ((Ite K a).stop i H∧D.nx σ H)∨((Ite K a).go i H∧∃ N:St→Hp→Prop,(∀ σ' H',N σ' H'→∃ m',m'<m∧W (i+1) m' σ' H')∧∀ x H',(Ite K a).yld i H x H'→g x σ H' fun σ2 H2=>tb { D with nx:=N,ct:=N,bk:=D.nx } σ2 H2):=by
 refine ⟨fun i m σ H=>m=xs.length - i∧i≤xs.length∧Pv i σ H,⟨xs.length,by simp,Nat.zero_le _,h0⟩,?_⟩
 rintro i m σ H ⟨rfl,hi,p⟩
 have q:=hl i σ H hi p
 by_cases hlt:i<xs.length
 ·refine .inr ⟨⟨xs,xs[i],q,by simp [hlt]⟩,Pv (i+1),fun σ' H' p'=>⟨xs.length - (i+1),by lia,rfl,hlt,p'⟩,fun v H' y=>?_⟩
  obtain ⟨p2,x,e1,e2,e3,y⟩:=y
  subst e1 e3
  exact hs i x p2 σ H (y xs q) p e2
 ·have e:i=xs.length:=by lia
  subst e
  exact .inl ⟨⟨xs,q,Nat.le_refl _⟩,hd σ H p⟩
end
def upto (n:Nat):List Int:=(List.range n).map fun i:Nat=>(i:Int)
section
variable {X:Cx}
def tLRange (ta:TA):TE:=fun σ H Q=>ta σ H fun vs H1=>∃ j:Int,vs=[.int j]∧0≤j∧j≤1000∧∀ p,H1 p=none→Q (.ref p) (upd H1 p (.lst ((upto j.toNat).map V.int)))
end
section
variable {X:Cx} {a:Expr} {cs:List Expr} {ta:TE} {tc:TA} {p pos tpos:Pos} {ctx}
def rIsiT (K:PySem.W.Frag):List V→Hp→VK→Prop
 | [x,c],H,Q=>∃ t tp vs us b,TyE K H x t∧c=.ref tp∧H tp=some (.tup vs)∧vs.map clsV=us.map some∧PySem.W.kitAny K t us=some b∧Q (.bl b) H
 | _,_,_=>False
theorem vals_cls:∀ {vs:List V} {its us:List Value},Vals vs its→vs.map clsV=us.map some→its=us
 | _,_,[],.nil,_=>rfl
 | _,_,_::_,.nil,e=>by simp at e
 | _,_,[],.cons _ _,e=>by simp at e
 | x::xs,_,u::us,.cons r rr,e=>by
  simp only [List.map_cons,List.cons.injEq] at e
  obtain ⟨e1,e2⟩:=e
  rw [vals_cls rr e2]
  congr 1
  cases x with
  | ty n=>cases e1;exact r
  | ref a=>cases e1;exact r
  | _=>cases e1
theorem kit_of {pins:List (Addr × Obj)} {σ:St} {H:Hp} {s:Shared} {x:V} {v t:Value} (I:Inv X pins σ H s) (rx:RelV x v) (ty:TyE X.K H x t):(∃ φ,PySem.W.KitX X.K v t φ∧φ s.heap)∧v≠.builtin "__main__.__loader__#opaque":=by
 cases ty with
 | of ty =>
  cases ty with
  | non=>cases (show v=Value.none from rx);exact ⟨⟨_,PySem.W.kitx_none,True.intro⟩,fun z=>nomatch z⟩
  | bl y=>cases (show v=Value.bool y from rx);exact ⟨⟨_,PySem.W.kitx_bool,True.intro⟩,fun z=>nomatch z⟩
  | int i=>obtain ⟨t,q⟩:=(show ∃ t,v=Value.int i t from rx);cases q;exact ⟨⟨_,PySem.W.kitx_int,True.intro⟩,fun z=>nomatch z⟩
  | str y=>obtain ⟨t,q⟩:=(show ∃ t,v=Value.str y t from rx);cases q;exact ⟨⟨_,PySem.W.kitx_str,True.intro⟩,fun z=>nomatch z⟩
  | flt y=>obtain ⟨t,q⟩:=(show ∃ t,v=Value.float y t from rx);cases q;exact ⟨⟨_,PySem.W.kitx_float,True.intro⟩,fun z=>nomatch z⟩
  | @lst a xs ea =>
   cases (show v=Value.ref a from rx)
   obtain ⟨_,_,n,_,h1⟩:=(show ObjOk X.prog X.w H s.heap a (.lst xs) from I.hok a _ ea)
   exact ⟨⟨_,PySem.W.kitx_list,⟨_,h1,rfl⟩⟩,fun z=>nomatch z⟩
  | @frz a ob xs ea =>
   cases (show v=Value.ref a from rx)
   obtain ⟨_,_,_,n,_,h1⟩:=(show ObjOk X.prog X.w H s.heap a (.frz ob (.lst xs)) from I.hok a _ ea)
   exact ⟨⟨_,PySem.W.kitx_list,⟨_,h1,rfl⟩⟩,fun z=>nomatch z⟩
  | @tup a xs ea =>
   cases (show v=Value.ref a from rx)
   obtain ⟨_,_,_,p⟩:=(show ObjOk X.prog X.w H s.heap a (.tup xs) from I.hok a _ ea)
   obtain ⟨o,h1,h2,_⟩:=p
   exact ⟨⟨_,PySem.W.kitx_tuple,⟨o,h1,h2⟩⟩,fun z=>nomatch z⟩
  | @dK a kvs ea =>
   cases (show v=Value.ref a from rx)
   obtain ⟨_,_,vs,_,p⟩:=(show ObjOk X.prog X.w H s.heap a (.dK kvs) from I.hok a _ ea)
   obtain ⟨o,es,ep,h1,h2,_⟩:=p
   exact ⟨⟨_,PySem.W.kitx_dict,⟨o,h1,h2.1⟩⟩,fun z=>nomatch z⟩
  | @dT a kvs ea =>
   cases (show v=Value.ref a from rx)
   obtain ⟨_,_,xs,_,o,es,ep,h1,h2,_⟩:=(show ObjOk X.prog X.w H s.heap a (.dT kvs) from I.hok a _ ea)
   exact ⟨⟨_,PySem.W.kitx_dict,⟨o,h1,h2.1⟩⟩,fun z=>nomatch z⟩
  | @ins a C dx fs ea cl ha hn htk hm =>
   cases (show v=Value.ref a from rx)
   obtain ⟨mA,O,_⟩:=ins_get I.hok ea
   obtain ⟨od,J,_⟩:=O.look
   exact ⟨⟨_,PySem.W.kitx_own (cl.get _) cl.hd ha hn htk hm,J⟩,fun z=>nomatch z⟩
 | @exc a D dy n e ck =>
  cases (show v=Value.ref a from rx)
  obtain ⟨x,_,_⟩:=(show ObjOk X.prog X.w H s.heap a (.ext (excIs a (.ref D) _ _)) from I.hok a _ e)
  exact ⟨⟨_,kitx_exc ck,x⟩,fun z=>nomatch z⟩
theorem call_isiT:CallR X (.builtin "isinstance") (rIsiT X.K):=by
 intro pins s σ H xs us Q I rv h
 match xs,h with
 | [x,c],h =>
 obtain ⟨t,tp,vs,ucs,b,ty,rfl,ht,hcs,k,q⟩:=h
 obtain ⟨v1,v2,rfl,r1,r2⟩:=vals2 rv
 cases (show v2=Value.ref tp from r2)
 obtain ⟨_,its,rits,o,ho,hcl,n,hd⟩:=(show ObjOk X.prog X.w H s.heap tp (.tup vs) from I.hok tp _ ht)
 obtain ⟨c1,c2,c3,c4⟩:=o
 dsimp only at hcl hd
 subst hcl hd
 have e:=vals_cls rits hcs
 subst e
 obtain ⟨⟨φ,Z,hφ⟩,hx⟩:=kit_of I r1 ty
 exact PySem.W.kia_tup Z I.kIn hφ ho k hx fun tk=>⟨.bl b,H,I.tok tk,rfl,q⟩
theorem pe_isiT (hg:Gl X "isinstance") (hm:X.mg "isinstance"=none) (ha:PE X a ta) (hc:PA X cs tc) (h1:starEach [a,.Tuple cs ctx tpos] X.env=(false,eval a X.env)::starEach [.Tuple cs ctx tpos] X.env:=by rfl)
  (h2:starEach [.Tuple cs ctx tpos] X.env=(false,eval (.Tuple cs ctx tpos) X.env)::starEach [] X.env:=by rfl)
  (h3:(backTo pos (starEach [.Tuple cs ctx tpos] X.env)).any (·.1)=false:=by rfl):PE X (.Call (.Name "isinstance" p) [a,.Tuple cs ctx tpos] [] pos) (tCB (rIsiT X.K) (tCons ta (tCons (tTup tc) tNil))) :=
 pe_callB call_isiT hg hm PyProof.Rows.boot_isinstance (pa_cons ha (pa_cons (pe_tup hc) pa_nil h2) h1) (by decide) (by decide) h1 h3
end
section
variable {K:PySem.W.Frag}
theorem ki_ii:PySem.W.kitOne K (.type "int") (.type "int")=some true:=by kernel_rfl
theorem ki_ib:PySem.W.kitOne K (.type "int") (.type "bool")=some false:=by kernel_rfl
theorem ki_bi:PySem.W.kitOne K (.type "bool") (.type "int")=some true:=by kernel_rfl
theorem ki_bb:PySem.W.kitOne K (.type "bool") (.type "bool")=some true:=by kernel_rfl
theorem ki_ni:PySem.W.kitOne K (.type "NoneType") (.type "int")=some false:=by kernel_rfl
theorem ki_si:PySem.W.kitOne K (.type "str") (.type "int")=some false:=by kernel_rfl
theorem ki_li:PySem.W.kitOne K (.type "list") (.type "int")=some false:=by kernel_rfl
theorem ki_ll:PySem.W.kitOne K (.type "list") (.type "list")=some true:=by kernel_rfl
theorem ki_tt:PySem.W.kitOne K (.type "tuple") (.type "tuple")=some true:=by kernel_rfl
theorem ki_tl:PySem.W.kitOne K (.type "tuple") (.type "list")=some false:=by kernel_rfl
theorem ki_ti:PySem.W.kitOne K (.type "tuple") (.type "int")=some false:=by kernel_rfl
end
end L2
namespace L2
open PySem PySem.Spec PyProof.Rows
structure Has (P:Program) (w:World) (K:PySem.W.Frag) (mg:Str→Option Value) (base:Heap) (k:Nat) (f:Addr) (ps:List Str) (sp:Sp):Prop where
 ex:∃ fd,FnOk P w K mg base (CXF P w) k f fd ps sp∧Binds K fd ps []
 kp:PySem.W.keepIn K (.ref f)=true
section
variable {P:Program} {w:World} {K:PySem.W.Frag} {mg:Str→Option Value} {base:Heap} {x qual:Str} {st:Stmt} {f:Addr} {fd:FuncData} {N ps:List Str} {k:Nat} {sp:Sp}
theorem Fun.ok0 (F:Fun K x qual st f fd) (S:FnScope N ps (defScope st)) (len:∀ vs H Q E,sp vs H Q E→vs.length=ps.length)
  (hbody:∀ (cdv:Value) (A:Around) (outer:List Env) (s:Shared) (H:Hp) (vs:List V) (Q:VK) (E:XK),Room k (A.deeper (envOfC qual (defScope st) s.heap.objs.size f cdv))→sp vs H Q E →
   ∃ t,PSs (cxOf (CXF P w) P w K mg base N qual (defScope st) f cdv A outer s H E).nox (defBody st) t∧t { nx:=fun _ H'=>Q .non H',rt:=Q } (start N vs) H):FnOk P w K mg base (CXF P w) (k+1) f fd ps sp :=
 F.okX S len fun cdv A outer s H vs Q E hr hsp=>by
  obtain ⟨t,h,q⟩:=hbody cdv A outer s H vs Q E hr hsp
  exact ⟨t,h.nox,q⟩
abbrev BindsAll (x qual:Str) (st:Stmt) (ps:List Str):Prop:=∀ (kV doc pm:Value) (an:Option Addr) (cdv ct:Value) (us:List Value),us.length=ps.length→bindArgs (PySem.W.fnOf x qual (defArgs st) (defBody st) (defScope st) .none kV doc pm an cdv ct) ⟨us,[]⟩=pure (ps.zip us)
theorem has_mk0 (D:∃ fd,Fun K x qual st f fd) (S:FnScope N ps (defScope st)) (bd:BindsAll x qual st ps) (len:∀ vs H Q E,sp vs H Q E→vs.length=ps.length)
  (hbody:∀ (cdv:Value) (A:Around) (outer:List Env) (s:Shared) (H:Hp) (vs:List V) (Q:VK) (E:XK),Room k (A.deeper (envOfC qual (defScope st) s.heap.objs.size f cdv))→sp vs H Q E →
   ∃ t,PSs (cxOf (CXF P w) P w K mg base N qual (defScope st) f cdv A outer s H E).nox (defBody st) t∧t { nx:=fun _ H'=>Q .non H',rt:=Q } (start N vs) H):Has P w K mg base (k+1) f ps sp:=by
 obtain ⟨fd,F⟩:=D
 exact ⟨⟨fd,F.ok0 S len hbody,F.binds bd⟩,F.kp⟩
theorem has_mkX (D:∃ fd,Fun K x qual st f fd) (S:FnScope N ps (defScope st)) (bd:BindsAll x qual st ps) (len:∀ vs H Q E,sp vs H Q E→vs.length=ps.length)
  (hbody:∀ (cdv:Value) (A:Around) (outer:List Env) (s:Shared) (H:Hp) (vs:List V) (Q:VK) (E:XK),Room k (A.deeper (envOfC qual (defScope st) s.heap.objs.size f cdv))→sp vs H Q E →
   ∃ t,PSs (cxOf (CXF P w) P w K mg base N qual (defScope st) f cdv A outer s H E) (defBody st) t∧t { nx:=fun _ H'=>Q .non H',rt:=Q } (start N vs) H):Has P w K mg base (k+1) f ps sp:=by
 obtain ⟨fd,F⟩:=D
 exact ⟨⟨fd,F.okX S len hbody,F.binds bd⟩,F.kp⟩
theorem Has.mono {j:Nat} (G:Has P w K mg base j f ps sp) (h:j≤k):Has P w K mg base k f ps sp:=by
 obtain ⟨⟨fd,F,b⟩,kp⟩:=G
 exact ⟨⟨fd,F.mono h,b⟩,kp⟩
end
section
variable {X:Cx} {k:Nat} {f C:Addr} {ps:List Str} {sp:Sp} {E:St→XK} {EX:XK} {x:Str} {np p pos cpos:Pos} {e:Expr} {es:List Expr} {t:TA}
theorem pe_callH (G:Has X.prog X.w X.K X.mg X.base k f ps sp) (hr:Room k X.A) (hg:Gl X x) (hm:X.mg x=some (.ref f)) (hx:PassesX (CXF X.prog X.w) X E)
  (ha:PA X (e::es) t) (hdb:(x == ("__debug__":Str))=false:=by decide) (he:starEach (e::es) X.env=(false,eval e X.env)::starEach es X.env:=by rfl) (hpl:(backTo pos (starEach es X.env)).any (·.1)=false:=by rfl) :
  PE X (.Call (.Name x p) (e::es) [] pos) (tCallX sp [] E t):=by
 obtain ⟨⟨fd,F,b⟩,kp⟩:=G
 exact pe_callX F hr hg hm kp b .nil hx ha hdb he hpl
theorem ps_raiseH (hc:X.calm=true) (M:XMk X.K C f) (G:Has X.prog X.w X.K X.mg X.base k f ps sp) (hr:Room (k+1) X.A) (hg:Gl X x) (hm:X.mg x=some (.ref C)) (hx:RaisesI X (.ref C) EX) (ha:PA X (e::es) t) (hex:X.ex=[]:=by rfl)
  (hdb:(x == ("__debug__":Str))=false:=by decide) (he:starEach (e::es) X.env=(false,eval e X.env)::starEach es X.env:=by rfl) (hpl:(backTo cpos (starEach es X.env)).any (·.1)=false:=by rfl) :
  PS X (.Raise (some (.Call (.Name x np) (e::es) [] cpos)) none pos) (tRaiseI C sp EX t):=by
 obtain ⟨⟨fd,F,b⟩,kp⟩:=G
 exact ps_raiseI hc M F hr b hg hm hx ha hex hdb he hpl
theorem pe_constE {i:Int} (hg:Gl X x) (hm:∃ t,X.mg x=some (.int i t)) (hd:(x == ("__debug__":Str))=false:=by decide):PE X (.Name x pos) (tC (.int i)):=by
 obtain ⟨t,hm⟩:=hm
 exact pe_const hg hm hd
end
def spLaw (K:PySem.W.Frag):Sp:=fun vs H Q _=>∃ (a:Addr) (ns:List Int),vs=[.ref a]∧SqL K H a (ns.map V.int)∧ns.length≤63∧∀ H',Q (.bl true) H'
def spCell (K:PySem.W.Frag):Sp:=fun vs H Q _=>∃ (a:Addr) (ns:List Int) (k:Nat),vs=[.ref a,.int k]∧SqL K H a (ns.map V.int)∧ns.length≤63∧Q (.int (ns.getD k 0)) H
def Kd (H:Hp):V→Prop
 | .int _=>True
 | .bl _=>True
 | .non=>True
 | .str _=>True
 | .ref a=>∃ xs,H a=some (.lst xs)∨H a=some (.tup xs)
 | _=>False
theorem Kd.same {H H':Hp} (e:Same H H'):∀ {x:V},Kd H x→Kd H' x
 | .int _,_=>True.intro
 | .bl _,_=>True.intro
 | .non,_=>True.intro
 | .str _,_=>True.intro
 | .ref a,h=>by
  obtain ⟨xs,h⟩:=h
  exact ⟨xs,h.elim (fun q=>.inl (e _ _ q)) fun q=>.inr (e _ _ q)⟩
def isI:V→Bool
 | .int _=>true
 | _=>false
def spWhole:Sp:=fun vs H Q _=>∃ x:V,vs=[x]∧Kd H x∧Q (.bl (isI x)) H
def sgn (g:Int):V→Bool
 | .int i=>decide (0≤i) && decide (i<g)
 | _=>false
def spSign:Sp:=fun vs H Q _=>∃ (x:V) (g:Int),vs=[x,.int g]∧Kd H x∧Q (.bl (sgn g x)) H
def spInit (K:PySem.W.Frag) (C R:Addr):Sp:=fun vs H Q _=>∃ (a:Addr) (n:Bool) (y:V),vs=[.ref a,y]∧H a=some (exo a (.ref C) none n)∧∀ dx,H dx=none→Q .non (upd (upd H a (exo a (.ref C) (some dx) n)) dx (.xd [("at",y)]))
def Bad (C:Addr) (i:Nat) (H:Hp) (E:XK):Prop:=∀ H' dx,Same H H'→H' dx=some (.xd [("at",.int ((i:Nat):Int))])→E (.ref C) (some dx) H'
def badIx (g:Int) (xs:List V):Option Nat:=xs.findIdx? fun x=>!sgn g x
def spCheck (K:PySem.W.Frag) (C:Addr):Sp:=fun vs H Q E=>∃ (a:Addr) (xs:List V) (g:Int),vs=[.ref a,.int g]∧SqL K H a xs∧(∀ x∈xs,Kd H x) ∧
 match badIx g xs with
 | none=>∀ H',Same H H'→Q .non H'
 | some i=>Bad C i H E
def numF (g n:Int) (ns:List Int):Int:=ns.foldl (fun m x=>m*g+x) n
def num (g:Int) (ns:List Int):Int:=numF g 0 ns
def spNumber (K:PySem.W.Frag) (C:Addr):Sp:=fun vs H Q E=>∃ (a:Addr) (xs:List V) (g:Int),vs=[.ref a,.int g]∧2≤g∧g≤9∧SqL K H a xs∧(∀ x∈xs,Kd H x) ∧
 match badIx g xs with
 | none=>∀ ns:List Int,xs=ns.map V.int→∀ H',Same H H'→Q (.int (num g ns)) H'
 | some i=>Bad C i H E
theorem badIx_none {g:Int} {xs:List V} (h:badIx g xs=none):∃ ns:List Int,xs=ns.map V.int∧∀ n∈ns,0≤n∧n<g:=by
 unfold badIx at h
 rw [List.findIdx?_eq_none_iff] at h
 induction xs with
 | nil=>exact ⟨[],rfl,fun n z=>absurd z (by simp)⟩
 | cons x xs ih =>
  obtain ⟨ns,e,b⟩:=ih fun y hy=>h y (List.mem_cons_of_mem _ hy)
  have hx:=h x List.mem_cons_self
  cases x with
  | int i =>
   simp only [sgn,Bool.not_eq_false',Bool.and_eq_true,decide_eq_true_eq] at hx
   exact ⟨i::ns,by rw [e];rfl,fun n z=>(List.mem_cons.mp z).elim (fun q=>q▸hx) (b n)⟩
  | _=>simp [sgn] at hx
theorem badIx_ints {g:Int} {ns:List Int} (h:∀ n∈ns,0≤n∧n<g):badIx g (ns.map V.int)=none:=by
 unfold badIx
 rw [List.findIdx?_eq_none_iff]
 intro x hx
 obtain ⟨n,hn,e⟩:=List.mem_map.mp hx
 subst e
 have q:=h n hn
 simp [sgn,q.1,q.2]
theorem kd_ints {H:Hp} {ns:List Int}:∀ x∈ns.map V.int,Kd H x:=fun x hx=>by
 obtain ⟨n,_,e⟩:=List.mem_map.mp hx
 subst e
 exact True.intro
end L2
namespace L2
open PySem
theorem forget {t:TS} {D:Ends} {σ:St} {H':Hp} (Z:Hp→Prop) (hz:Z H') (h:∀ H2,Z H2→t D σ H2):t D σ H':=h H' hz
theorem ints_inj {ns ms:List Int} (h:ns.map V.int=ms.map V.int):ns=ms:=(List.map_inj_right (f:=V.int) fun _ _ e=>V.int.inj e).mp h
theorem cut_to {ns:List Int} {k:Int} (h:0≤k):cutI ns none (some k)=ns.take k.toNat:=by
 have e:HT.sIx ns.length ns.length (some k)=min k.toNat ns.length:=if_neg (by lia)
 unfold cutI
 rw [e]
 show (ns.drop 0).take (min k.toNat ns.length - 0)=_
 rw [List.drop_zero,Nat.sub_zero]
 by_cases z:k.toNat≤ns.length
 ·rw [Nat.min_eq_left z]
 ·rw [Nat.min_eq_right (by lia),List.take_length,List.take_of_length_le (by lia)]
theorem cut_len (ns:List Int) (lo hi:Option Int):(cutI ns lo hi).length≤ns.length:=by
 unfold cutI
 rw [List.length_take,List.length_drop]
 lia
theorem mods_lt {g:Int} (h:2≤g) (l:List Int):∀ n∈l.map (·%g),0≤n∧n<g:=fun n hn=>by
 obtain ⟨m,_,e⟩:=List.mem_map.mp hn
 subst e
 exact ⟨Int.emod_nonneg _ (by lia),Int.emod_lt_of_pos _ (by lia)⟩
theorem same_raise {H H1:Hp} {ea dx:Addr} {o o2 o3:HO} (e:Same H H1) (hea:H1 ea=none) (hdx:upd H1 ea o dx=none):Same H (drop (upd (upd (upd H1 ea o) ea o2) dx o3) ea):=fun b u q=>by
 have q1:=e b u q
 have n1:=ne_of_none q1 hea
 have n2:=ne_of_none q1 (upd_none hdx).2
 rw [drop_ne n1,upd_ne n2,upd_ne n1,upd_ne n1]
 exact q1
theorem badIx_step {g:Int} {xs:List V} {i:Nat} {x:V} (hb:badIx g (xs.take i)=none) (hx:xs[i]?=some x) (hs:sgn g x=true):badIx g (xs.take (i+1))=none:=by
 unfold badIx at *
 rw [List.findIdx?_eq_none_iff] at hb ⊢
 intro y hy
 rw [List.take_succ,hx] at hy
 rcases List.mem_append.mp hy with z | z
 ·exact hb y z
 ·have e:y=x:=by simpa using z
  rw [e,hs];rfl
theorem badIx_here {g:Int} {xs:List V} {i:Nat} {x:V} (hb:badIx g (xs.take i)=none) (hx:xs[i]?=some x) (hs:sgn g x=false):badIx g xs=some i:=by
 obtain ⟨hi,ex⟩:=List.getElem?_eq_some_iff.mp hx
 have e:xs=xs.take i++x::xs.drop (i+1):=by
  rw [←ex,←List.drop_eq_getElem_cons hi,List.take_append_drop]
 unfold badIx at *
 rw [e,List.findIdx?_append,hb]
 simp [List.findIdx?_cons,hs,List.length_take]
 lia
theorem getInt {ns:List Int} {i:Nat} {x:V} (h:(ns.map V.int)[i]?=some x):∃ n,ns[i]?=some n∧x=.int n:=by
 rw [List.getElem?_map] at h
 obtain ⟨n,e1,e2⟩:=Option.map_eq_some_iff.mp h
 exact ⟨n,e1,e2.symm⟩
theorem num_take {g n:Int} {ns:List Int} {i:Nat} (h:ns[i]?=some n):num g (ns.take (i+1))=num g (ns.take i)*g+n:=by
 unfold num numF
 rw [List.take_succ,h,List.foldl_append]
 rfl
def low (g:Int):List Int→Int
 | []=>0
 | x::r=>x+g*low g r
theorem low_snoc (g x:Int):∀ l:List Int,low g (l++[x])=low g l+x*g^l.length
 | []=>by simp [low]
 | y::l=>by
  rw [List.cons_append,low,low,low_snoc g x l,List.length_cons,Int.pow_succ,Int.mul_add,Int.add_assoc]
  congr 2
  rw [Int.mul_comm g,Int.mul_assoc]
theorem num_snoc (g x:Int) (l:List Int):num g (l++[x])=num g l*g+x:=by
 unfold num numF
 rw [List.foldl_append];rfl
theorem num_rev (g:Int):∀ l:List Int,num g l.reverse=low g l
 | []=>rfl
 | x::l=>by rw [List.reverse_cons,num_snoc,num_rev g l,low,Int.mul_comm,Int.add_comm]
theorem num_low (g:Int) (ns:List Int):num g ns=low g ns.reverse:=by rw [←num_rev,List.reverse_reverse]
end L2
namespace L2
open PySem PySem.Spec PyProof.Rows
mutual
inductive DatV (K:PySem.W.Frag) (H:Hp):V→PyData→Prop
 | non:DatV K H .non .none
 | bl (b:Bool):DatV K H (.bl b) (.bool b)
 | int (i:Int):DatV K H (.int i) (.int i)
 | str (x:Str):DatV K H (.str x) (.str x)
 | lst {a:Addr} {xs:List V} {ds:List PyData}:SqL K H a xs→DatAll K H xs ds→DatV K H (.ref a) (.list ds)
 | tup {a:Addr} {xs:List V} {ds:List PyData}:SqT K H a xs→DatAll K H xs ds→DatV K H (.ref a) (.tuple ds)
inductive DatAll (K:PySem.W.Frag) (H:Hp):List V→List PyData→Prop
 | nil:DatAll K H [] []
 | cons {x:V} {xs:List V} {d:PyData} {ds:List PyData}:DatV K H x d→DatAll K H xs ds→DatAll K H (x::xs) (d::ds)
end
section
variable {X:Cx} {pins:List (Addr × Obj)} {σ:St} {H:Hp} {s:Shared}
mutual
theorem DatV.reads (I:Inv X pins σ H s):∀ {x:V} {d:PyData} {u:Value},DatV X.K H x d→RelV x u→∃ as,Reads s.heap u d as
 | _,_,_,.non,r=>by cases r;exact ⟨_,.none⟩
 | _,_,_,.bl b,r=>by cases r;exact ⟨_,.bool b⟩
 | _,_,_,.int i,r=>by obtain ⟨t,e⟩:=r;subst e;exact ⟨_,.int i t⟩
 | _,_,_,.str x,r=>by obtain ⟨t,e⟩:=r;subst e;exact ⟨_,.str x t⟩
 | _,_,_,.lst hq ha,r=>by
  cases r
  obtain ⟨its,rv,⟨o,n,e,c,_,d⟩,_⟩:=I.list hq
  obtain ⟨as,q⟩:=DatAll.reads I ha rv
  exact ⟨_,.list e c d (by simpa using q)⟩
 | _,_,_,.tup hq ha,r=>by
  cases r
  obtain ⟨its,rv,⟨o,e,c,n,d⟩,_⟩:=I.tuple hq
  obtain ⟨as,q⟩:=DatAll.reads I ha rv
  exact ⟨_,.tuple e c d (by simpa using q)⟩
theorem DatAll.reads (I:Inv X pins σ H s):∀ {xs:List V} {ds:List PyData} {us:List Value},DatAll X.K H xs ds→Vals xs us→∃ as,ReadsAll s.heap us ds as
 | _,_,_,.nil,.nil=>⟨_,.nil⟩
 | _,_,_,.cons h t,.cons r rr=>by
  obtain ⟨as,q⟩:=DatV.reads I h r
  obtain ⟨bs,q2⟩:=DatAll.reads I t rr
  exact ⟨_,.cons q q2⟩
end
end
theorem pi_or {X:Cx} {tg it:Expr} {w1 w2:TI} (h1:PI X tg it w1) (h2:PI X tg it w2):PI X tg it (fun σ H R=>w1 σ H R∨w2 σ H R):=fun pins s σ H R I h=>h.elim (fun q=>h1 pins s σ H R I q) fun q=>h2 pins s σ H R I q
theorem kiA {K:PySem.W.Frag} {t:Value} {T:String} (h:PySem.W.kitOne K t (.type T)=some true) (r:List Value):PySem.W.kitAny K t (.type T::r)=some true:=by unfold PySem.W.kitAny;rw [h]
theorem kiB {K:PySem.W.Frag} {t:Value} {T:String} {r:List Value} {b:Bool} (h:PySem.W.kitOne K t (.type T)=some false) (h2:PySem.W.kitAny K t r=some b):PySem.W.kitAny K t (.type T::r)=some b:=by unfold PySem.W.kitAny;rw [h];exact h2
section
variable {K:PySem.W.Frag}
theorem ki_nl:PySem.W.kitOne K (.type "NoneType") (.type "list")=some false:=by kernel_rfl
theorem ki_nt:PySem.W.kitOne K (.type "NoneType") (.type "tuple")=some false:=by kernel_rfl
theorem ki_sl:PySem.W.kitOne K (.type "str") (.type "list")=some false:=by kernel_rfl
theorem ki_st:PySem.W.kitOne K (.type "str") (.type "tuple")=some false:=by kernel_rfl
theorem ki_il:PySem.W.kitOne K (.type "int") (.type "list")=some false:=by kernel_rfl
theorem ki_it:PySem.W.kitOne K (.type "int") (.type "tuple")=some false:=by kernel_rfl
theorem ki_bl:PySem.W.kitOne K (.type "bool") (.type "list")=some false:=by kernel_rfl
theorem ki_bt:PySem.W.kitOne K (.type "bool") (.type "tuple")=some false:=by kernel_rfl
end
theorem ix_listK {X:Cx} {K:PySem.W.Frag} (h:X.K=K):IxR X (rIxL K):=h▸ix_list
end L2
namespace L2
open PySem PySem.Spec PyProof.Rows
def IsRvt (h:Heap) (a l:Addr) (i:Int):Prop:=∃ o,h.get? a=some o∧o.cls=.type "reversed"∧o.data=.fields #[.ref l,rawInt i]
theorem IsRvt.ty {s:Shared} {a l:Addr} {i:Int} (x:IsRvt s.heap a l i):s.TypeIs (.ref a) "reversed":=let ⟨o,ho,hc,_⟩:=x;⟨o,ho,hc⟩
theorem IsRvt.at {h h':Heap} {a l:Addr} {i:Int} (x:IsRvt h a l i) (e:∀ o,h.get? a=some o→h'.get? a=some o):IsRvt h' a l i:=let ⟨o,ho,r⟩:=x;⟨o,e _ ho,r⟩
section
variable {prog:Program} {w:World} {A:Around} {E:Value→Shared→Prop} {s:Shared}
end
section
variable {X:Cx}
def tLRevT (K:PySem.W.Frag) (ta:TA):TE:=fun σ H Q=>ta σ H fun vs H1=>∃ a xs,vs=[.ref a]∧SqT K H1 a xs∧∀ p,H1 p=none→Q (.ref p) (upd H1 p (.lst xs.reverse))
end
end L2
namespace L2
open PySem PySem.Spec PyProof.Rows
structure HasN (P:Program) (w:World) (K:PySem.W.Frag) (mg:Str→Option Value) (base:Heap) (k:Nat) (f:Addr) (ps:List Str) (sp:Sp):Prop where
 ex:∃ fd,FnOk P w K mg base (CXC true P w) k f fd ps sp∧Binds K fd ps []
 kp:PySem.W.keepIn K (.ref f)=true
section
variable {P:Program} {w:World} {K:PySem.W.Frag} {mg:Str→Option Value} {base:Heap} {x qual:Str} {st:Stmt} {f:Addr} {N ps:List Str} {k:Nat} {sp:Sp}
theorem has_mkN (D:∃ fd,Fun K x qual st f fd) (S:FnScope N ps (defScope st)) (bd:BindsAll x qual st ps) (len:∀ vs H Q E,sp vs H Q E→vs.length=ps.length)
  (hbody:∀ (cdv:Value) (A:Around) (outer:List Env) (s:Shared) (H:Hp) (vs:List V) (Q:VK) (E:XK),Room k (A.deeper (envOfC qual (defScope st) s.heap.objs.size f cdv))→sp vs H Q E →
   ∃ t,PSs (cxOf (CXC true P w) P w K mg base N qual (defScope st) f cdv A outer s H E) (defBody st) t∧t { nx:=fun _ H'=>Q .non H',rt:=Q } (start N vs) H):HasN P w K mg base (k+1) f ps sp:=by
 obtain ⟨fd,F⟩:=D
 exact ⟨⟨fd,F.okX S len hbody,F.binds bd⟩,F.kp⟩
end
section
variable {X:Cx} {k:Nat} {f:Addr} {ps:List Str} {sp:Sp} {E:St→XK} {x:Str} {p pos:Pos} {e:Expr} {es:List Expr} {t:TA}
theorem pe_callN (G:HasN X.prog X.w X.K X.mg X.base k f ps sp) (hr:Room k X.A) (hg:Gl X x) (hm:X.mg x=some (.ref f)) (hx:PassesX (CXC true X.prog X.w) X E)
  (ha:PA X (e::es) t) (hdb:(x == ("__debug__":Str))=false:=by decide) (he:starEach (e::es) X.env=(false,eval e X.env)::starEach es X.env:=by rfl) (hpl:(backTo pos (starEach es X.env)).any (·.1)=false:=by rfl) :
  PE X (.Call (.Name x p) (e::es) [] pos) (tCallX sp [] E t):=by
 obtain ⟨⟨fd,F,b⟩,kp⟩:=G
 exact pe_callX F hr hg hm kp b .nil hx ha hdb he hpl
end
def Cx.trN (X:Cx) (p:List (Addr × Obj)) (W:St→XK):Cx:=X.but p fun e s'=>∃ pins σ H s,Inv (X.but p fun _ _=>False) pins σ H s∧CXC true X.prog X.w X.stack H s (W σ) e s'
section
variable {X:Cx} {p:List (Addr × Obj)}
theorem trN_K {W:St→XK}:(X.trN p W).K=X.K:=rfl
end
def exc0 (a:Addr):HO:=.ext (fun h=>∃ o vs,h.get? a=some o∧o.data=.fields vs∧vs[2]?=some .none)
section
variable {X:Cx} {pins:List (Addr × Obj)} {σ:St} {H H':Hp} {s s':Shared} {h':Heap}
end
section
variable {P:Program} {w:World} {K:PySem.W.Frag} {mg:Str→Option Value} {base:Heap} {N:List Str} {qual:Str} {scope:Scope} {f:Addr} {cd:Value} {A:Around} {outer:List Env} {s:Shared} {H:Hp} {E:XK}
end
section
variable {prog:Program} {w:World} {A:Around} {E:Value→Shared→Prop} {s:Shared} {env:Env} {nm qn:Str} {C N h:Addr} {bs tl:List Value} {dy:Bool} {sn:List Str} {sub:List Value} {ab:Bool} {col:Option Bool} {dd:Option Addr} {k0 k1 k2 k3 k5:Option Value} {nid:String}
end
def tTryR (K:PySem.W.Frag) (R:Value) (C:Addr) (W:St→XK) (E:XK) (tb:TS) (t:TA):TS:=fun D σ H=>tb D σ H∧∀ σ' cls D' H',W σ' cls D' H'→PySem.W.exmOne K cls R=some true∧∀ a,H' a=none →
 t σ' (upd H' a (exc0 a)) fun vs H1=>vs.length≤sizeLine∧H1 a=some (exc0 a)∧E (.ref C) none H1
section
variable {X:Cx} {x n:Str} {R C:Addr} {W:St→XK} {E:XK} {b:List Stmt} {tb:TS} {t:TA} {e:Expr} {es:List Expr} {nj} {np xp cpos rpos hpos npos pos:Pos}
end
end L2
namespace L2
open PySem PySem.Spec PyProof.Rows
def cxB (X:Cx) (s2:Shared) (H2:Hp) (env:Env) (fp:List Addr) (N:List Str):Cx:={ X with N:=N,s₀:=s2,H₀:=H2,env:=env,outer:=X.stack,ex:=fp,fn:=fun _=>false,pn:=[],xe:=fun _ _=>False }
theorem cxB_K {X:Cx} {s2:Shared} {H2:Hp} {env:Env} {fp:List Addr} {N:List Str}:(cxB X s2 H2 env fp N).K=X.K:=rfl
def ClOk (env:Env):List (Str × Addr)→Prop
 | []=>True
 | (y,c)::r=>env.cells.lookup y=some c∧ClOk env r
theorem ClOk.at' {env:Env}:∀ {cl:List (Str × Addr)},ClOk env cl→∀ {y:Str} {c:Addr},cl.lookup y=some c→env.cells.lookup y=some c
 | [],_,_,_,h=>by cases h
 | (z,d)::r,⟨h1,h2⟩,y,c,h=>by
  rw [List.lookup_cons] at h
  cases e:y == z with
  | true =>
   rw [e] at h
   cases h
   rw [eq_of_beq e]
   exact h1
  | false =>
   rw [e] at h
   exact h2.at' h
def FvOk (X:Cx) (scope:Scope) (cl:List (Str × Addr)):List (Nat × Str)→Prop
 | []=>True
 | (j,y)::r=>(X.N[j]?=some y∧X.env.scope.names.lookup y=some .cell∧(relabel scope X.env).names.lookup y=some .cell∧(cl.lookup y).isSome=true)∧FvOk X scope cl r
theorem FvOk.at' {X:Cx} {scope:Scope} {cl:List (Str × Addr)}:∀ {fv:List (Nat × Str)},FvOk X scope cl fv→∀ q∈fv,X.N[q.1]?=some q.2∧X.env.scope.names.lookup q.2=some .cell∧(relabel scope X.env).names.lookup q.2=some .cell∧(cl.lookup q.2).isSome=true
 | [],_,q,h=>by cases h
 | (j,y)::r,⟨h1,h2⟩,q,h=>(List.mem_cons.mp h).elim (fun e=>by rw [e];exact h1) fun z=>h2.at' q z
def fvs (σ:St) (fv:List (Nat × Str)):List (Option V):=fv.map fun q=>(σ[q.1]?).join
def PF (X:Cx) (ifs:List Expr) (t:TT):Prop:=∀ (pins:List (Addr × Obj)) (s:Shared) (σ:St) (H:Hp) (Q:Bool→Hp→Prop),Inv X pins σ H s→t σ H Q →
 wpAny (model X.prog X.w) X.A (forIn ifs true fun c r=>if r=true then do let ok ←isTrue c X.env (eval c X.env);pure (ForInStep.yield ok) else pure (ForInStep.yield r)) (TP X pins σ Q) X.xe s
def tAll:TT:=fun _ H Q=>Q true H
theorem pf_nil {X:Cx}:PF X [] tAll:=fun pins s σ H Q I h=>wpAny_pure ⟨H,I,h⟩
def CompGoal (J:It) (tt:TT) (te:TE) (σf:List (Option V)) (D:Addr) (Q:VK) (H:Hp):Prop:=∃ W:Nat→Nat→List V→Hp→Prop,(∃ n,W n 0 [] (upd H D (.lst [])))∧∀ n i acc H2,W n i acc H2 →
 (J.stop i H2∧Q (.ref D) H2)∨(J.go i H2∧∃ N:List V→Hp→Prop,(∀ l H',N l H'→∃ n',n'<n∧W n' (i+1) l H')∧∀ v H3,J.yld i H2 v H3→tt (some v::σf) H3 fun b H4 =>
  if b=true then te (some v::σf) H4 fun y H5=>H5 D=some (.lst acc)∧acc.length<sizeLine∧N (acc++[y]) (upd H5 D (.lst (acc++[y]))) else N acc H4)
def tComp (wi:TI) (fv:List (Nat × Str)) (tt:TT) (te:TE):TE:=fun σ H Q=>wi σ H fun J H1=>∀ D,H1 D=none→CompGoal J tt te (fvs σ fv) D Q H1
section
variable {X:Cx} {x:Str} {px pos:Pos} {elt iter:Expr} {ifs:List Expr} {scope:Scope} {cl:List (Str × Addr)} {fv:List (Nat × Str)} {wi:TI} {tt:TT} {te:TE}
 {pins:List (Addr × Obj)} {σ:St} {H2:Hp} {s2:Shared} {fp:List Addr} {it:Addr} {tn:Nat→Heap→Prop} {J:It}
theorem blk_ok {C:Addr} {N:List Str} (I2:Inv X pins σ H2 s2) (f2:∀ b∈fp,FpOk X pins H2 b) (o2:∀ b∈fp,∃ o,s2.heap.get? b=some o∧∀ v,o.data≠.cell v) (hC:s2.heap.objs.size≤C) (hk:scope.kind=.function) (hcl:ClOk X.env cl)
  (hhas:((relabel scope X.env).names.all fun z=>!(z.2 == .cell || z.2 == .free) || (cl.lookup z.1).isSome)=true):(cxB X s2 H2 (compEnvC scope cl C X.env) fp N).Ok where
 mod:=I2.ok.mod
 kind:=hk
 glob:=I2.ok.glob
 blt:=I2.ok.blt
 above:=hC
 inj:=fun x y c h1 h2=>I2.ok.inj x y c (hcl.at' h1) (hcl.at' h2)
 has:=fun y h=>by
  have key:∀ k:NameKind,(relabel scope X.env).names.lookup y=some k→(k == .cell || k == .free)=true→∃ c,cl.lookup y=some c:=fun k hl hk=>by
   have mem:(y,k)∈(relabel scope X.env).names:=by
    generalize (relabel scope X.env).names=l at hl
    induction l with
    | nil=>cases hl
    | cons q r ih =>
     rw [List.lookup_cons] at hl
     cases e:y == q.1 with
     | true =>
      rw [e] at hl
      cases hl
      rw [eq_of_beq e]
      exact List.mem_cons_self
     | false =>
      rw [e] at hl
      exact List.mem_cons_of_mem _ (ih hl)
   have z:=List.all_eq_true.mp hhas _ mem
   simp only [hk,Bool.not_true,Bool.false_or] at z
   exact Option.isSome_iff_exists.mp z
  rcases h with h | h
  ·exact key _ h rfl
  ·exact key _ h rfl
 cab:=fun _ _ h=>nomatch h
 hd:=I2.ok.hd
 frames:=I2.ok.frames
 stk:=.inl rfl
 exf:=fun b hb=>by
  obtain ⟨o,e,_⟩:=o2 b hb
  exact ⟨Nat.ne_of_lt (Nat.lt_of_lt_of_le (Heap.lt_size e) hC),fun y c h=>(f2 b hb).2.2.2.2.1 y c (hcl.at' h)⟩
 bs:=fun b o e=>I2.bs b o e
 bsz:=Nat.le_trans I2.ok.bsz I2.sz
 noex:=fun b o e hb=>by
  obtain ⟨_,_,_,h,_⟩:=f2 b hb
  rcases h with h | h
  ·exact I2.ok.noex b o e h
  ·exact absurd (Nat.lt_of_lt_of_le (Heap.lt_size e) (Nat.le_trans I2.ok.bsz h)) (Nat.lt_irrefl _)
 exfs:=fun b hb z=>(List.mem_cons.mp (I2.stkSub b z)).elim (f2 b hb).2.1 (f2 b hb).2.2.1
 funs:=I2.stack
 frf:=I2.stkFree
theorem blk_land {env:Env} {N:List Str} {σ':St} {H':Hp} {s':Shared} {pl:List (Addr × Obj)} (I2:Inv X pins σ H2 s2) (f2:∀ b∈fp,FpOk X pins H2 b) (Ib:Inv (cxB X s2 H2 env fp N) pl σ' H' s'):Inv X pins σ H' s' :=
 I2.call' (ch:=fp) Ib.os Ib.base Ib.hok Ib.bare fun b hb=>⟨(f2 b hb).2.2.2.1,(f2 b hb).2.1,(f2 b hb).2.2.2.2.1,(f2 b hb).2.2.2.2.2⟩
theorem blk_in {D C:Addr} {h1:Heap} {t1:Nat} (I2:Inv X pins σ H2 s2) (f2:∀ b∈fp,FpOk X pins H2 b) (o2:∀ b∈fp,∃ o,s2.heap.get? b=some o∧∀ v,o.data≠.cell v) (hD:s2.heap.objs.size≤D) (hC:s2.heap.objs.size≤C) (hDC:D≠C)
  (old:∀ b o,s2.heap.get? b=some o→h1.get? b=some o) (hl:h1.PlainList D #[]) (hn:h1.Ns C (fun _=>none)) (hk:scope.kind=.function) (hcl:ClOk X.env cl)
  (hhas:((relabel scope X.env).names.all fun z=>!(z.2 == .cell || z.2 == .free) || (cl.lookup z.1).isSome)=true) (hfv:FvOk X scope cl fv) :
  Inv (cxB X s2 H2 (compEnvC scope cl C X.env) fp (x::fv.map (·.2))) [] (none::fvs σ fv) (upd H2 D (.lst [])) { s2 with heap:=h1,toks:=t1 } where
 ok:=blk_ok I2 f2 o2 hC hk hcl hhas
 os:=rfl
 bare:=I2.bare
 base:=Un.laid old hD (I2.hok.fresh hD)
 loc:=by
  refine ⟨_,hn,fun i y v h1' h2' _=>?_⟩
  cases i with
  | zero=>cases h2'
  | succ i =>
   have h1':(fv.map (·.2))[i]?=some y:=h1'
   have h2':(fvs σ fv)[i]?=some (some v):=h2'
   obtain ⟨q,hq,e1⟩:∃ q,fv[i]?=some q∧q.2=y:=by
    rw [List.getElem?_map] at h1'
    exact Option.map_eq_some_iff.mp h1'
   subst e1
   obtain ⟨g1,g2,g3,g4⟩:=hfv.at' q (List.mem_of_getElem? hq)
   unfold fvs at h2'
   rw [List.getElem?_map,hq] at h2'
   have e2:(σ[q.1]?).join=some v:=Option.some.inj h2'
   have e3:σ[q.1]?=some (some v):=by
    cases z:σ[q.1]? with
    | none=>rw [z] at e2;cases e2
    | some w=>rw [z] at e2;exact congrArg some e2
   obtain ⟨m,_,lk⟩:=I2.loc
   obtain ⟨u,ru,lu⟩:=lk q.1 q.2 v g1 e3 (.inr (.inl g2))
   refine ⟨u,ru,.inr ⟨.inl g3,?_⟩⟩
   obtain ⟨c,hc⟩:=Option.isSome_iff_exists.mp g4
   refine ⟨c,hc,?_⟩
   rcases lu with ⟨kk,_⟩ | ⟨_,c',e',⟨o,eo,d⟩⟩
   ·rw [show X.env.kindOf q.2=some .cell from g2] at kk;cases kk
   ·have e4:=hcl.at' hc
    rw [e'] at e4
    cases e4
    exact ⟨o,old c o eo,d⟩
 cell:=fun y c h=>by
  obtain ⟨v,o,eo,d⟩:=I2.cell y c (hcl.at' h)
  exact ⟨v,o,old c o eo,d⟩
 free:=by
  show upd H2 D _ C=none
  rw [upd_ne (Ne.symm hDC)]
  exact I2.hok.fresh hC
 freeC:=fun y c h=>by
  obtain ⟨v,o,eo,d⟩:=I2.cell y c (hcl.at' h)
  rw [upd_ne (Nat.ne_of_lt (Nat.lt_of_lt_of_le (Heap.lt_size eo) hD))]
  exact I2.freeC y c (hcl.at' h)
 pin:=fun p hp=>nomatch hp
 hok:=I2.hok.laid old hD (by
  obtain ⟨n,e⟩:=hl
  exact ⟨Nat.zero_le _,[],n,.nil,by simpa using e⟩)
 len:=by simp [fvs,cxB]
theorem blk_run {RR:Value→Addr→Result→Shared→Prop} {E:Value→Shared→Prop} {Q:VK} (hc:X.calm=true) (I2:Inv X pins σ H2 s2) (T:Turn X.prog X.w X.K (.Name x px) J fp it tn) (st2:tn 0 s2.heap) (f2:∀ b∈fp,FpOk X pins H2 b)
  (hcell:∀ y∈scope.names,y.2≠.cell) (hk:scope.kind=.function) (hx:scope.names.lookup x=some .local) (hcl:ClOk X.env cl) (hhas:((relabel scope X.env).names.all fun z=>!(z.2 == .cell || z.2 == .free) || (cl.lookup z.1).isSome)=true) (hfv:FvOk X scope cl fv) (hnd:(x::fv.map (·.2)).Nodup)
  (hf:∀ s H C fp,PF (cxB X s H (compEnvC scope cl C X.env) fp (x::fv.map (·.2))) ifs tt) (he:∀ s H C fp,PE (cxB X s H (compEnvC scope cl C X.env) fp (x::fv.map (·.2))) elt te)
  (hw:∀ D,H2 D=none→CompGoal J tt te (fvs σ fv) D Q H2)
  (hRR:∀ D C σ' H' s',s2.heap.objs.size≤C→Inv (cxB X s2 H2 (compEnvC scope cl C X.env) fp (x::fv.map (·.2))) [] σ' H' s'→Q (.ref D) H'→RR (.ref D) C (.ok .next) s') :
  wpAny (model X.prog X.w) X.A (newList []) (fun acc s3=>wpAny (model X.prog X.w) X.A (newFunctionEnv scope X.env.globals cl [] X.env.qual none .none (some X.env)) (fun cenv s4 =>
   codeAny (model X.prog X.w) X.A (.compStart (.ListComp elt [⟨.Name x px,iter,ifs,0⟩] scope pos) 0 (.ref it) acc { cenv with scope:=relabel scope X.env }) (RR acc cenv.locals) s4) E s3) E s2:=by
 refine wpAny_newObj_type (wpAny_newFunctionEnv hcell (by intro y hy;simp at hy) (fun h1 hns hsb=>?_) hk)
 dsimp only at hns hsb ⊢
 generalize hH:s2.heap.push { cls:=.type "list",dict:=none,data:=.seq ([]:List Value).toArray }=HH at hns hsb ⊢
 have eC:HH.objs.size=s2.heap.objs.size+1:=by rw [←hH,Heap.size_push]
 have hDC:s2.heap.objs.size≠HH.objs.size:=by rw [eC];exact Nat.ne_of_lt (Nat.lt_succ_self _)
 have hC:s2.heap.objs.size≤HH.objs.size:=by rw [eC];exact Nat.le_succ _
 have old:∀ b o,s2.heap.get? b=some o→h1.get? b=some o:=fun b o e=>hsb.extBut b o (by rw [eC];exact Nat.ne_of_lt (Nat.lt_succ_of_lt (Heap.lt_size e))) (Heap.get?_push_of_some _ (hH▸Heap.get?_push_of_some _ e))
 have hacc:h1.PlainList s2.heap.objs.size #[]:=⟨_,hsb.extBut _ _ hDC (Heap.get?_push_of_some _ (hH▸Heap.get?_push_size _ rfl))⟩
 have o2:=T.obj _ _ st2
 obtain ⟨W,⟨n0,w0⟩,turn⟩:=hw s2.heap.objs.size (I2.hok.fresh (Nat.le_refl _))
 generalize eD:s2.heap.objs.size=D at *
 generalize eCC:HH.objs.size=C at *
 have Ib:=blk_in (x:=x) (t1:=s2.toks+([]:List (Str × Value)).length) I2 f2 o2 (by rw [eD];exact Nat.le_refl _) (by rw [eD];exact hC) hDC old hacc hns hk hcl hhas hfv
 have st1:tn 0 h1:=T.keep _ _ _ st2 fun b _ o e=>old b o e
 have nD:∀ b∈fp,b≠D:=fun b hb=>by
  obtain ⟨o,e,_⟩:=o2 b hb
  rw [←eD]
  exact Nat.ne_of_lt (Heap.lt_size e)
 have fr1:∀ b∈fp,upd H2 D (.lst []) b=none:=fun b hb=>by rw [upd_ne (nD b hb)];exact (f2 b hb).1
 have hxl:(relabel scope X.env).names.lookup x=some .local:=lookup_relabel_local hx
 have stat:∀ {H':Hp},(∀ b∈fp,H' b=none)→∀ b∈fp,FpOk (cxB X s2 H2 (compEnvC scope cl C X.env) fp (x::fv.map (·.2))) [] H' b:=fun hn b hb=>by
  obtain ⟨o,e,_⟩:=o2 b hb
  exact ⟨hn b hb,fun z=>absurd (Heap.lt_size e) (by rw [z,eD];exact Nat.not_lt.mpr hC),fun z=>(List.mem_cons.mp (I2.stkSub b z)).elim (f2 b hb).2.1 (f2 b hb).2.2.1,.inl hb,fun y c h=>(f2 b hb).2.2.2.2.1 y c (hcl.at' h),fun q hq=>nomatch hq⟩
 have loop:codeAny (model X.prog X.w) X.A (.compLoop (.ListComp elt [⟨.Name x px,iter,ifs,0⟩] scope pos) 0 (.ref it) (.ref D) (compEnvC scope cl C X.env)) (RR (.ref D) C) { s2 with heap:=h1,toks:=s2.toks+([]:List (Str × Value)).length }:=by
  refine codeAny_compLoop_tests (fun n s'=>∃ i acc σb H',Inv (cxB X s2 H2 (compEnvC scope cl C X.env) fp (x::fv.map (·.2))) [] σb H' s'∧σb.tail=fvs σ fv∧tn i s'.heap∧(∀ b∈fp,H' b=none)∧W n i acc H') ?_ n0 ⟨0,[],_,_,Ib,rfl,st1,fr1,w0⟩
  rintro n s3 ⟨i,acc,σ3,H3,I3,t3,st3,fr3,w3⟩
  rcases turn n i acc H3 w3 with ⟨stop,qn⟩ | ⟨go,NN,hNN,step⟩
  ·refine thn (T.done (cxB X s2 H2 (compEnvC scope cl C X.env) fp (x::fv.map (·.2))) rfl rfl rfl hc i [] s3 σ3 H3 _ I3 (stat fr3) st3 stop) fun r s4 q4=>?_
   obtain ⟨hr,I4⟩:=q4
   subst hr
   exact hRR D C σ3 H3 s4 hC I4 qn
  ·refine thn (T.item (cxB X s2 H2 (compEnvC scope cl C X.env) fp (x::fv.map (·.2))) rfl rfl rfl hc i [] s3 σ3 H3 _ I3 (stat fr3) st3 go) fun r s4 q4=>?_
   obtain ⟨u,hr,h4⟩:=q4
   subst hr
   refine (show wpAny _ _ (letOwnedTupleGo (.Name x px) (.ref it) u >>= fun _=>assign (.Name x px) (compEnvC scope cl C X.env) u) _ _ _ from wpAny_bind (thn h4 fun _ s5 q5=>?_))
   obtain ⟨v,H5,I5,r5,y5,st5,fr5⟩:=q5
   have I5':=I5.pinned (stat fr5) (T.obj _ _ st5)
   have again:∀ {σ7:St} {H7:Hp} {s7:Shared},Inv (cxB X s2 H2 (compEnvC scope cl C X.env) fp (x::fv.map (·.2))) ([]++pinsAt fp s5.heap) σ7 H7 s7→tn (i+1) s7.heap∧∀ b∈fp,H7 b=none:=fun {σ7 H7 s7} I7=>by
    refine ⟨T.keep _ _ _ st5 fun b hb o e=>(I7.pin (b,o) (List.mem_append_right _ (List.mem_append_right _ (mem_pinsAt hb e)))).1,fun b hb=>?_⟩
    obtain ⟨o,e,d⟩:=T.obj _ _ st5 b hb
    exact (I7.pin (b,o) (List.mem_append_right _ (List.mem_append_right _ (mem_pinsAt hb e)))).2.1
   have sσ:σ3.set 0 (some v)=some v::fvs σ fv:=by
    cases σ3 with
    | nil =>
     have z:=I3.len
     simp [cxB] at z
    | cons a b =>
     have z:b=fvs σ fv:=t3
     rw [z];rfl
   have g:=pg_name (X:=cxB X s2 H2 (compEnvC scope cl C X.env) fp (x::fv.map (fun q:Nat × Str=>q.2))) (pos:=px) (i:=0) (x:=x) hnd rfl (.inl hxl) (.inr hxl)
   refine wpAny_noRaise (thn (g _ s5 σ3 H5 v u (fun σ' H'=>σ'=some v::fvs σ fv∧H'=H5) I5' r5 ⟨sσ,rfl⟩) fun _ s6 q6=>?_)
   obtain ⟨σ6,H6,I6,rfl,rfl⟩:=q6
   refine wpAny_noRaise (thn (hf _ _ _ _ _ s6 _ _ _ I6 (step v _ y5)) fun b s7 q7=>?_)
   obtain ⟨H7,I7,q7⟩:=q7
   cases b with
   | false =>
    rw [if_neg (by decide)] at q7 ⊢
    obtain ⟨n',hn',w7⟩:=hNN _ _ q7
    exact ⟨n',hn',i+1,acc,_,H7,I7.unpinned,rfl,(again I7).1,(again I7).2,w7⟩
   | true =>
    rw [if_pos rfl] at q7 ⊢
    refine wpAny_noRaise (thn (he _ _ _ _ _ s7 _ _ _ I7 q7) fun yv s8 q8=>?_)
    obtain ⟨y,H8,I8,r8,e8,l8,q8⟩:=q8
    obtain ⟨n',hn',w8⟩:=hNN _ _ q8
    refine wpAny_noRaise (thn (mt_append (X:=cxB X s2 H2 (compEnvC scope cl C X.env) fp (x::fv.map (·.2))) _ s8 _ H8 (.ref D) [y] (.ref D) [yv] (fun _ H'=>H'=upd H8 D (.lst (acc++[y]))) I8 rfl (.cons r8 .nil) ⟨D,acc,y,rfl,rfl,e8,l8,rfl⟩) fun _ s9 q9=>?_)
    obtain ⟨_,H9,I9,_,rfl⟩:=q9
    exact ⟨n',hn',i+1,acc++[y],_,_,I9.unpinned,rfl,(again I9).1,(again I9).2,w8⟩
 exact codeAny_compStart_list loop (T.self X.A 0 _ _ _ st1 loop)
theorem Inv.letGo {C:Addr} {H':Hp} {s':Shared} {h':Heap} (I2:Inv X pins σ H2 s2) {σ':St} (J:Inv X pins σ' H' s') (hC:s2.heap.objs.size≤C) (hn:H' C=none) (sb:Heap.SameBut C s'.heap h'):Inv X pins σ' H' { s' with heap:=h',toks:=s'.toks } :=
 J.turned (it:=C) (fun b o hb e=>(sb.2 b hb).trans e) hn (Nat.ne_of_gt (Nat.lt_of_lt_of_le I2.lt hC)) (.inr (Nat.le_trans I2.sz hC)) (fun y c e z=>by
  obtain ⟨v,o,eo,d⟩:=I2.cell y c e
  exact absurd (Nat.lt_of_lt_of_le (Heap.lt_size eo) (by rw [z];exact hC)) (Nat.lt_irrefl _)) fun p hp z=>absurd (Nat.lt_of_lt_of_le (Heap.lt_size (I2.pin p hp).1) (by rw [z];exact hC)) (Nat.lt_irrefl _)
theorem pe_comp (hc:X.calm=true) (hi:PI X (.Name x px) iter wi) (hclos:closureFor scope X.env=pure cl) (hcell:∀ y∈scope.names,y.2≠.cell) (hk:scope.kind=.function) (hnames:∀ z∈scope.names,z.2=.local→scope.names.lookup z.1=some .local)
  (hx:scope.names.lookup x=some .local) (hcl:ClOk X.env cl) (hhas:((relabel scope X.env).names.all fun z=>!(z.2 == .cell || z.2 == .free) || (cl.lookup z.1).isSome)=true) (hfv:FvOk X scope cl fv) (hnd:(x::fv.map (·.2)).Nodup)
  (hf:∀ s H C fp,PF (cxB X s H (compEnvC scope cl C X.env) fp (x::fv.map (·.2))) ifs tt) (he:∀ s H C fp,PE (cxB X s H (compEnvC scope cl C X.env) fp (x::fv.map (·.2))) elt te)
  (hs:∀ x,foldedSetIterable iter X.env x=pure x:=by intro _;rfl):PE X (.ListComp elt [⟨.Name x px,iter,ifs,0⟩] scope pos) (tComp wi fv tt te):=by
 intro pins s σ H Q I h
 rw [eval_ListComp]
 refine wpAny_comprehension_free (use:=none) rfl hs hclos hk hnames (thn (hi pins s σ H _ I h) fun v s1 h1=>thn h1 fun itv s2 h2=>?_)
 obtain ⟨it,fp,tn,J,H2,e,I2,T,st2,f2,hw⟩:=h2
 subst e
 refine blk_run (RR:=fun acc C=>compPost (model X.prog X.w) X.A X.xe none (EP X pins σ Q) acc C) hc I2 T st2 f2 hcell hk hx hcl hhas hfv hnd hf he hw fun D C σ' H' s' hC Ib q=>?_
 obtain ⟨m,hn,_⟩:=Ib.loc
 exact ⟨m,hn,fun h' sb=>⟨.ref D,H',Inv.letGo I2 (blk_land I2 f2 Ib) hC Ib.free sb,rfl,q⟩⟩
theorem ps_comp {y:Str} {iy:Nat} {py spos:Pos} (hc:X.calm=true) (hN:X.N.Nodup) (hy:X.N[iy]?=some y) (hyl:Loc X.env.scope y) (hi:PI X (.Name x px) iter wi) (hsw:swapsWith (.ListComp elt [⟨.Name x px,iter,ifs,0⟩] scope pos) (some (.Name y py)) spos.line X.env=pure true)
  (hclos:closureFor scope X.env=pure cl) (hcell:∀ y∈scope.names,y.2≠.cell) (hk:scope.kind=.function) (hnames:∀ z∈scope.names,z.2=.local→scope.names.lookup z.1=some .local)
  (hx:scope.names.lookup x=some .local) (hcl:ClOk X.env cl) (hhas:((relabel scope X.env).names.all fun z=>!(z.2 == .cell || z.2 == .free) || (cl.lookup z.1).isSome)=true) (hfv:FvOk X scope cl fv) (hnd:(x::fv.map (·.2)).Nodup)
  (hf:∀ s H C fp,PF (cxB X s H (compEnvC scope cl C X.env) fp (x::fv.map (·.2))) ifs tt) (he:∀ s H C fp,PE (cxB X s H (compEnvC scope cl C X.env) fp (x::fv.map (·.2))) elt te)
  (hyf:X.fn y=true∨X.env.scope.names.lookup y=some .local:=by first | exact .inl rfl | exact .inr rfl) (hs:∀ x,foldedSetIterable iter X.env x=pure x:=by intro _;rfl) :
  PS X (.Assign [.Name y py] (.ListComp elt [⟨.Name x px,iter,ifs,0⟩] scope pos) spos) (tAsg (tComp wi fv tt te) (gName iy)):=by
 intro pins s σ H D h' h
 have I:=h'
 rw [exec_Assign_Name_used _ _ _ _ hsw]
 refine wpAny_bind (wpAny_standAt (wpAny_bind ?_))
 show wpAny _ X.A (do let _ ←comprehension (.ListComp elt [⟨.Name x px,iter,ifs,0⟩] scope pos) scope X.env _ (newList []) false (eval iter X.env) (some (assign (.Name y py) X.env))) _ _ s
 refine wpAny_bind (wpAny_mono (wpAny_comprehension_free (use:=some (assign (.Name y py) X.env)) (Q:=fun _ s'=>SP X pins D .next s') rfl hs hclos hk hnames (thn (hi pins s σ H _ I h) fun v s1 h1=>thn h1 fun itv s2 h2=>?_)) (fun _ s' hq=>wpAny_pure (wpAny_pure hq)) fun _ _ e=>e)
 obtain ⟨it,fp,tn,J,H2,e,I2,T,st2,f2,hw⟩:=h2
 subst e
 refine blk_run (Q:=fun v H1=>gName iy v σ H1 D.nx) (RR:=fun acc C=>compPost (model X.prog X.w) X.A X.xe (some (assign (.Name y py) X.env)) (fun _ s'=>SP X pins D .next s') acc C) hc I2 T st2 f2 hcell hk hx hcl hhas hfv hnd hf he hw fun D' C σ' H' s' hC Ib q=>?_
 obtain ⟨m,hn,_⟩:=Ib.loc
 show wpAny _ X.A (assign (.Name y py) X.env (.ref D')) _ _ _
 refine wpAny_assign_Name (store_ok2 (blk_land I2 f2 Ib) hN hy hyl (v:=.ref D') rfl (fun s3 I3 hsb=>?_) hyf)
 obtain ⟨a,sb3,ha⟩:=hsb
 have nC:C≠a:=fun z=>by
  rcases ha with e | e
  ·exact absurd (Nat.lt_of_lt_of_le I2.lt hC) (by rw [z,e];exact Nat.lt_irrefl _)
  ·obtain ⟨v,o,eo,d⟩:=I2.cell y a e
   exact absurd (Nat.lt_of_lt_of_le (Heap.lt_size eo) (by rw [←z];exact hC)) (Nat.lt_irrefl _)
 exact ⟨m,hn.sameBut sb3 nC,fun h'' sb=>⟨_,H',Inv.letGo I2 I3 hC Ib.free sb,q⟩⟩
end
theorem comp_range {lo:Int} {n:Nat} {tt:TT} {te:TE} {σf:List (Option V)} {D:Addr} {Q:VK} {H:Hp} (Pv:Nat→List V→Hp→Prop) (h0:Pv 0 [] (upd H D (.lst [])))
  (hs:∀ i acc H2,i<n→Pv i acc H2→tt (some (.int (lo+i))::σf) H2 fun b H4=>if b=true then te (some (.int (lo+i))::σf) H4 fun y H5=>H5 D=some (.lst acc)∧acc.length<sizeLine∧Pv (i+1) (acc++[y]) (upd H5 D (.lst (acc++[y]))) else Pv (i+1) acc H4)
  (hd:∀ acc H2,Pv n acc H2→Q (.ref D) H2):CompGoal (Itr lo n) tt te σf D Q H:=by
 refine ⟨fun k i acc H=>k=n - i∧i≤n∧Pv i acc H,⟨n,by simp,Nat.zero_le _,h0⟩,?_⟩
 rintro k i acc H2 ⟨rfl,hi,p⟩
 by_cases hlt:i<n
 ·refine .inr ⟨hlt,Pv (i+1),fun l H' p'=>⟨n - (i+1),by lia,rfl,hlt,p'⟩,fun x H' y=>?_⟩
  obtain ⟨e,y⟩:=y
  subst e y
  exact hs i acc _ hlt p
 ·have e:i=n:=by lia
  subst e
  exact .inl ⟨Nat.le_refl _,hd acc H2 p⟩
theorem comp_list {K:PySem.W.Frag} {a:Addr} {xs:List V} {tt:TT} {te:TE} {σf:List (Option V)} {D:Addr} {Q:VK} {H:Hp} (Pv:Nat→List V→Hp→Prop) (h0:Pv 0 [] (upd H D (.lst []))) (hl:∀ i acc H,i≤xs.length→Pv i acc H→SqL K H a xs)
  (hs:∀ i x acc H2,xs[i]?=some x→Pv i acc H2→tt (some x::σf) H2 fun b H4=>if b=true then te (some x::σf) H4 fun y H5=>H5 D=some (.lst acc)∧acc.length<sizeLine∧Pv (i+1) (acc++[y]) (upd H5 D (.lst (acc++[y]))) else Pv (i+1) acc H4)
  (hd:∀ acc H2,Pv xs.length acc H2→Q (.ref D) H2):CompGoal (Itl K a) tt te σf D Q H:=by
 refine ⟨fun k i acc H=>k=xs.length - i∧i≤xs.length∧Pv i acc H,⟨xs.length,by simp,Nat.zero_le _,h0⟩,?_⟩
 rintro k i acc H2 ⟨rfl,hi,p⟩
 have q:=hl i acc H2 hi p
 by_cases hlt:i<xs.length
 ·refine .inr ⟨⟨xs,xs[i],q,by simp [hlt]⟩,Pv (i+1),fun l H' p'=>⟨xs.length - (i+1),by lia,rfl,hlt,p'⟩,fun x H' y=>?_⟩
  obtain ⟨e,y⟩:=y
  subst e
  exact hs i x acc _ (y xs q) p
 ·have e:i=xs.length:=by lia
  subst e
  exact .inl ⟨⟨xs,q,Nat.le_refl _⟩,hd acc H2 p⟩
end L2
namespace L2
open PySem PySem.Spec PyProof.Rows
section
variable {X:Cx}
theorem preSum_list:∀ (ns:List Int) (k:Nat),k≤ns.length→preSum (fun i=>ns.getD i 0) k=(ns.take k).sum
 | ns,0,_=>by simp [preSum]
 | ns,k+1,h=>by
  have e:ns.take (k+1)=ns.take k++[ns[k]]:=by rw [List.take_succ,List.getElem?_eq_getElem (by lia)];rfl
  rw [preSum,preSum_list ns k (by lia),e,List.sum_append,List.getD_eq_getElem?_getD,List.getElem?_eq_getElem (by lia)]
  simp
theorem call_sum_of (hc:X.calm=true):CallR X (.builtin "sum") (fun xs H Q=>∃ (p:Addr) (ns:List Int),xs=[.ref p]∧SqL X.K H p (ns.map V.int)∧Q (.int ns.sum) H):=by
 intro pins s σ H xs us Q I r h
 obtain ⟨p,ns,rfl,hq,q⟩:=h
 obtain ⟨u,rfl,rx⟩:=vals1 r
 cases rx
 obtain ⟨its,rits,pl,hz⟩:=I.list hq
 have hlen:=rits.length
 rw [List.length_map] at hlen
 have alt:p<s.heap.objs.size:=by obtain ⟨o,e,_⟩:=pl.isList;exact Heap.lt_size e
 refine call_sum_walkG (wpAny_pyIter_list pl.isList ?_)
 have up:∀ b o,s.heap.get? b=some o→(s.heap.push { cls:=.type "list_iterator",data:=.fields #[.ref p,.int 0 0] }).get? b=some o:=fun b o e=>Heap.get?_push_of_some _ e
 refine ⟨s.heap.objs.size,[s.heap.objs.size,p],[s.heap.objs.size],its.toArray.size,_,_,fun i=>ns.getD i 0,rfl,Walks.list (A:=X.A.in1) (I.ok.hd hc) _ p (Nat.ne_of_lt alt) its.toArray,⟨⟨_,Heap.get?_push_size _ rfl,rfl,rfl⟩,pl.isList.at fun o e=>up p o e⟩,fun b hb=>?_,fun i v hv=>?_,fun h' tk t' kk=>?_⟩
 ·show b<(s.heap.push _).objs.size
  rw [Heap.size_push]
  rcases List.mem_cons.mp hb with z | z
  ·rw [z];exact Nat.lt_succ_self _
  ·rw [List.mem_singleton.mp z];exact Nat.lt_succ_of_lt alt
 ·have hv':its[i]?=some v:=by simpa using hv
  have hi:=(List.getElem?_eq_some_iff.mp hv').1
  obtain ⟨u2,hu2,ru2⟩:=rits.get (x:=.int (ns.getD i 0)) (i:=i) (by rw [List.getElem?_map,List.getElem?_eq_getElem (by lia),List.getD_eq_getElem?_getD,List.getElem?_eq_getElem (by lia)];rfl)
  rw [hv'] at hu2
  cases hu2
  exact ru2
 ·refine ⟨.int ns.sum,H,I.kept (t':=tk) fun b o e=>kk b o (fun z=>?_) (up b o e),⟨t',?_⟩,q⟩
  ·rw [List.mem_singleton.mp z] at e
   exact absurd (Heap.lt_size e) (Nat.lt_irrefl _)
  ·rw [preSum_list ns _ (by simp [←hlen]),List.size_toArray,←hlen,List.take_length]
theorem call_max_of (hc:X.calm=true):CallR X (.builtin "max") (fun xs H Q=>∃ (p:Addr) (ns:List Int),xs=[.ref p]∧SqL X.K H p (ns.map V.int)∧0<ns.length∧∀ m:Int,m∈ns→(∀ n∈ns,n≤m)→Q (.int m) H):=by
 intro pins s σ H xs us Q I r h
 obtain ⟨p,ns,rfl,hq,hpos,q⟩:=h
 obtain ⟨u,rfl,rx⟩:=vals1 r
 cases rx
 obtain ⟨its,rits,pl,hz⟩:=I.list hq
 have hlen:=rits.length
 rw [List.length_map] at hlen
 have alt:p<s.heap.objs.size:=by obtain ⟨o,e,_⟩:=pl.isList;exact Heap.lt_size e
 have up:∀ b o,s.heap.get? b=some o→(s.heap.push { cls:=.type "list_iterator",data:=.fields #[.ref p,.int 0 0] }).get? b=some o:=fun b o e=>Heap.get?_push_of_some _ e
 have hval:∀ (i:Nat) (v:Value),its.toArray[i]?=some v→i<ns.length∧∃ t,v=.int (ns.getD i 0) t:=fun i v hv=>by
  have hv':its[i]?=some v:=by simpa using hv
  have hi:=(List.getElem?_eq_some_iff.mp hv').1
  obtain ⟨u2,hu2,ru2⟩:=rits.get (x:=.int (ns.getD i 0)) (i:=i) (by rw [List.getElem?_map,List.getElem?_eq_getElem (by lia),List.getD_eq_getElem?_getD,List.getElem?_eq_getElem (by lia)];rfl)
  rw [hv'] at hu2
  cases hu2
  exact ⟨by lia,ru2⟩
 refine call_max_walk (wpAny_pyIter_list pl.isList ?_)
 refine ⟨s.heap.objs.size,[s.heap.objs.size,p],[s.heap.objs.size],its.toArray.size,_,_,_,rfl,Walks.list (A:=X.A.in1) (I.ok.hd hc) _ p (Nat.ne_of_lt alt) its.toArray,⟨⟨_,Heap.get?_push_size _ rfl,rfl,rfl⟩,pl.isList.at fun o e=>up p o e⟩,fun b hb=>?_,by rw [List.size_toArray];lia,CmpOf.ints_gt (fun i=>ns.getD i 0) (fun i v hv=>(hval i v hv).2),fun v h' tk hv kk=>?_⟩
 ·show b<(s.heap.push _).objs.size
  rw [Heap.size_push]
  rcases List.mem_cons.mp hb with z | z
  ·rw [z];exact Nat.lt_succ_self _
  ·rw [List.mem_singleton.mp z];exact Nat.lt_succ_of_lt alt
 ·obtain ⟨hb,t,rfl⟩:=hval _ v hv
  refine ⟨.int _,H,I.kept (t':=tk) fun b o e=>kk b o (fun z=>?_) (up b o e),⟨t,rfl⟩,q _ ?_ ?_⟩
  ·rw [List.mem_singleton.mp z] at e
   exact absurd (Heap.lt_size e) (Nat.lt_irrefl _)
  ·rw [List.getD_eq_getElem?_getD,List.getElem?_eq_getElem hb]
   exact List.getElem_mem hb
  ·intro n hn
   obtain ⟨j,hj,e⟩:=List.getElem_of_mem hn
   have z:=(argBest_gt (fun i=>ns.getD i 0) (its.toArray.size - 1)).2 j (by rw [List.size_toArray];lia)
   have e2:ns.getD j 0=n:=by rw [List.getD_eq_getElem?_getD,List.getElem?_eq_getElem hj];exact e
   rw [e2] at z
   exact z
theorem call_min_of (hc:X.calm=true):CallR X (.builtin "min") (fun xs H Q=>∃ (p:Addr) (ns:List Int),xs=[.ref p]∧SqL X.K H p (ns.map V.int)∧0<ns.length∧∀ m:Int,m∈ns→(∀ n∈ns,m≤n)→Q (.int m) H):=by
 intro pins s σ H xs us Q I r h
 obtain ⟨p,ns,rfl,hq,hpos,q⟩:=h
 obtain ⟨u,rfl,rx⟩:=vals1 r
 cases rx
 obtain ⟨its,rits,pl,hz⟩:=I.list hq
 have hlen:=rits.length
 rw [List.length_map] at hlen
 have alt:p<s.heap.objs.size:=by obtain ⟨o,e,_⟩:=pl.isList;exact Heap.lt_size e
 have up:∀ b o,s.heap.get? b=some o→(s.heap.push { cls:=.type "list_iterator",data:=.fields #[.ref p,.int 0 0] }).get? b=some o:=fun b o e=>Heap.get?_push_of_some _ e
 have hval:∀ (i:Nat) (v:Value),its.toArray[i]?=some v→i<ns.length∧∃ t,v=.int (ns.getD i 0) t:=fun i v hv=>by
  have hv':its[i]?=some v:=by simpa using hv
  have hi:=(List.getElem?_eq_some_iff.mp hv').1
  obtain ⟨u2,hu2,ru2⟩:=rits.get (x:=.int (ns.getD i 0)) (i:=i) (by rw [List.getElem?_map,List.getElem?_eq_getElem (by lia),List.getD_eq_getElem?_getD,List.getElem?_eq_getElem (by lia)];rfl)
  rw [hv'] at hu2
  cases hu2
  exact ⟨by lia,ru2⟩
 refine call_min_walk (wpAny_pyIter_list pl.isList ?_)
 refine ⟨s.heap.objs.size,[s.heap.objs.size,p],[s.heap.objs.size],its.toArray.size,_,_,_,rfl,Walks.list (A:=X.A.in1) (I.ok.hd hc) _ p (Nat.ne_of_lt alt) its.toArray,⟨⟨_,Heap.get?_push_size _ rfl,rfl,rfl⟩,pl.isList.at fun o e=>up p o e⟩,fun b hb=>?_,by rw [List.size_toArray];lia,CmpOf.ints_lt (fun i=>ns.getD i 0) (fun i v hv=>(hval i v hv).2),fun v h' tk hv kk=>?_⟩
 ·show b<(s.heap.push _).objs.size
  rw [Heap.size_push]
  rcases List.mem_cons.mp hb with z | z
  ·rw [z];exact Nat.lt_succ_self _
  ·rw [List.mem_singleton.mp z];exact Nat.lt_succ_of_lt alt
 ·obtain ⟨hb,t,rfl⟩:=hval _ v hv
  refine ⟨.int _,H,I.kept (t':=tk) fun b o e=>kk b o (fun z=>?_) (up b o e),⟨t,rfl⟩,q _ ?_ ?_⟩
  ·rw [List.mem_singleton.mp z] at e
   exact absurd (Heap.lt_size e) (Nat.lt_irrefl _)
  ·rw [List.getD_eq_getElem?_getD,List.getElem?_eq_getElem hb]
   exact List.getElem_mem hb
  ·intro n hn
   obtain ⟨j,hj,e⟩:=List.getElem_of_mem hn
   have z:=(argBest_lt (fun i=>ns.getD i 0) (its.toArray.size - 1)).2 j (by rw [List.size_toArray];lia)
   have e2:ns.getD j 0=n:=by rw [List.getD_eq_getElem?_getD,List.getElem?_eq_getElem hj];exact e
   rw [e2] at z
   exact z
end
end L2
namespace L2
open PySem PySem.Spec PyProof.Rows
def Itrs (lo c:Int) (n:Nat):It:=⟨fun i _=>i<n,fun i H x H'=>H'=H∧x=.int (lo+i*c),fun i _=>n≤i⟩
def rsz (a b c:Int):Nat:=if a<b then ((b - a - 1) / c+1).toNat else 0
theorem rsz_is {a b c:Int} (hc:0<c):Builtin.Range.rangeSize a b c=((rsz a b c:Nat):Int):=by
 unfold Builtin.Range.rangeSize rsz
 rw [if_pos hc]
 split
 ·have:=Int.ediv_nonneg (show 0≤b - a - 1 by lia) (Int.le_of_lt hc)
  lia
 ·rfl
theorem turn_rangeS {P:Program} {w:World} {K:PySem.W.Frag} {tg:Expr} (it:Addr) (lo c:Int) (n:Nat):Turn P w K tg (Itrs lo c n) [it] it (fun i h=>IsRangeIter h it (lo+(i:Nat)*c) ((n:Int) - (i:Nat)) c) where
 mem:=List.mem_singleton.mpr rfl
 obj:=fun i h st b hb=>by
  cases List.mem_singleton.mp hb
  refine ⟨_,st,fun v z=>?_⟩
  have y:Data.fields _=Data.cell v:=z
  cases y
 keep:=fun i h h' st k=>k it (List.mem_singleton.mpr rfl) _ st
 item:=by
  intro X hP hw hK hc i pins s σ H E I hf st hg
  subst hP hw hK
  obtain ⟨f0,f1,f2,f3,f4,f5⟩:=hf it (List.mem_singleton.mpr rfl)
  have V:=Walks.range (prog:=X.prog) (w:=X.w) (I.ok.hd hc) it lo c n
  refine V.item i s _ _ hg st fun v h' tk hv st' kk=>?_
  obtain ⟨t,rfl⟩:=hv
  have J:Inv X pins σ H { s with heap:=h',toks:=tk }:=I.turned (fun b o hb e=>kk b o (fun z=>hb (List.mem_singleton.mp z)) e) f0 f1 f3 f4 f5
  exact ⟨_,rfl,go_of (s:={ s with heap:=h',toks:=tk }) (n:="range_iterator") st' rfl rfl (by decide) ⟨.int (lo+i*c),H,J,⟨t,rfl⟩,⟨rfl,rfl⟩,st',fun b hb=>(hf b hb).1⟩⟩
 done:=by
  intro X hP hw hK hc i pins s σ H E I hf st hg
  subst hP hw hK
  obtain ⟨f0,f1,f2,f3,f4,f5⟩:=hf it (List.mem_singleton.mpr rfl)
  exact wpAny_pyNext_range_end (I.ok.hd hc) st (by have z:n≤i:=hg;lia) fun h' eb=>⟨rfl,I.turned (t':=s.toks) (fun b o hb e=>eb b o hb e) f0 f1 f3 f4 f5⟩
 self:=fun _ _ _ _ _ st h=>wpAny_pyIter_rangeiter st h
def iRng3 (ta:TA):TI:=fun σ H R=>ta σ H fun vs H1=>∃ a b c:Int,vs=[.int a,.int b,.int c]∧(0≤a∧a<2^29∧0≤b∧b<2^29∧0<c∧c<2^29)∧R (Itrs a c (rsz a b c)) H1
theorem small_step {a b c:Int} (h:0≤a∧a<2^29∧0≤b∧b<2^29∧0<c∧c<2^29):Builtin.Range.small a b c=true:=by
 obtain ⟨a0,a1,b0,b1,c0,c1⟩:=h
 unfold Builtin.Range.small
 rw [rsz_is c0]
 have hr:((rsz a b c:Nat):Int)≤2^29:=by
  unfold rsz
  split
  ·have h1:=Int.ediv_le_self c (show 0≤b - a - 1 by lia)
   have h2:=Int.ediv_nonneg (show 0≤b - a - 1 by lia) (Int.le_of_lt c0)
   lia
  ·lia
 simp only [Builtin.Range.rangeFitsLong,Bool.and_eq_true,Bool.or_eq_true,decide_eq_true_eq,beq_iff_eq]
 rw [if_pos c0]
 simp only [Bool.and_eq_true,decide_eq_true_eq]
 lia
section
variable {X:Cx} {tg:Expr}
theorem pi_range3 {a b c:Expr} {ta:TA} {p pos:Pos} (hg:Gl X "range") (hm:X.mg "range"=none) (ha:PA X [a,b,c] ta) (hs:starEach [a,b,c] X.env=[(false,eval a X.env),(false,eval b X.env),(false,eval c X.env)]:=by rfl) (hs2:starEach [b,c] X.env=[(false,eval b X.env),(false,eval c X.env)]:=by rfl) :
  PI X tg (.Call (.Name "range" p) [a,b,c] [] pos) (iRng3 ta):=by
 intro pins s σ H R I h
 refine Call_ (ld_blt I hg hm boot_range (PyProof.Rows.callWith_type1 (thn (ha pos pins s σ H _ I h) fun us s1 ⟨vs,H1,I1,r1,q1⟩=>?_) (by rw [hs,hs2]) (by rw [hs2];rfl)))
 obtain ⟨x,y,z,e,hb,q⟩:=q1
 subst e
 obtain ⟨u1,u2,u3,rfl,⟨t1,rfl⟩,⟨t2,rfl⟩,⟨t3,rfl⟩⟩:∃ u1 u2 u3,us=[u1,u2,u3]∧RelV (.int x) u1∧RelV (.int y) u2∧RelV (.int z) u3:=by
  cases r1 with
  | cons r rr =>
   cases rr with
   | cons r' rr =>
    cases rr with
    | cons r'' rr =>
     cases rr
     exact ⟨_,_,_,rfl,r,r',r''⟩
 refine call_range_3 (by lia) ?_ (Or.inl (PyProof.noPylong_small (by lia)))
 refine wpAny_pyIter_range (IsRange.new ..) (small_step hb) ?_
 have J:Inv X pins σ H1 { s1 with heap:=s1.heap.push { cls:=.type "range",data:=.fields #[.int x t1,.int y t2,.int z t3] },toks:=s1.toks }:=I1.kept fun b o e=>Heap.get?_push_of_some _ e
 generalize hG:s1.heap.push { cls:=.type "range",data:=.fields #[.int x t1,.int y t2,.int z t3] }=G at J ⊢
 refine ⟨G.objs.size,[G.objs.size],_,_,H1,rfl,J.kept (t':=s1.toks) fun b o e=>Heap.get?_push_of_some _ e,turn_rangeS _ x z (rsz x y z),?_,fun b hb=>?_,q⟩
 ·have e1:x+((0:Nat):Int)*z=x:=by simp
  have e2:(((rsz x y z):Nat):Int) - ((0:Nat):Int)=Builtin.Range.rangeSize x y z:=by rw [rsz_is hb.2.2.2.2.1];simp
  show IsRangeIter _ _ (x+((0:Nat):Int)*z) ((((rsz x y z):Nat):Int) - ((0:Nat):Int)) z
  rw [e1,e2]
  exact Heap.get?_push_size _ rfl
 ·cases List.mem_singleton.mp hb
  exact J.fpOk (Nat.le_refl _) (J.hok.fresh (Nat.le_refl _))
end
theorem comp_rangeS {lo c:Int} {n:Nat} {tt:TT} {te:TE} {σf:List (Option V)} {D:Addr} {Q:VK} {H:Hp} (Pv:Nat→List V→Hp→Prop) (h0:Pv 0 [] (upd H D (.lst [])))
  (hs:∀ i acc H2,i<n→Pv i acc H2→tt (some (.int (lo+i*c))::σf) H2 fun b H4=>if b=true then te (some (.int (lo+i*c))::σf) H4 fun y H5=>H5 D=some (.lst acc)∧acc.length<sizeLine∧Pv (i+1) (acc++[y]) (upd H5 D (.lst (acc++[y]))) else Pv (i+1) acc H4)
  (hd:∀ acc H2,Pv n acc H2→Q (.ref D) H2):CompGoal (Itrs lo c n) tt te σf D Q H:=by
 refine ⟨fun k i acc H=>k=n - i∧i≤n∧Pv i acc H,⟨n,by simp,Nat.zero_le _,h0⟩,?_⟩
 rintro k i acc H2 ⟨rfl,hi,p⟩
 by_cases z:i<n
 ·refine .inr ⟨z,Pv (i+1),fun l H' p'=>⟨n - (i+1),by lia,rfl,z,p'⟩,fun x H' y=>?_⟩
  obtain ⟨e1,e2⟩:=y
  subst e1 e2
  exact hs i acc _ z p
 ·obtain rfl:i=n:=by lia
  exact .inl ⟨Nat.le_refl _,hd acc H2 p⟩
end L2
namespace L2
open PySem PySem.Spec PyProof.Rows
section
variable {X:Cx} {pos:Pos}
def gLst (K:PySem.W.Frag) (n:Nat) (t:TGs):TG:=fun v σ H Q=>∃ a xs,v=.ref a∧SqL K H a xs∧xs.length=n∧t xs σ H Q
theorem pg_lst {es:List Expr} {k:Nat} {t:TGs} {n:Nat} (hc:X.calm=true) (h:PGs X es t)
  (hn:(assignEach es X.env).length=n:=by rfl) (hst:(assignEach es X.env).findIdx? (·.1)=none:=by rfl):PG X (.Tuple es k pos) (gLst X.K n t):=by
 intro pins s σ H v u Q I r hw
 obtain ⟨a,xs,e1,hq,hl,hw⟩:=hw
 subst e1
 cases r
 obtain ⟨its,rv,p,hz⟩:=I.list hq
 have hn2:(assignEach es X.env).length=its.toArray.size:=by simp [hn,←hl,rv.length]
 rw [assign_Tuple]
 refine wpAny_bind (wpAny_standAt ?_)
 unfold unpack
 rw [hn2,hst]
 refine wpAny_bind (wpAny_holding (PySem.W.kun_itemsOf (I.ok.hd hc) p.isList fun h' hx=>?_))
 have I1:Inv X pins σ H { s with heap:=h' }:=I.kept (t':=s.toks) fun b o e=>hx b o (Nat.ne_of_lt (Heap.lt_size e)) e
 exact h pins _ σ H xs _ Q I1 (by simpa using rv) hw
end
structure FunD (K:PySem.W.Frag) (x qual:Str) (st:Stmt) (f:Addr) (fd:FuncData) (dT:Addr) (its:List Value):Prop where
 ex:∃ (oc:Value) (od:Option Addr) (kV doc pm:Value) (an:Option Addr) (cdv ct:Value) (osl:Array (Option Value)),
  fd=PySem.W.fnOf x qual (defArgs st) (defBody st) (defScope st) (.ref dT) kV doc pm an cdv ct∧K.lookup f=some ⟨oc,od,.func fd,osl⟩∧PySem.W.codeIn K cdv qual=true
 df:∃ (oc:Value) (od:Option Addr) (n:Nat) (osl:Array (Option Value)),K.lookup dT=some ⟨oc,od,.seq its.toArray n,osl⟩
 kp:PySem.W.keepIn K (.ref f)=true
structure HasD (P:Program) (w:World) (K:PySem.W.Frag) (mg:Str→Option Value) (base:Heap) (k:Nat) (f:Addr) (ps:List Str) (sp:Sp) (dvs:List V):Prop where
 ex:∃ fd,FnOk P w K mg base (CXF P w) k f fd ps sp∧Binds K fd ps []∧∃ ds,Vals dvs ds∧Binds K fd ps ds
 kp:PySem.W.keepIn K (.ref f)=true
section
variable {P:Program} {w:World} {K:PySem.W.Frag} {mg:Str→Option Value} {base:Heap} {x qual:Str} {st:Stmt} {f:Addr} {fd:FuncData} {N ps:List Str} {k:Nat} {sp:Sp} {dvs:List V}
theorem HasD.all (G:HasD P w K mg base k f ps sp dvs):Has P w K mg base k f ps sp:=by
 obtain ⟨⟨fd,F,b,_⟩,kp⟩:=G
 exact ⟨⟨fd,F,b⟩,kp⟩
abbrev BindsD (x qual:Str) (st:Stmt) (ps:List Str) (dT:Addr) (its ds:List Value) (n:Nat):Prop:=∀ (kV doc pm:Value) (an:Option Addr) (cdv ct:Value) (us:List Value),us.length=n →
 ∃ c:Option (Array Value)→Sem (List (Str × Value)),bindArgs (PySem.W.fnOf x qual (defArgs st) (defBody st) (defScope st) (.ref dT) kV doc pm an cdv ct) ⟨us,[]⟩=seqItems? (.ref dT) >>= c∧c (some its.toArray)=pure (ps.zip (us++ds))
theorem FunD.binds {dT:Addr} {its ds:List Value} {n:Nat} (F:FunD K x qual st f fd dT its) (h:BindsD x qual st ps dT its ds n) (hn:n+ds.length=ps.length):Binds K fd ps ds:=by
 obtain ⟨⟨oc,od,kV,doc,pm,an,cdv,ct,osl,rfl,lk,hcd⟩,⟨oc2,od2,n2,osl2,l2⟩,_⟩:=F
 intro s us X hl
 obtain ⟨c,h1,h2⟩:=h kV doc pm an cdv ct us (by rw [List.length_append] at hl;lia)
 exact BindsTo.of_defaults (T:=dT) rfl (X _ _ l2) rfl h1 h2
end
section
variable {X:Cx} {k:Nat} {f:Addr} {ps:List Str} {sp:Sp} {dvs:List V} {E:St→XK} {x:Str} {p pos:Pos} {e:Expr} {es:List Expr} {t:TA}
end
end L2
namespace L2
open PySem PySem.Spec PyProof.Rows
section
variable {prog:Program} {w:World} {A:Around} {E:Value→Shared→Prop} {s:Shared}
theorem nextOf_tup_item {it t:Addr} {i:Nat} {items} {x:Value} {Q:Value→Shared→Prop} (hit:s.heap.IsTupleIter it t i) (ht:s.heap.IsTuple t items) (hx:items[i]?=some x)
  (hQ:∀ h',h'.IsTupleIter it t (i+1)→Heap.SameBut it s.heap h'→Q x { s with heap:=h' }):wpAny (model prog w) A (Builtin.SmallTypes.nextOf (.ref it)) Q E s:=by
 obtain ⟨o,ho,hc,hd⟩:=id hit
 obtain ⟨ol,hol,_,nl,hdl⟩:=ht
 unfold Builtin.SmallTypes.nextOf
 refine wpAny_bind (wpAny_callSpecial?_slot (name:=Str.ofString "__next__") hit.typeIs F.slot_tuple_iterator_next (wpAny_call_entry F.slot_tuple_iterator_next hit.typeIs F.entry_tuple_iterator_next ?_ (F.args_tuple_iterator_next_1 _)))
 (show wpAny _ _ (field (.ref it) 0 >>= _) _ _ s);refine wpAny_bind (wpAny_field ho hd (x:=.ref t) rfl ?_)
 (show wpAny _ _ (if (Value.ref t == Value.none)=true then _ else _) _ _ s);rw [if_neg (show ¬ ((Value.ref t == Value.none)=true) from Bool.false_ne_true)]
 (show wpAny _ _ (field (.ref it) 1 >>= _) _ _ s);refine wpAny_bind (wpAny_field ho hd (x:=.int i 0) rfl ?_)
 (show wpAny _ _ (seqItems? (.ref t) >>= _) _ _ s);refine wpAny_bind (wpAny_seqItems hol hdl ?_)
 simp only [Int.toNat_natCast,hx]
 refine wpAny_bind (wpAny_setField ho hd (by simp) (wpAny_pure ⟨x,rfl,wpAny_pure (hQ _ ⟨_,Heap.get?_update_self _ ho (Obj.isFreed_of_fields (Obj.data_mapFields hd _)),(Obj.cls_mapFields ..).trans hc,by rw [Obj.data_mapFields hd];simp [rawInt]⟩ (Heap.SameBut.update ..))⟩))
theorem nextOf_tup_end {it t:Addr} {i:Nat} {items} {Q:Value→Shared→Prop} (hh:A.handled=none) (hit:s.heap.IsTupleIter it t i) (ht:s.heap.IsTuple t items) (hx:items[i]?=none)
  (hE:∀ h' e,Heap.ExtBut it s.heap h'→(∃ o,h'.get? e=some o∧o.cls=.type "StopIteration")→E (.ref e) { s with heap:=h' }):wpAny (model prog w) A (Builtin.SmallTypes.nextOf (.ref it)) Q E s:=by
 obtain ⟨o,ho,hc,hd⟩:=id hit
 obtain ⟨ol,hol,_,nl,hdl⟩:=ht
 unfold Builtin.SmallTypes.nextOf
 refine wpAny_bind (wpAny_callSpecial?_slot (name:=Str.ofString "__next__") hit.typeIs F.slot_tuple_iterator_next (wpAny_call_entry F.slot_tuple_iterator_next hit.typeIs F.entry_tuple_iterator_next ?_ (F.args_tuple_iterator_next_1 _)))
 (show wpAny _ _ (field (.ref it) 0 >>= _) _ _ s);refine wpAny_bind (wpAny_field ho hd (x:=.ref t) rfl ?_)
 (show wpAny _ _ (if (Value.ref t == Value.none)=true then _ else _) _ _ s);rw [if_neg (show ¬ ((Value.ref t == Value.none)=true) from Bool.false_ne_true)]
 (show wpAny _ _ (field (.ref it) 1 >>= _) _ _ s);refine wpAny_bind (wpAny_field ho hd (x:=.int i 0) rfl ?_)
 (show wpAny _ _ (seqItems? (.ref t) >>= _) _ _ s);refine wpAny_bind (wpAny_seqItems hol hdl ?_)
 simp only [Int.toNat_natCast,hx]
 refine wpAny_bind (wpAny_rule (wpAny_bind (wpAny_setField ho hd (by simp) ?_)));show wpAny _ _ (newExc (.type "StopIteration") [] >>= _) _ _ _
 refine wpAny_bind ?_
 simp only [newExc,newTuple]
 refine wpAny_bind (wpAny_newObj_type ?_ (by size_fits));refine wpAny_bind (m:=firstArgMember _ _) (wpAny_of_eq (a:=Value.none) (by first | rfl | (simp only [firstArgMember];rfl)) ?_);refine wpAny_newObj_type ?_ (by size_fits)
 simp only [raiseNew]
 refine wpAny_bind (wpAny_handled ?_);(first | rw [show A.in1.handled=none from hh] | rw [hh]);refine wpAny_bind (wpAny_pure (wpAny_throw ?_))
 exact (hE _ _ (((Heap.SameBut.update ..).extBut.push _).push _) ⟨_,Heap.get?_push_size _ rfl,rfl⟩)
theorem draws_tup (hh:A.handled=none) (it t:Addr) (hne:t≠it) (items:Array Value):Draws prog w A it [it,t] items.size (fun i v=>items[i]?=some v) (fun i h=>h.IsTupleIter it t i∧h.IsTuple t items) where
 live:=fun _ _ ⟨⟨o,ho,_⟩,_⟩=>⟨o,ho⟩
 frame:=fun _ _ _ ⟨st,o,ho,r⟩ hk=>⟨st.at fun o e=>hk it (by simp) o e,o,hk t (by simp) o ho,r⟩
 item:=fun i s Q E hi st hQ=>nextOf_tup_item st.1 st.2 (x:=items[i]) (by simp [hi]) fun h' hit' hs'=>hQ _ h' s.toks (by simp [hi]) ⟨hit',st.2.extBut hs'.extBut hne⟩ hs'
 done:=fun s Q E st hE=>nextOf_tup_end hh st.1 st.2 (by simp) hE
open AutoSeq1 (wpAny_loadPart') in
theorem meets_enumT (l:Addr) (items:Array Value) (n:Nat) (dct:Option Addr) (sl:Array (Option Value)) :
  Meets (Builtin.«enumerate.__new__» ⟨[.type "enumerate",.ref l],[]⟩) (fun _ R s=>s.heap.get? l=some { cls:=.type "tuple",dict:=dct,data:=.seq items n,slots:=sl } ∧
   R (.ok (.ret (.ref (s.heap.push { cls:=.type "tuple_iterator",data:=.fields #[.ref l,.int 0 0] }).objs.size)))
    { s with heap:=(s.heap.push { cls:=.type "tuple_iterator",data:=.fields #[.ref l,.int 0 0] }).push { cls:=.type "enumerate",data:=.fields #[.none,.bool false,.ref s.heap.objs.size,rawInt 0,.none,.none] } }) :=
 .of_wp fun prog w A R s h=>by
  obtain ⟨hp,g,d,tk,os⟩:=s;obtain ⟨hl,h⟩:=h
  have hsub:=sub_enumerate
  have hL:Heap.IsTuple (Shared.heap ⟨hp,g,d,tk,os⟩) l items:=⟨_,hl,rfl,n,rfl⟩
  wp_walk using wpAny_loadPart' hl
  refine wpAny_stack_any fun st=>wpAny_pure ?_
  split
  ·rename_i c _ _ _ _ _
   cases (c == Value.type "enumerate") <;> (wp_walk using wpAny_loadPart' hl,wpAny_pyIter_tuple hL) <;> exact ⟨_,rfl,h⟩
  ·(wp_walk using wpAny_loadPart' hl,wpAny_pyIter_tuple hL);exact ⟨_,rfl,h⟩
theorem call_enumT {l:Addr} {items:Array Value} {Q:Value→Shared→Prop} (hL:s.heap.IsTuple l items)
  (h:∀ h',IsEnum h' (s.heap.objs.size+1) s.heap.objs.size 0 .none→h'.IsTupleIter s.heap.objs.size l 0→h'.objs.size=s.heap.objs.size+2→(∀ b o,s.heap.get? b=some o→h'.get? b=some o)→Q (.ref (s.heap.objs.size+1)) { s with heap:=h' }) :
  wpAny (model prog w) A (call (.type "enumerate") [.ref l]) Q E s:=by
 obtain ⟨⟨c,dct,dt,sl⟩,hl,hc,n,hd⟩:=hL
 replace hc:c=.type "tuple":=hc
 replace hd:dt=.seq items n:=hd
 subst hc hd
 refine callType_new F.called_enumerate (by decide) (F.typeCall_enumerate_1 _) (F.newCall_enumerate_1 _) (fun obj=>F.args_object_init_2 obj _) F.entry_enumerate_new (meets_enumT l items n dct sl) ⟨hl,?_⟩
 have hz:(s.heap.push { cls:=.type "tuple_iterator",data:=.fields #[.ref l,.int 0 0] }).objs.size=s.heap.objs.size+1:=Heap.size_push ..
 show _∧_
 rw [hz]
 have he:IsEnum ((s.heap.push { cls:=.type "tuple_iterator",data:=.fields #[.ref l,.int 0 0] }).push { cls:=.type "enumerate",data:=.fields #[.none,.bool false,.ref s.heap.objs.size,rawInt 0,.none,.none] }) (s.heap.objs.size+1) s.heap.objs.size 0 .none:=by
  have:=Heap.get?_push_size (s.heap.push { cls:=.type "tuple_iterator",data:=.fields #[.ref l,.int 0 0] }) (o:={ cls:=.type "enumerate",data:=.fields #[.none,.bool false,.ref s.heap.objs.size,rawInt 0,.none,.none] }) rfl
  rw [hz] at this;exact this
 exact ⟨⟨_,he,rfl⟩,h _ he ⟨_,Heap.get?_push_of_some _ (Heap.get?_push_size _ rfl),rfl,rfl⟩ (by rw [Heap.size_push,hz]) fun b o x=>Heap.get?_push_of_some _ (Heap.get?_push_of_some _ x)⟩
theorem pyNext_enumT_end {e it t:Addr} {i:Nat} {items:Array Value} {old:Value} {Q:Option Value→Shared→Prop} (hh:A.handled=none) (he:IsEnum s.heap e it i old) (hit:s.heap.IsTupleIter it t i) (ht:s.heap.IsTuple t items) (hx:items[i]?=none)
  (hQ:∀ h',Heap.ExtBut it s.heap h'→Q none { s with heap:=h' }):wpAny (model prog w) A (pyNext (.ref e)) Q E s:=by
 have hT:s.TypeIs (.ref e) "enumerate":=⟨_,he,rfl⟩
 unfold pyNext
 refine wpAny_bind (wpAny_attempt (wpAny_callSpecial?_slot (name:=Str.ofString "__next__") hT F.slot_enumerate_next (wpAny_call_entry F.slot_enumerate_next hT F.entry_enumerate_next ?_ (F.args_enumerate_next_1 _))))
 (show wpAny _ _ (field (.ref e) 2 >>= _) _ _ _);refine wpAny_bind (wpAny_field he rfl (x:=.ref it) rfl ?_)
 refine wpAny_bind (nextOf_tup_end hh hit ht hx fun h' x he' hx'=>?_)
 obtain ⟨o,ho,hc⟩:=hx'
 exact wpAny_bind (wpAny_isInstance (T:="StopIteration") (b:=true) ⟨o,ho,hc⟩ isSubtype_stop (wpAny_pure (hQ _ he')))
end
def IteT (K:PySem.W.Frag) (a:Addr):It :=
 ⟨fun i H=>∃ xs x,SqT K H a xs∧xs[i]?=some x,fun i H v H'=>∃ p x,v=.ref p∧H p=none∧H'=upd H p (.tup [.int i,x])∧∀ xs,SqT K H a xs→xs[i]?=some x,fun i H=>∃ xs,SqT K H a xs∧xs.length≤i⟩
theorem turn_enumT {P:Program} {w:World} {K:PySem.W.Frag} {elts:List Expr} {ctx} {tpos:Pos} (a e it:Addr) (hne:e≠it) (hna:a≠it) (hea:e≠a) :
  Turn P w K (.Tuple elts ctx tpos) (IteT K a) [e,it] e (fun i h=>(∃ old,IsEnum h e it ((i:Nat):Int) old)∧h.IsTupleIter it a i) where
 mem:=by simp
 obj:=fun i h st b hb=>by
  obtain ⟨⟨old,q⟩,o,e1,c,d⟩:=st
  rcases List.mem_cons.mp hb with z | z
  ·rw [z];exact ⟨_,q,fun v y=>by cases y⟩
  ·rw [List.mem_singleton.mp z];exact ⟨o,e1,fun v y=>by rw [d] at y;cases y⟩
 keep:=fun i h h' st k=>by
  obtain ⟨⟨old,q⟩,li⟩:=st
  exact ⟨⟨old,k e (by simp) _ q⟩,li.at fun o z=>k it (by simp) o z⟩
 item:=by
  intro X hP hw hK hc i pins s σ H E I hf st hg
  subst hP hw hK
  obtain ⟨xs,x,hq,hx⟩:=hg
  obtain ⟨its,rv,p,hz⟩:=I.tuple hq
  obtain ⟨u,hu,ru⟩:=rv.get hx
  obtain ⟨⟨old,he⟩,li⟩:=st
  have hil:i<its.toArray.size:=by
   have:=(List.getElem?_eq_some_iff.mp hu).1
   simpa using this
  refine wpAny_pyNext_enum_itemD (draws_tup (A:=X.A.in1) (show X.A.in1.handled=none from I.ok.hd hc) it a hna its.toArray) he ⟨li,show s.heap.IsTuple a its.toArray from p⟩ hil hne (by simp [hne,hea]) fun y h1 tk hy out li1 ht hsz k1=>?_
  have ey:y=u:=by
   have e1:its.toArray[i]?=some u:=by simpa using hu
   rw [e1] at hy
   exact (Option.some.inj hy).symm
  subst ey
  refine ⟨_,rfl,wpAny_letOwnedTupleGo_enum out fun h2 he2 sb=>?_⟩
  have k2:∀ b o,b∉[e,it]→s.heap.get? b=some o→h2.get? b=some o:=fun b o hb z=>(sb.2 b fun y=>hb (by simp [y])).trans (k1 b o (fun y=>hb (by simp [y])) (fun y=>hb (by simp [y])) z)
  have hpe:s.heap.objs.size≠e:=Nat.ne_of_gt (Heap.lt_size he)
  have ht2:h2.get? s.heap.objs.size=some { cls:=.type "tuple",data:=.seq #[.int ((i:Nat):Int) tk,y] }:=(sb.2 _ hpe).trans ht
  have hn:H s.heap.objs.size=none:=I.hok.fresh (Nat.le_refl _)
  refine ⟨.ref s.heap.objs.size,upd H s.heap.objs.size (.tup [.int ((i:Nat):Int),x]),I.turnedNew (h':=h2) (t':=tk+1) hf k2 (Nat.le_refl _) ⟨by show 2≤sizeLine;decide,[.int ((i:Nat):Int) tk,y],.cons ⟨_,rfl⟩ (.cons ru .nil),⟨_,ht2,rfl,_,rfl⟩⟩,rfl,⟨_,x,rfl,hn,rfl,fun ys hy=>by rw [I.tuple_inj hy hq];exact hx⟩,⟨⟨y,?_⟩,?_⟩,fun b hb=>?_⟩
  ·have ec:(((i+1:Nat)):Int)=((i:Nat):Int)+1:=by push_cast;rfl
   rw [ec];exact he2
  ·exact li1.1.at fun o z=>(sb.2 it (Ne.symm hne)).trans z
  ·have b0:=(hf b hb).1
   rw [upd_ne fun z=>?_]
   ·exact b0
   ·obtain ⟨o,z1,_⟩:=id li
    rcases List.mem_cons.mp hb with y | y
    ·exact hpe (z.symm.trans y)
    ·exact absurd (Heap.lt_size z1) (by rw [←List.mem_singleton.mp y,z];exact Nat.lt_irrefl _)
 done:=by
  intro X hP hw hK hc i pins s σ H E I hf st hg
  subst hP hw hK
  obtain ⟨xs,hq,hx⟩:=hg
  obtain ⟨its,rv,p,hz⟩:=I.tuple hq
  obtain ⟨⟨old,he⟩,li⟩:=st
  obtain ⟨f0,f1,f2,f3,f4,f5⟩:=hf it (by simp)
  have hl:=rv.length
  exact pyNext_enumT_end (I.ok.hd hc) he li p (by simp;lia) fun h' eb=>⟨rfl,I.turned (t':=s.toks) (fun b o hb e=>eb b o hb e) f0 f1 f3 f4 f5⟩
 self:=fun _ _ _ _ _ st h=>by
  obtain ⟨⟨old,he⟩,_⟩:=st
  exact wpAny_pyIter_enum he h
section
variable {X:Cx} {elts:List Expr} {ctx} {tpos:Pos}
def iEnumT (K:PySem.W.Frag) (ta:TA):TI:=fun σ H R=>ta σ H fun vs H1=>∃ a xs,vs=[.ref a]∧SqT K H1 a xs∧R (IteT K a) H1
theorem pi_enumT {l:Expr} {ta:TA} {p pos:Pos} (hg:Gl X "enumerate") (hm:X.mg "enumerate"=none) (ha:PA X [l] ta) (hs:starEach [l] X.env=[(false,eval l X.env)]:=by rfl):PI X (.Tuple elts ctx tpos) (.Call (.Name "enumerate" p) [l] [] pos) (iEnumT X.K ta):=by
 intro pins s σ H R I h
 refine Call_ (ld_blt I hg hm boot_enumerate (PyProof.Rows.callWith_type1 (thn (ha pos pins s σ H _ I h) fun us s1 ⟨vs,H1,I1,r1,q1⟩=>?_) hs rfl))
 obtain ⟨a,xs,e,hq,q⟩:=q1
 subst e
 cases r1 with
 | cons r rr =>
  cases rr
  cases r
  obtain ⟨its,rv,pl,hz⟩:=I1.tuple hq
  have hal:a<s1.heap.objs.size:=by obtain ⟨o,ho,_⟩:=id pl;exact Heap.lt_size ho
  refine call_enumT pl fun h1 he li hsz k1=>?_
  refine wpAny_pyIter_enum he ?_
  have n1:H1 (s1.heap.objs.size+1)=none:=I1.hok.fresh (Nat.le_succ _)
  have n0:H1 s1.heap.objs.size=none:=I1.hok.fresh (Nat.le_refl _)
  refine ⟨s1.heap.objs.size+1,[s1.heap.objs.size+1,s1.heap.objs.size],_,_,H1,rfl,I1.kept (t':=s1.toks) k1,turn_enumT a _ _ (Nat.succ_ne_self _) (Nat.ne_of_lt hal) (Nat.ne_of_gt (Nat.lt_succ_of_lt hal)),⟨⟨_,he⟩,li⟩,fun b hb=>?_,q⟩
  rcases List.mem_cons.mp hb with z | z
  ·rw [z];exact I1.fpOk (Nat.le_succ _) n1
  ·rw [List.mem_singleton.mp z];exact I1.fpOk (Nat.le_refl _) n0
theorem for_enumT {K:PySem.W.Frag} {a:Addr} {xs:List V} {g:TG} {tb:TS} {D:Ends} {σ:St} {H:Hp} (Pv:Nat→St→Hp→Prop) (h0:Pv 0 σ H) (hl:∀ i σ H,i≤xs.length→Pv i σ H→SqT K H a xs)
  (hs:∀ i x p σ H,xs[i]?=some x→Pv i σ H→H p=none→g (.ref p) σ (upd H p (.tup [.int ((i:Nat):Int),x])) fun σ2 H2=>tb { D with nx:=Pv (i+1),ct:=Pv (i+1),bk:=D.nx } σ2 H2) (hd:∀ σ H,Pv xs.length σ H→D.nx σ H) :
  ∃ W:Nat→Nat→St→Hp→Prop,(∃ m,W 0 m σ H)∧∀ i m σ H,W i m σ H →
   ((IteT K a).stop i H∧D.nx σ H)∨((IteT K a).go i H∧∃ N:St→Hp→Prop,(∀ σ' H',N σ' H'→∃ m',m'<m∧W (i+1) m' σ' H')∧∀ x H',(IteT K a).yld i H x H'→g x σ H' fun σ2 H2=>tb { D with nx:=N,ct:=N,bk:=D.nx } σ2 H2):=by
 refine ⟨fun i m σ H=>m=xs.length - i∧i≤xs.length∧Pv i σ H,⟨xs.length,by simp,Nat.zero_le _,h0⟩,?_⟩
 rintro i m σ H ⟨rfl,hi,p⟩
 have q:=hl i σ H hi p
 by_cases hlt:i<xs.length
 ·refine .inr ⟨⟨xs,xs[i],q,by simp [hlt]⟩,Pv (i+1),fun σ' H' p'=>⟨xs.length - (i+1),by lia,rfl,hlt,p'⟩,fun v H' y=>?_⟩
  obtain ⟨p2,x,e1,e2,e3,y⟩:=y
  subst e1 e3
  exact hs i x p2 σ H (y xs q) p e2
 ·have e:i=xs.length:=by lia
  subst e
  exact .inl ⟨⟨xs,q,Nat.le_refl _⟩,hd σ H p⟩
end
section
variable {X:Cx}
end
end L2
namespace RW
def dr (g n:Int):Nat→Int
 | 0=>n
 | i+1=>dr g n i / g
def lows (g n:Int):Nat→List Int
 | 0=>[]
 | i+1=>lows g n i++[dr g n i%g]
theorem lows_length (g n:Int):∀ i,(lows g n i).length=i
 | 0=>rfl
 | i+1=>by rw [lows,List.length_append,lows_length g n i];rfl
theorem pow_pos {g:Int} (hg:2≤g):∀ m:Nat,0<g^m
 | 0=>by rw [Int.pow_zero];decide
 | m+1=>by rw [Int.pow_succ];exact Int.mul_pos (pow_pos hg m) (by lia)
theorem dr_eq {g:Int} (hg:2≤g) (n:Int):∀ i:Nat,dr g n i=n / g^i
 | 0=>by rw [dr,Int.pow_zero,Int.ediv_one]
 | i+1=>by rw [dr,dr_eq hg n i,Int.pow_succ,Int.ediv_ediv_of_nonneg (Int.le_of_lt (pow_pos hg i))]
theorem dr_zero {g n:Int} (hg:2≤g) (hn:0≤n) {m:Nat} (h:n<g^m):dr g n m=0:=by
 rw [dr_eq hg];exact Int.ediv_eq_zero_of_lt hn h
theorem dr_pos {g n:Int} (hg:2≤g) {m:Nat} (h:g^m≤n):0<dr g n m:=by
 rw [dr_eq hg]
 have h1:1*g^m≤n:=by rw [Int.one_mul];exact h
 have h2:=(Int.le_ediv_iff_mul_le (pow_pos hg m)).mpr h1
 lia
end RW
namespace L2
open PySem
theorem pow_mono {g:Int} (hg:2≤g) {m n:Nat} (h:m≤n):g^m≤g^n:=by
 obtain ⟨k,rfl⟩:=Nat.exists_eq_add_of_le h
 rw [Int.pow_add]
 have h1:=RW.pow_pos hg m
 have h2:=RW.pow_pos hg k
 have h3:=Int.mul_le_mul_of_nonneg_left (show 1≤g^k by lia) (Int.le_of_lt h1)
 lia
theorem pow_lt {g:Int} (hg:2≤g) {m n:Nat} (h:m<n):g^m<g^n:=by
 have h1:=pow_mono hg (show m+1≤n from h)
 rw [Int.pow_succ] at h1
 have h2:=RW.pow_pos hg m
 have h3:=Int.mul_le_mul_of_nonneg_left hg (Int.le_of_lt h2)
 lia
theorem pow_inj {g:Int} (hg:2≤g) {m n:Nat} (h:g^m=g^n):m=n:=by
 rcases Nat.lt_trichotomy m n with z | z | z
 ·have:=pow_lt hg z;lia
 ·exact z
 ·have:=pow_lt hg z;lia
theorem num_bound {g:Int} (hg:2≤g):∀ {rs:List Int},(∀ n∈rs,0≤n∧n<g)→0≤low g rs∧low g rs<g^rs.length
 | [],_=>⟨Int.le_refl _,by show (0:Int)<g^0;rw [Int.pow_zero];decide⟩
 | x::r,h=>by
  obtain ⟨h1,h2⟩:=num_bound hg (rs:=r) fun n hn=>h n (List.mem_cons_of_mem _ hn)
  obtain ⟨h3,h4⟩:=h x List.mem_cons_self
  have h5:=Int.mul_nonneg (show 0≤g by lia) h1
  have h6:=Int.mul_le_mul_of_nonneg_left (show low g r+1≤g^r.length by lia) (show 0≤g by lia)
  rw [Int.mul_add,Int.mul_one] at h6
  refine ⟨by show 0≤x+g*low g r;lia,?_⟩
  show x+g*low g r<g^(r.length+1)
  rw [Int.pow_succ,Int.mul_comm (g^r.length)]
  lia
theorem num_lt {g:Int} (hg:2≤g) {ns:List Int} (h:∀ n∈ns,0≤n∧n<g):0≤num g ns∧num g ns<g^ns.length:=by
 rw [num_low,←List.length_reverse]
 exact num_bound hg fun n hn=>h n (List.mem_reverse.mp hn)
theorem cat_new {H:Hp} {l b:Addr} {xs zs:List V} {Q:VK} (h1:H l=some (.lst xs)) (h2:H b=some (.lst zs)) (hz:xs.length+zs.length≤1000) (q:∀ p H',Same H H'→H p=none→H' p=some (.lst (xs++zs))→Q (.ref p) H'):rCat (.ref l) (.ref b) H Q :=
 ⟨l,b,xs,zs,rfl,rfl,h1,h2,small hz,fun p hp=>q p _ (Same.new hp _) hp upd_same⟩
theorem sl_new {K:PySem.W.Frag} {H:Hp} {a:Addr} {xs:List V} {lo hi:Option Int} {Q:VK} (h:SqL K H a xs) (q:∀ p H',Same H H'→H p=none→H' p=some (.lst (cutV xs lo hi))→Q (.ref p) H'):rSlL K (.ref a) lo hi H Q :=
 ⟨a,xs,rfl,h,fun p hp=>q p _ (Same.new hp _) hp upd_same⟩
theorem rep_new {H:Hp} {l:Addr} {x:V} {k:Int} {Q:VK} (h:H l=some (.lst [x])) (k0:0≤k) (k1:k≤1000) (q:∀ p H',Same H H'→H p=none→H' p=some (.lst (List.replicate k.toNat x))→Q (.ref p) H'):rRep (.ref l) (.int k) H Q :=
 ⟨l,k,[x],rfl,rfl,h,by lia,by lia,by rw [List.length_singleton,Nat.one_mul];exact small (by lia),fun p hp=>q p _ (Same.new hp _) hp (by rw [upd_same,flat_rep])⟩
theorem cutV_to {xs:List V} {k:Nat}:cutV xs none (some ((k:Nat):Int))=xs.take k:=by
 have e:HT.sIx xs.length xs.length (some ((k:Nat):Int))=min k xs.length:=by
  show (if ((k:Nat):Int)<0 then (((k:Nat):Int)+(xs.length:Int)).toNat else min ((k:Nat):Int).toNat xs.length)=_
  rw [if_neg (by lia),Int.toNat_natCast]
 unfold cutV
 rw [e]
 show (xs.drop 0).take (min k xs.length - 0)=_
 rw [List.drop_zero,Nat.sub_zero]
 by_cases z:k≤xs.length
 ·rw [Nat.min_eq_left z]
 ·rw [Nat.min_eq_right (by lia),List.take_length,List.take_of_length_le (by lia)]
theorem Bad.same {C:Addr} {i:Nat} {H H1:Hp} {E:XK} (e:Same H H1) (h:Bad C i H E):Bad C i H1 E:=fun H' dx e1 hd=>h H' dx (e.trans e1) hd
theorem getAt {ns:List Int} {k:Nat} (h:k<ns.length):atI (ns.map V.int) ((k:Nat):Int)=some (.int (ns.getD k 0)):=by
 refine atI_nat ?_
 rw [List.getElem?_map,List.getElem?_eq_getElem h,List.getD_eq_getElem?_getD,List.getElem?_eq_getElem h]
 rfl
def RuleV (H:Hp) (r:Addr) (g lo:Int) (tab:List Int):Prop:=∃ tb,H r=some (.tup [.int g,.int lo,.ref tb])∧H tb=some (.tup (tab.map V.int))
theorem RuleV.same {H H':Hp} {r:Addr} {g lo:Int} {tab:List Int} (e:Same H H') (h:RuleV H r g lo tab):RuleV H' r g lo tab:=by
 obtain ⟨tb,h1,h2⟩:=h
 exact ⟨tb,e _ _ h1,e _ _ h2⟩
def spPlacesFor:Sp:=fun vs H Q _=>∃ g n:Int,vs=[.int g,.int n]∧2≤g∧g≤9∧(∀ m:Nat,n=g^m→Q (.int ((m:Nat):Int)) H)∧((∀ m:Nat,n≠g^m)→Q (.int 0) H)
def spPlaces:Sp:=fun vs H Q _=>∃ (r:Addr) (g lo:Int) (tab:List Int) (m:Nat),vs=[.ref r]∧2≤g∧g≤9∧RuleV H r g lo tab∧(tab.length:Int)=g^m∧Q (.int ((m:Nat):Int)) H
def badLen (g:Int) (m:Nat) (xs:List V):Option Nat:=match badIx g (xs.take m) with
 | some i=>some i
 | none=>if xs.length=m then none else some (min xs.length m)
def spCheckLen (K:PySem.W.Frag) (C:Addr):Sp:=fun vs H Q E=>∃ (a:Addr) (xs:List V) (g:Int) (m:Nat),vs=[.ref a,.int g,.int ((m:Nat):Int)]∧SqL K H a xs∧(∀ x∈xs,Kd H x) ∧
 match badLen g m xs with
 | none=>∀ H',Same H H'→Q .non H'
 | some i=>Bad C i H E
def spNext (K:PySem.W.Frag) (C:Addr):Sp:=fun vs H Q E=>∃ (r a:Addr) (g lo:Int) (tab:List Int) (m:Nat) (xs:List V),vs=[.ref r,.ref a]∧2≤g∧g≤9∧RuleV H r g lo tab∧(tab.length:Int)=g^m∧SqL K H a xs∧(∀ x∈xs,Kd H x) ∧
 match badLen g m xs with
 | none=>∀ ns:List Int,xs=ns.map V.int→∀ H',Same H H'→Q (.int (tab.getD (num g ns).toNat 0)) H'
 | some i=>Bad C i H E
theorem badLen_none {g:Int} {m:Nat} {xs:List V} (h:badLen g m xs=none):xs.length=m∧badIx g xs=none:=by
 unfold badLen at h
 cases e:badIx g (xs.take m) with
 | some i=>rw [e] at h;cases h
 | none =>
  rw [e] at h
  by_cases z:xs.length=m
  ·refine ⟨z,?_⟩
   rw [←z,List.take_length] at e
   exact e
  ·rw [if_neg z] at h;cases h
theorem badLen_ints {g:Int} {ns:List Int} (h:∀ n∈ns,0≤n∧n<g):badLen g ns.length (ns.map V.int)=none:=by
 unfold badLen
 have e:(ns.map V.int).take ns.length=ns.map V.int:=List.take_of_length_le (by rw [List.length_map];exact Nat.le_refl _)
 rw [e,badIx_ints h,List.length_map]
 exact if_pos rfl
def spStream:Sp:=fun vs H Q _=>∃ c m:Int,vs=[.int c,.int m]∧0≤m∧m≤300∧∀ (r:Addr) (H':Hp) (l:List Int),l.length=m.toNat→Same H H'→H r=none→H' r=some (.lst (l.map V.int))→Q (.ref r) H'
def mm (g:Int):Int:=([8,5,4,3,3,2,2,2]:List Int).getD (g - 2).toNat 0
def goodHead (x y:V):Bool:=(match x with
 | .int g=>decide (2≤g) && decide (g≤9)
 | _=>false) && isI y
theorem goodHead_inv {x y:V} (h:goodHead x y=true):∃ g lo:Int,x=.int g∧y=.int lo∧2≤g∧g≤9:=by
 unfold goodHead at h
 cases x with
 | int g =>
  cases y with
  | int lo =>
   simp only [isI,Bool.and_true,Bool.and_eq_true,decide_eq_true_eq] at h
   exact ⟨g,lo,rfl,rfl,h.1,h.2⟩
  | _=>simp [isI] at h
 | _=>simp at h
theorem goodHead_ints {g lo:Int} (g2:2≤g) (g9:g≤9):goodHead (.int g) (.int lo)=true:=by
 show ((decide (2≤g) && decide (g≤9)) && true)=true
 rw [decide_eq_true g2,decide_eq_true g9];rfl
def spHead (C:Addr):Sp:=fun vs H Q E=>∃ x y:V,vs=[x,y]∧Kd H x∧Kd H y∧(goodHead x y=true→Q .non H)∧(goodHead x y=false→E (.ref C) none H)
def SeqV (H:Hp) (a:Addr) (xs:List V):Prop:=H a=some (.lst xs)∨H a=some (.tup xs)
theorem SeqV.same {H H':Hp} {a:Addr} {xs:List V} (e:Same H H') (h:SeqV H a xs):SeqV H' a xs:=h.elim (fun q=>.inl (e _ _ q)) fun q=>.inr (e _ _ q)
theorem SeqV.inj {H:Hp} {a:Addr} {xs ys:List V} (h:SeqV H a xs) (h':SeqV H a ys):xs=ys:=by
 rcases h with h | h
 ·rcases h' with h' | h'
  ·rw [h] at h';cases h';rfl
  ·rw [h] at h';cases h'
 ·rcases h' with h' | h'
  ·rw [h] at h';cases h'
  ·rw [h] at h';cases h';rfl
theorem SeqV.sq {K:PySem.W.Frag} {H:Hp} {a:Addr} {xs:List V} (h:SeqV H a xs):SqL K H a xs∨SqT K H a xs:=h.elim (fun q=>.inl (SqL.of q)) fun q=>.inr (SqT.of q)
def TabKd (H:Hp):V→Prop
 | .ref a=>∃ xs,SeqV H a xs∧∀ x∈xs,Kd H x
 | .non=>True
 | .str _=>True
 | .int _=>True
 | .bl _=>True
 | _=>False
theorem TabKd.same {H H':Hp} (e:Same H H'):∀ {z:V},TabKd H z→TabKd H' z
 | .ref a,h=>by
  obtain ⟨xs,h1,h2⟩:=h
  exact ⟨xs,h1.same e,fun x hx=>(h2 x hx).same e⟩
 | .non,_=>True.intro
 | .str _,_=>True.intro
 | .int _,_=>True.intro
 | .bl _,_=>True.intro
def TabOk (g:Int) (xs:List V):Prop:=xs.length≤256∧(∃ m:Nat,1≤m∧(xs.length:Int)=g^m)∧badIx g xs=none
def tabGood (H:Hp) (g:Int) (z:V):Prop:=∃ a xs,z=.ref a∧SeqV H a xs∧TabOk g xs
def spTable (C:Addr):Sp:=fun vs H Q E=>∃ (g:Int) (z:V),vs=[.int g,z]∧2≤g∧g≤9∧TabKd H z∧(tabGood H g z→∀ H',Same H H'→Q .non H')∧(¬ tabGood H g z→∀ H',Same H H'→E (.ref C) none H')
def ruleGood (H:Hp) (x y z:V):Prop:=goodHead x y=true∧∃ g,x=.int g∧tabGood H g z
def spRule (C:Addr):Sp:=fun vs H Q E=>∃ x y z:V,vs=[x,y,z]∧Kd H x∧Kd H y∧TabKd H z ∧
 (∀ (g lo:Int) (tab:List Int) (a:Addr),x=.int g→y=.int lo→z=.ref a→SeqV H a (tab.map V.int)→2≤g→g≤9→TabOk g (tab.map V.int)→(∀ n∈tab,0≤n∧n<g)→∀ r H',Same H H'→RuleV H' r g lo tab→Q (.ref r) H') ∧
 (¬ ruleGood H x y z→∀ H',Same H H'→E (.ref C) none H')
theorem ixN_nat {n i:Nat} (h:i<n):ixN n ((i:Nat):Int)=some i:=by
 unfold ixN
 rw [if_pos (by lia),if_pos (by lia),Int.toNat_natCast]
theorem small5 {n:Nat} (h:n≤100000):n≤sizeLine:=by rw [sizeLine_eq];lia
theorem rep_new5 {H:Hp} {l:Addr} {xs:List V} {k:Int} {Q:VK} (h:H l=some (.lst xs)) (k0:0≤k) (k1:k≤100000) (hz:xs.length*k.toNat≤100000) (q:∀ p H',Same H H'→H p=none→H' p=some (.lst (List.replicate k.toNat xs).flatten)→Q (.ref p) H'):rRep (.ref l) (.int k) H Q :=
 ⟨l,k,xs,rfl,rfl,h,by lia,by lia,small5 hz,fun p hp=>q p _ (Same.new hp _) hp upd_same⟩
def NewL (H H':Hp) (r:Addr) (ns:List Int):Prop:=Same H H'∧H r=none∧H' r=some (.lst (ns.map V.int))
def spWord (NS:Addr):Sp:=fun vs H Q E=>∃ n g m:Int,vs=[.int n,.int g,.int m]∧2≤g∧g≤9∧0≤m∧m≤300 ∧
 ((n<0∨g^m.toNat≤n)→∀ H',Same H H'→E (.ref NS) none H')∧(0≤n→n<g^m.toNat→∀ r H',NewL H H' r (RW.lows g n m.toNat).reverse→Q (.ref r) H')
def spTLen:Sp:=fun vs H Q _=>∃ g m:Int,vs=[.int g,.int m]∧2≤g∧g≤9∧1≤m∧(g^m.toNat≤256→Q (.int (g^m.toNat)) H)∧(256<g^m.toNat→∀ r:Int,256<r→Q (.int r) H)
structure NumOk (g m n:Int):Prop where
 g2:2≤g
 g9:g≤9
 m1:1≤m
 sz:g^m.toNat≤256
 n0:0≤n
 nz:n<g^(g^m.toNat).toNat
def spPower:Sp:=fun vs H Q _=>∃ g m:Int,vs=[.int g,.int m]∧2≤g∧g≤9∧0≤m∧m≤256∧Q (.int (g^m.toNat)) H
theorem dr_cons (g n:Int):∀ i:Nat,RW.dr g n (i+1)=RW.dr g (n / g) i
 | 0=>rfl
 | i+1=>by rw [RW.dr,dr_cons g n i];rfl
theorem lows_cons (g n:Int):∀ i:Nat,RW.lows g n (i+1)=n%g::RW.lows g (n / g) i
 | 0=>rfl
 | i+1=>by
  rw [RW.lows,lows_cons g n i,dr_cons]
  rfl
theorem lows_low {g:Int} (hg:2≤g):∀ {l:List Int},(∀ n∈l,0≤n∧n<g)→RW.lows g (low g l) l.length=l
 | [],_=>rfl
 | x::r,h=>by
  obtain ⟨h0,h1⟩:=h x List.mem_cons_self
  rw [List.length_cons,lows_cons,low,Int.add_mul_emod_self_left,Int.emod_eq_of_lt h0 h1,Int.add_mul_ediv_left _ _ (show g≠0 by lia),Int.ediv_eq_zero_of_lt h0 h1,Int.zero_add,lows_low hg fun n hn=>h n (List.mem_cons_of_mem _ hn)]
theorem lows_lt {g:Int} (hg:2≤g) (n:Int):∀ i:Nat,∀ x∈RW.lows g n i,0≤x∧x<g
 | 0,x,h=>absurd h (by simp [RW.lows])
 | i+1,x,h=>by
  rw [RW.lows] at h
  rcases List.mem_append.mp h with z | z
  ·exact lows_lt hg n i x z
  ·rw [List.mem_singleton.mp z]
   exact ⟨Int.emod_nonneg _ (by lia),Int.emod_lt_of_pos _ (by lia)⟩
theorem low_lows_dr (g n:Int):∀ i:Nat,low g (RW.lows g n i)+g^i*RW.dr g n i=n
 | 0=>by rw [RW.lows,low,RW.dr,Int.pow_zero];lia
 | i+1=>by
  have h:=low_lows_dr g n i
  have e:=Int.emod_add_mul_ediv (RW.dr g n i) g
  rw [RW.lows,low_snoc,RW.lows_length,RW.dr,Int.pow_succ,Int.mul_assoc,Int.mul_comm (RW.dr g n i%g),Int.add_assoc,←Int.mul_add,e]
  exact h
theorem low_lows {g n:Int} (hg:2≤g) (hn:0≤n) {i:Nat} (h:n<g^i):low g (RW.lows g n i)=n:=by
 have e:=low_lows_dr g n i
 rw [RW.dr_zero hg hn h,Int.mul_zero,Int.add_zero] at e
 exact e
end L2
namespace L2
open PySem
theorem Same.into {H H1:Hp} {p:Addr} {o:HO} (e:Same H H1) (hp:H p=none):Same H (upd H1 p o):=fun b u q=>by rw [upd_ne (ne_of_none q hp)];exact e b u q
theorem numF_eq (g:Int):∀ (n:Int) (l:List Int),numF g n l=n*g^l.length+num g l
 | n,[]=>by
  show n=n*g^0+0
  rw [Int.pow_zero];lia
 | n,x::r=>by
  show numF g (n*g+x) r=n*g^(r.length+1)+numF g (0*g+x) r
  rw [numF_eq g (n*g+x) r,numF_eq g (0*g+x) r,Int.zero_mul,Int.zero_add,Int.add_mul,Int.pow_succ,Int.mul_assoc,Int.mul_comm g,Int.add_assoc]
theorem num_append (g:Int) (a b:List Int):num g (a++b)=num g a*g^b.length+num g b:=by
 show (a++b).foldl (fun m x=>m*g+x) 0=_
 rw [List.foldl_append]
 exact numF_eq g (numF g 0 a) b
theorem win_len {ns:List Int} {k m:Nat} (h:k+m≤ns.length):((ns.drop k).take m).length=m:=by
 rw [List.length_take,List.length_drop];lia
theorem num_win {g:Int} (hg:2≤g) {ns:List Int} (hb:∀ n∈ns,0≤n∧n<g) {k m:Nat} (h:k+m≤ns.length):num g (ns.take (k+m))%g^m=num g ((ns.drop k).take m):=by
 have b:=num_lt hg (ns:=(ns.drop k).take m) fun n hn=>hb n (List.mem_of_mem_drop (List.mem_of_mem_take hn))
 rw [win_len h] at b
 rw [List.take_add,num_append,win_len h,Int.add_comm,Int.mul_comm,Int.add_mul_emod_self_left,Int.emod_eq_of_lt b.1 b.2]
theorem mod_step (N g s G:Int):((N%G)*g+s)%G=(N*g+s)%G:=by
 rw [Int.add_emod,Int.mul_emod,Int.emod_emod,←Int.mul_emod,←Int.add_emod]
theorem getD_lt {g:Int} (hg:2≤g) {tab:List Int} (hb:∀ n∈tab,0≤n∧n<g) (k:Nat):0≤tab.getD k 0∧tab.getD k 0<g:=by
 rw [List.getD_eq_getElem?_getD]
 cases e:tab[k]? with
 | none=>exact ⟨Int.le_refl _,by show (0:Int)<g;lia⟩
 | some v=>exact hb v (List.mem_of_getElem? e)
def winS (g:Int) (tab:List Int) (m:Nat) (ns:List Int) (k:Nat):Int:=tab.getD (num g ((ns.drop k).take m)).toNat 0
def ledL (g:Int) (tab:List Int) (m:Nat) (ns:List Int):List Int:=(List.range (ns.length+1 - m)).map (winS g tab m ns)
theorem ledL_len (g:Int) (tab:List Int) (m:Nat) (ns:List Int):(ledL g tab m ns).length=ns.length+1 - m:=by
 unfold ledL;rw [List.length_map,List.length_range]
theorem ledL_lt {g:Int} (hg:2≤g) {tab:List Int} (hb:∀ n∈tab,0≤n∧n<g) (m:Nat) (ns:List Int):∀ n∈ledL g tab m ns,0≤n∧n<g:=fun n hn=>by
 unfold ledL at hn
 obtain ⟨k,_,rfl⟩:=List.mem_map.mp hn
 exact getD_lt hg hb _
theorem range_succ_map {α:Type} (f:Nat→α) (i:Nat):(List.range (i+1)).map f=(List.range i).map f++[f i]:=by
 rw [List.range_succ,List.map_append];rfl
theorem win_in {g:Int} (hg:2≤g) {ns tab:List Int} (hb:∀ n∈ns,0≤n∧n<g) {m:Nat} (hl:(tab.length:Int)=g^m) {k:Nat} (h:k+m≤ns.length):0≤num g ((ns.drop k).take m)∧(num g ((ns.drop k).take m)).toNat<tab.length:=by
 have b:=num_lt hg (ns:=(ns.drop k).take m) fun n hn=>hb n (List.mem_of_mem_drop (List.mem_of_mem_take hn))
 rw [win_len h] at b
 exact ⟨b.1,by lia⟩
theorem getAtZ {ns:List Int} {z:Int} (h0:0≤z) (h:z.toNat<ns.length):atI (ns.map V.int) z=some (.int (ns.getD z.toNat 0)):=by
 have e:=getAt (ns:=ns) h
 rw [show ((z.toNat:Nat):Int)=z by lia] at e
 exact e
def spLead (K:PySem.W.Frag):Sp:=fun vs H Q _=>∃ (r a:Addr) (g lo:Int) (tab:List Int) (m:Nat) (ns:List Int),vs=[.ref r,.ref a]∧2≤g∧g≤9∧RuleV H r g lo tab∧(tab.length:Int)=g^m∧1≤m∧SqL K H a (ns.map V.int)∧(∀ n∈ns,0≤n∧n<g)∧ns.length≤900 ∧
 ∀ p H',NewL H H' p (ledL g tab m ns)→Q (.ref p) H'
def ringAt (ring:List Int) (z:Int):Int:=ring.getD (z%(ring.length:Int)).toNat 0
def ringW (ring:List Int) (m:Nat) (z:Int):List Int:=(List.range m).map fun j:Nat=>ringAt ring (z+(j:Int))
def ringL (g lo:Int) (tab:List Int) (m:Nat) (ring:List Int):List Int:=(List.range ring.length).map fun i:Nat=>tab.getD (num g (ringW ring m ((i:Int)+lo))).toNat 0
theorem ringL_len (g lo:Int) (tab:List Int) (m:Nat) (ring:List Int):(ringL g lo tab m ring).length=ring.length:=by
 unfold ringL;rw [List.length_map,List.length_range]
theorem ringL_lt {g:Int} (hg:2≤g) (lo:Int) {tab:List Int} (hb:∀ n∈tab,0≤n∧n<g) (m:Nat) (ring:List Int):∀ n∈ringL g lo tab m ring,0≤n∧n<g:=fun n hn=>by
 unfold ringL at hn
 obtain ⟨k,_,rfl⟩:=List.mem_map.mp hn
 exact getD_lt hg hb _
theorem ringW_lt {g:Int} (hg:2≤g) {ring:List Int} (hb:∀ n∈ring,0≤n∧n<g) (m:Nat) (z:Int):∀ n∈ringW ring m z,0≤n∧n<g:=fun n hn=>by
 unfold ringW at hn
 obtain ⟨k,_,rfl⟩:=List.mem_map.mp hn
 exact getD_lt hg hb _
theorem ringW_len (ring:List Int) (m:Nat) (z:Int):(ringW ring m z).length=m:=by
 unfold ringW;rw [List.length_map,List.length_range]
theorem ringAt_mod (ring:List Int) (z y:Int):ringAt ring (z%(ring.length:Int)+y)=ringAt ring (z+y):=by
 unfold ringAt
 rw [Int.emod_add_emod]
def ringE (lo:Int) (m:Nat) (ring:List Int):List Int:=(List.range (ring.length+m - 1)).map fun k:Nat=>ringAt ring (lo%(ring.length:Int)+(k:Int))
theorem ringE_lt {g:Int} (hg:2≤g) {ring:List Int} (hb:∀ n∈ring,0≤n∧n<g) (lo:Int) (m:Nat):∀ n∈ringE lo m ring,0≤n∧n<g:=fun n hn=>by
 unfold ringE at hn
 obtain ⟨k,_,rfl⟩:=List.mem_map.mp hn
 exact getD_lt hg hb _
theorem range_drop_take (n k m:Nat) (h:k+m≤n):((List.range n).drop k).take m=(List.range m).map (k+·):=by
 apply List.ext_getElem?
 intro i
 rw [List.getElem?_take,List.getElem?_map]
 by_cases hi:i<m
 ·rw [if_pos hi,List.getElem?_drop,List.getElem?_range (by lia),List.getElem?_range hi];rfl
 ·rw [if_neg hi,List.getElem?_eq_none (by rw [List.length_range];lia)];rfl
theorem ringE_win (lo:Int) {m:Nat} (ring:List Int) {i:Nat} (h:i<ring.length) (hm:1≤m):((ringE lo m ring).drop i).take m=ringW ring m ((i:Int)+lo):=by
 unfold ringE ringW
 rw [←List.map_drop,←List.map_take,range_drop_take _ _ _ (by lia),List.map_map]
 refine List.map_congr_left fun j _=>?_
 show ringAt ring (lo%(ring.length:Int)+((i+j:Nat):Int))=_
 rw [ringAt_mod]
 congr 1
 lia
theorem led_ringE (g lo:Int) (tab:List Int) {m:Nat} (ring:List Int) (hm:1≤m):ledL g tab m (ringE lo m ring)=ringL g lo tab m ring:=by
 unfold ledL ringL
 have e:(ringE lo m ring).length+1 - m=ring.length:=by
  unfold ringE;rw [List.length_map,List.length_range];lia
 rw [e]
 refine List.map_congr_left fun i hi=>?_
 have:=List.mem_range.mp hi
 unfold winS
 rw [ringE_win lo ring this hm]
def spLeadRing (K:PySem.W.Frag):Sp:=fun vs H Q _=>∃ (r a:Addr) (g lo:Int) (tab:List Int) (m:Nat) (ns:List Int),vs=[.ref r,.ref a]∧2≤g∧g≤9∧RuleV H r g lo tab∧(tab.length:Int)=g^m∧1≤m∧m≤8∧SqL K H a (ns.map V.int)∧(∀ n∈ns,0≤n∧n<g)∧1≤ns.length∧ns.length≤800 ∧
 ∀ p H',NewL H H' p (ringL g lo tab m ns)→Q (.ref p) H'
end L2
namespace L2
open PySem
def wordL (g n:Int) (m:Nat):List Int:=(RW.lows g n m).reverse
theorem wordL_len (g n:Int) (m:Nat):(wordL g n m).length=m:=by unfold wordL;rw [List.length_reverse,RW.lows_length]
theorem wordL_lt {g:Int} (hg:2≤g) (n:Int) (m:Nat):∀ x∈wordL g n m,0≤x∧x<g:=fun x hx=>lows_lt hg n m x (List.mem_reverse.mp hx)
theorem num_wordL {g n:Int} (hg:2≤g) (h0:0≤n) {m:Nat} (h:n<g^m):num g (wordL g n m)=n:=by
 unfold wordL
 rw [num_rev,low_lows hg h0 h]
theorem wordL_num {g:Int} (hg:2≤g) {ws:List Int} (hb:∀ x∈ws,0≤x∧x<g):wordL g (num g ws) ws.length=ws:=by
 unfold wordL
 have e:=lows_low hg (l:=ws.reverse) fun n hn=>hb n (List.mem_reverse.mp hn)
 rw [List.length_reverse] at e
 rw [num_low,e,List.reverse_reverse]
theorem getD_map_range {f:Nat→Int} {n k:Nat} (h:k<n):((List.range n).map f).getD k 0=f k:=by
 rw [List.getD_eq_getElem?_getD,List.getElem?_map,List.getElem?_range h];rfl
theorem list_eq_getD {a b:List Int} (hl:a.length=b.length) (h:∀ k,k<a.length→a.getD k 0=b.getD k 0):a=b:=by
 apply List.ext_getElem hl
 intro i h1 h2
 have:=h i h1
 rw [List.getD_eq_getElem?_getD,List.getD_eq_getElem?_getD,List.getElem?_eq_getElem h1,List.getElem?_eq_getElem h2] at this
 exact this
theorem mod_nat {z:Int} {n:Nat} (h:1≤n):(z%(n:Int)).toNat<n∧(((z%(n:Int)).toNat:Nat):Int)=z%(n:Int):=by
 have h1:=Int.emod_nonneg z (show (n:Int)≠0 by lia)
 have h2:=Int.emod_lt_of_pos z (show 0<(n:Int) by lia)
 exact ⟨by lia,by lia⟩
theorem ringAt_congr {ring:List Int} {y z:Int} (h:y%(ring.length:Int)=z%(ring.length:Int)):ringAt ring y=ringAt ring z:=by unfold ringAt;rw [h]
theorem ringAt_map {f:Nat→Int} {n:Nat} (h:1≤n) (z:Int):ringAt ((List.range n).map f) z=f (z%(n:Int)).toNat:=by
 unfold ringAt
 rw [List.length_map,List.length_range,getD_map_range (mod_nat h).1]
theorem ringW_congr {ring:List Int} {m:Nat} {y z:Int} (h:y%(ring.length:Int)=z%(ring.length:Int)):ringW ring m y=ringW ring m z:=by
 unfold ringW
 refine List.map_congr_left fun j _=>ringAt_congr ?_
 rw [Int.add_emod,h,←Int.add_emod]
theorem ringAt_ringL {g lo:Int} {tab:List Int} {m:Nat} {ring:List Int} (h:1≤ring.length) (z:Int):ringAt (ringL g lo tab m ring) z=tab.getD (num g (ringW ring m (z+lo))).toNat 0:=by
 unfold ringL
 rw [ringAt_map h,(mod_nat h).2]
 congr 3
 apply ringW_congr
 rw [Int.add_emod,Int.emod_emod,←Int.add_emod]
def cntB (g:Int) (tab:List Int) (w:Int):Bool:=(List.range tab.length).any fun k:Nat=>!decide (tab.getD k 0=tab.getD ((k:Int) - (k:Int) / w%g*w).toNat 0)
def countL (g lo:Int) (tab:List Int) (m:Nat):List Int:=((List.range m).filter fun j=>cntB g tab (g^(m - 1 - j))).map fun j:Nat=>lo+(j:Int)
def spCounts:Sp:=fun vs H Q _=>∃ (r:Addr) (g lo:Int) (tab:List Int) (w:Int),vs=[.ref r,.int w]∧2≤g∧g≤9∧RuleV H r g lo tab∧0<w∧w≤1000∧tab.length≤256∧∀ H',Same H H'→Q (.bl (cntB g tab w)) H'
def spCounting:Sp:=fun vs H Q _=>∃ (r:Addr) (g lo:Int) (tab:List Int) (m:Nat),vs=[.ref r]∧2≤g∧g≤9∧RuleV H r g lo tab∧(tab.length:Int)=g^m∧1≤m∧m≤8∧g^m≤256∧∀ p H',NewL H H' p (countL g lo tab m)→Q (.ref p) H'
theorem cnt_ix {k w g:Int} (hk:0≤k) (hw:0<w) (hg:2≤g):0≤k - k / w%g*w∧k - k / w%g*w≤k:=by
 have h1:=Int.emod_nonneg (k / w) (show g≠0 by lia)
 have h2:=Int.ediv_nonneg hk (Int.le_of_lt hw)
 have h3:k / w%g≤k / w:=by
  by_cases z:k / w<g
  ·rw [Int.emod_eq_of_lt h2 z];lia
  ·have:=Int.emod_lt_of_pos (k / w) (show 0<g by lia)
   lia
 have h4:=Int.mul_le_mul_of_nonneg_right h3 (Int.le_of_lt hw)
 have h5:=Int.mul_nonneg h1 (Int.le_of_lt hw)
 have h6:=Int.ediv_mul_le k (show w≠0 by lia)
 exact ⟨by lia,by lia⟩
end L2
namespace L2
theorem num_one (g x:Int):num g [x]=x:=by show 0*g+x=x;rw [Int.zero_mul,Int.zero_add]
theorem num_split (g:Int) (a:List Int) (x:Int) (b:List Int):num g (a++x::b)=(num g a*g+x)*g^b.length+num g b:=by
 rw [show a++x::b=(a++[x])++b by rw [List.append_assoc];rfl,num_append,num_snoc]
theorem num_place {g:Int} (hg:2≤g) {a b:List Int} {x:Int} (hb:∀ n∈b,0≤n∧n<g) (hx:0≤x∧x<g):num g (a++x::b) / g^b.length%g=x:=by
 have b1:=num_lt hg hb
 have gp:=RW.pow_pos hg b.length
 rw [num_split,Int.add_comm,Int.mul_comm,Int.add_mul_ediv_left _ _ (by lia),Int.ediv_eq_zero_of_lt b1.1 b1.2,Int.zero_add,Int.add_comm,Int.mul_comm,Int.add_mul_emod_self_left,Int.emod_eq_of_lt hx.1 hx.2]
theorem split_at {w:List Int} {j:Nat} (h:j<w.length):w=w.take j++w.getD j 0::w.drop (j+1):=by
 rw [List.getD_eq_getElem?_getD,List.getElem?_eq_getElem h]
 show w=w.take j++w[j]::w.drop (j+1)
 rw [←List.drop_eq_getElem_cons h,List.take_append_drop]
theorem set_split {w:List Int} {j:Nat} (h:j<w.length) (v:Int):w.set j v=w.take j++v::w.drop (j+1):=List.set_eq_take_append_cons_drop▸if_pos h
theorem num_place_at {g:Int} (hg:2≤g) {w:List Int} (hb:∀ n∈w,0≤n∧n<g) {j:Nat} (h:j<w.length):num g w / g^(w.length - 1 - j)%g=w.getD j 0:=by
 have hl:(w.drop (j+1)).length=w.length - 1 - j:=by rw [List.length_drop];lia
 have e:=num_place hg (a:=w.take j) (b:=w.drop (j+1)) (x:=w.getD j 0) (fun n hn=>hb n (List.mem_of_mem_drop hn)) (getD_lt hg hb j)
 rw [←split_at h,hl] at e
 exact e
theorem num_set0 {g:Int} (hg:2≤g) {w:List Int} (hb:∀ n∈w,0≤n∧n<g) {j:Nat} (h:j<w.length):num g w - num g w / g^(w.length - 1 - j)%g*g^(w.length - 1 - j)=num g (w.set j 0):=by
 rw [num_place_at hg hb h,set_split h]
 have hl:(w.drop (j+1)).length=w.length - 1 - j:=by rw [List.length_drop];lia
 have e:=num_split g (w.take j) (w.getD j 0) (w.drop (j+1))
 rw [←split_at h] at e
 rw [e,num_split,hl,Int.add_mul,Int.add_zero]
 lia
theorem cntB_false {g:Int} {tab:List Int} {w:Int} (h:cntB g tab w=false) {k:Nat} (hk:k<tab.length):tab.getD k 0=tab.getD ((k:Int) - (k:Int) / w%g*w).toNat 0:=by
 unfold cntB at h
 rw [List.any_eq_false] at h
 have:=h k (List.mem_range.mpr hk)
 simpa using this
theorem place_free {g:Int} (hg:2≤g) {tab:List Int} {m:Nat} (hl:(tab.length:Int)=g^m) {w:List Int} (hb:∀ n∈w,0≤n∧n<g) (hw:w.length=m) {j:Nat} (hj:j<m) (hc:cntB g tab (g^(m - 1 - j))=false):tab.getD (num g w).toNat 0=tab.getD (num g (w.set j 0)).toNat 0:=by
 have b:=num_lt hg hb
 rw [hw] at b
 have e:=cntB_false hc (k:=(num g w).toNat) (by lia)
 have n0:=num_set0 hg hb (j:=j) (by lia)
 rw [hw] at n0
 rw [show (((num g w).toNat:Nat):Int)=num g w by lia,n0] at e
 exact e
def zk (keep:Nat→Bool) (w:List Int) (k:Nat):List Int:=(List.range w.length).map fun j=>if j<k∧keep j=false then 0 else w.getD j 0
theorem zk_len (keep:Nat→Bool) (w:List Int) (k:Nat):(zk keep w k).length=w.length:=by unfold zk;rw [List.length_map,List.length_range]
theorem zk_get (keep:Nat→Bool) (w:List Int) (k:Nat) {j:Nat} (h:j<w.length):(zk keep w k).getD j 0=if j<k∧keep j=false then 0 else w.getD j 0:=by unfold zk;exact getD_map_range h
theorem zk_zero (keep:Nat→Bool) (w:List Int):zk keep w 0=w:=by
 refine list_eq_getD (zk_len keep w 0) fun j hj=>?_
 rw [zk_len] at hj
 rw [zk_get keep w 0 hj,if_neg (by lia)]
theorem zk_lt {g:Int} (hg:2≤g) {keep:Nat→Bool} {w:List Int} (hb:∀ n∈w,0≤n∧n<g) (k:Nat):∀ n∈zk keep w k,0≤n∧n<g:=fun n hn=>by
 unfold zk at hn
 obtain ⟨j,_,e⟩:=List.mem_map.mp hn
 subst e
 split
 ·exact ⟨Int.le_refl _,by lia⟩
 ·exact getD_lt hg hb _
theorem set_getD {w:List Int} {i j:Nat} {v:Int} (h:i<w.length):(w.set i v).getD j 0=if i=j then v else w.getD j 0:=by
 rw [List.getD_eq_getElem?_getD,List.getElem?_set]
 by_cases e:i=j
 ·rw [if_pos e,if_pos e]
  subst e
  rw [if_pos h];rfl
 ·rw [if_neg e,if_neg e,List.getD_eq_getElem?_getD]
theorem zk_succ (keep:Nat→Bool) (w:List Int) {k:Nat} (hk:k<w.length):zk keep w (k+1)=if keep k=false then (zk keep w k).set k 0 else zk keep w k:=by
 by_cases e:keep k=false
 ·rw [if_pos e]
  refine list_eq_getD (by rw [List.length_set,zk_len,zk_len]) fun j hj=>?_
  rw [zk_len] at hj
  rw [zk_get keep w _ hj,set_getD (by rw [zk_len];exact hk),zk_get keep w _ hj]
  by_cases z:k=j
  ·subst z;rw [if_pos ⟨by lia,e⟩,if_pos rfl]
  ·rw [if_neg z]
   by_cases y:j<k∧keep j=false
   ·rw [if_pos y,if_pos ⟨by lia,y.2⟩]
   ·rw [if_neg y,if_neg (fun x=>y ⟨by lia,x.2⟩)]
 ·rw [if_neg e]
  refine list_eq_getD (by rw [zk_len,zk_len]) fun j hj=>?_
  rw [zk_len] at hj
  rw [zk_get keep w _ hj,zk_get keep w _ hj]
  by_cases y:j<k∧keep j=false
  ·rw [if_pos y,if_pos ⟨by lia,y.2⟩]
  ·rw [if_neg y,if_neg (fun x=>y ⟨Nat.lt_of_le_of_ne (by lia) (fun z=>e (z▸x.2)),x.2⟩)]
theorem zk_same {g:Int} (hg:2≤g) {tab:List Int} {m:Nat} (hl:(tab.length:Int)=g^m) {keep:Nat→Bool} (hc:∀ j,j<m→keep j=false→cntB g tab (g^(m - 1 - j))=false) {w:List Int} (hb:∀ n∈w,0≤n∧n<g) (hw:w.length=m):∀ k,k≤m→tab.getD (num g (zk keep w k)).toNat 0=tab.getD (num g w).toNat 0
 | 0,_=>by rw [zk_zero]
 | k+1,h=>by
  rw [zk_succ keep w (by lia)]
  by_cases e:keep k=false
  ·rw [if_pos e,←place_free hg hl (zk_lt hg hb k) (by rw [zk_len,hw]) (by lia) (hc k (by lia) e)]
   exact zk_same hg hl hc hb hw k (by lia)
  ·rw [if_neg e]
   exact zk_same hg hl hc hb hw k (by lia)
theorem told_alike {g:Int} (hg:2≤g) {tab:List Int} {m:Nat} (hl:(tab.length:Int)=g^m) {v w:List Int} (hv:∀ n∈v,0≤n∧n<g) (hw:∀ n∈w,0≤n∧n<g) (lv:v.length=m) (lw:w.length=m)
  (h:∀ j,j<m→cntB g tab (g^(m - 1 - j))=true→v.getD j 0=w.getD j 0):tab.getD (num g v).toNat 0=tab.getD (num g w).toNat 0:=by
 have key:∀ j,j<m→(fun j=>cntB g tab (g^(m - 1 - j))) j=false→cntB g tab (g^(m - 1 - j))=false:=fun j _ e=>e
 rw [←zk_same hg hl key hv lv m (Nat.le_refl _),←zk_same hg hl key hw lw m (Nat.le_refl _)]
 congr 3
 refine list_eq_getD (by rw [zk_len,zk_len,lv,lw]) fun j hj=>?_
 rw [zk_len,lv] at hj
 rw [zk_get _ _ _ (by lia),zk_get _ _ _ (by lia)]
 by_cases e:j<m∧cntB g tab (g^(m - 1 - j))=false
 ·rw [if_pos e,if_pos e]
 ·rw [if_neg e,if_neg e]
  refine h j hj ?_
  cases z:cntB g tab (g^(m - 1 - j)) with
  | true=>rfl
  | false=>exact absurd ⟨hj,z⟩ e
def sn (v:List Int) (z:Int):Int:=if z<0∨(v.length:Int)≤z then 0 else v.getD z.toNat 0
theorem sn_lt {g:Int} (hg:2≤g) {v:List Int} (hb:∀ n∈v,0≤n∧n<g) (z:Int):0≤sn v z∧sn v z<g:=by
 unfold sn
 split
 ·exact ⟨Int.le_refl _,by lia⟩
 ·exact getD_lt hg hb _
theorem sn_nat {v:List Int} {j:Nat} (h:j<v.length):sn v ((j:Nat):Int)=v.getD j 0:=by
 unfold sn
 rw [if_neg (by lia),Int.toNat_natCast]
def bwW (v:List Int) (d:Int) (m:Nat):List Int:=(List.range m).map fun j:Nat=>sn v (d+(j:Int))
theorem bwW_len (v:List Int) (d:Int) (m:Nat):(bwW v d m).length=m:=by unfold bwW;rw [List.length_map,List.length_range]
theorem bwW_lt {g:Int} (hg:2≤g) {v:List Int} (hb:∀ n∈v,0≤n∧n<g) (d:Int) (m:Nat):∀ n∈bwW v d m,0≤n∧n<g:=fun n hn=>by
 unfold bwW at hn
 obtain ⟨j,_,e⟩:=List.mem_map.mp hn
 subst e
 exact sn_lt hg hb _
theorem bwW_get (v:List Int) (d:Int) {m j:Nat} (h:j<m):(bwW v d m).getD j 0=sn v (d+(j:Int)):=by unfold bwW;exact getD_map_range h
theorem bwW_self (v:List Int):bwW v 0 v.length=v:=by
 refine list_eq_getD (bwW_len _ _ _) fun j hj=>?_
 rw [bwW_len] at hj
 rw [bwW_get v 0 hj,Int.zero_add,sn_nat hj]
def bwT (g lo:Int) (tab:List Int) (m:Nat) (low:Int) (M:Nat):List Int:=(List.range (g^M).toNat).map fun n:Nat=>tab.getD (num g (bwW (wordL g (n:Int) M) (lo - low) m)).toNat 0
theorem bwT_len {g:Int} (hg:2≤g) (lo:Int) (tab:List Int) (m:Nat) (low:Int) (M:Nat):((bwT g lo tab m low M).length:Int)=g^M:=by
 unfold bwT
 rw [List.length_map,List.length_range,Int.toNat_of_nonneg (Int.le_of_lt (RW.pow_pos hg M))]
theorem bwT_lt {g:Int} (hg:2≤g) (lo:Int) {tab:List Int} (hb:∀ n∈tab,0≤n∧n<g) (m:Nat) (low:Int) (M:Nat):∀ n∈bwT g lo tab m low M,0≤n∧n<g:=fun n hn=>by
 unfold bwT at hn
 obtain ⟨j,_,e⟩:=List.mem_map.mp hn
 subst e
 exact getD_lt hg hb _
theorem bwT_word {g:Int} (hg:2≤g) (lo:Int) (tab:List Int) (m:Nat) (low:Int) {v:List Int} (hb:∀ n∈v,0≤n∧n<g):(bwT g lo tab m low v.length).getD (num g v).toNat 0=tab.getD (num g (bwW v (lo - low) m)).toNat 0:=by
 have b:=num_lt hg hb
 unfold bwT
 rw [getD_map_range (by lia),show (((num g v).toNat:Nat):Int)=num g v by lia,wordL_num hg hb]
theorem of_word {g:Int} (hg:2≤g) {m k:Nat} (h:(k:Int)<g^m):∃ w:List Int,w.length=m∧(∀ n∈w,0≤n∧n<g)∧num g w=(k:Int):=⟨wordL g (k:Int) m,wordL_len _ _ _,wordL_lt hg _ _,num_wordL hg (by lia) h⟩
theorem tab_eq {g:Int} (hg:2≤g) {a b:List Int} {m:Nat} (la:(a.length:Int)=g^m) (lb:(b.length:Int)=g^m) (h:∀ w:List Int,w.length=m→(∀ n∈w,0≤n∧n<g)→a.getD (num g w).toNat 0=b.getD (num g w).toNat 0):a=b:=by
 refine list_eq_getD (by lia) fun k hk=>?_
 obtain ⟨w,h1,h2,h3⟩:=of_word hg (m:=m) (k:=k) (by lia)
 have:=h w h1 h2
 rw [h3,Int.toNat_natCast] at this
 exact this
theorem bwT_self {g:Int} (hg:2≤g) (lo:Int) {tab:List Int} {m:Nat} (hl:(tab.length:Int)=g^m):bwT g lo tab m lo m=tab:=by
 refine tab_eq hg (bwT_len hg _ _ _ _ _) hl fun w hw hb=>?_
 subst hw
 rw [bwT_word hg lo tab _ lo hb,Int.sub_self,bwW_self]
theorem countL_mem {g lo:Int} {tab:List Int} {m:Nat} {z:Int}:z∈countL g lo tab m↔∃ j:Nat,j<m∧cntB g tab (g^(m - 1 - j))=true∧z=lo+(j:Int):=by
 unfold countL
 constructor
 ·intro h
  obtain ⟨j,hj,e⟩:=List.mem_map.mp h
  obtain ⟨h1,h2⟩:=List.mem_filter.mp hj
  exact ⟨j,List.mem_range.mp h1,h2,e.symm⟩
 ·rintro ⟨j,hj,hc,rfl⟩
  exact List.mem_map.mpr ⟨j,List.mem_filter.mpr ⟨List.mem_range.mpr hj,hc⟩,rfl⟩
theorem cntB_true {g:Int} {tab:List Int} {w:Int}:cntB g tab w=true↔∃ k:Nat,k<tab.length∧tab.getD k 0≠tab.getD ((k:Int) - (k:Int) / w%g*w).toNat 0:=by
 unfold cntB
 rw [List.any_eq_true]
 constructor
 ·rintro ⟨k,hk,h⟩
  exact ⟨k,List.mem_range.mp hk,by simpa using h⟩
 ·rintro ⟨k,hk,h⟩
  exact ⟨k,List.mem_range.mpr hk,by simpa using h⟩
theorem counts_iff {g:Int} (hg:2≤g) {tab:List Int} {m:Nat} (hl:(tab.length:Int)=g^m) {j:Nat} (hj:j<m):cntB g tab (g^(m - 1 - j))=true↔∃ w:List Int,w.length=m∧(∀ n∈w,0≤n∧n<g)∧tab.getD (num g w).toNat 0≠tab.getD (num g (w.set j 0)).toNat 0:=by
 rw [cntB_true]
 constructor
 ·rintro ⟨k,hk,h⟩
  obtain ⟨w,h1,h2,h3⟩:=of_word hg (m:=m) (k:=k) (by lia)
  refine ⟨w,h1,h2,?_⟩
  have n0:=num_set0 hg h2 (j:=j) (by lia)
  rw [h1,h3] at n0
  rw [←n0,h3,Int.toNat_natCast]
  exact h
 ·rintro ⟨w,h1,h2,h⟩
  have b:=num_lt hg h2
  rw [h1] at b
  refine ⟨(num g w).toNat,by lia,?_⟩
  have n0:=num_set0 hg h2 (j:=j) (by lia)
  rw [h1] at n0
  rw [show (((num g w).toNat:Nat):Int)=num g w by lia,n0]
  exact h
structure NarW (g lo:Int) (tab:List Int) (m:Nat) (low:Int) (M:Nat):Prop where
 one:1≤M
 all:∀ j,j<m→cntB g tab (g^(m - 1 - j))=true→low≤lo+(j:Int)∧lo+(j:Int)<low+(M:Int)
 ends:((∀ j,j<m→cntB g tab (g^(m - 1 - j))=false)∧low=0∧M=1)∨∃ j0 j1:Nat,j0≤j1∧j1<m∧low=lo+(j0:Int)∧M=j1 - j0+1∧cntB g tab (g^(m - 1 - j0))=true∧cntB g tab (g^(m - 1 - j1))=true
theorem filter_sorted (p:Nat→Bool) (n:Nat):((List.range n).filter p).Pairwise (·<·):=List.Pairwise.filter p List.pairwise_lt_range
theorem head_least:∀ {l:List Nat},l.Pairwise (·<·)→∀ x∈l,l.getD 0 0≤x
 | [],_,x,h=>absurd h (by simp)
 | a::r,hp,x,h=>by
  rcases List.mem_cons.mp h with z | z
  ·rw [z];exact Nat.le_refl _
  ·exact Nat.le_of_lt ((List.pairwise_cons.mp hp).1 x z)
theorem last_most:∀ {l:List Nat},l.Pairwise (·<·)→∀ x∈l,x≤l.getD (l.length - 1) 0
 | [],_,x,h=>absurd h (by simp)
 | [a],_,x,h=>by rw [List.mem_singleton.mp h];exact Nat.le_refl _
 | a::b::r,hp,x,h=>by
  have ih:=last_most (l:=b::r) (List.pairwise_cons.mp hp).2
  have e:(a::b::r).getD ((a::b::r).length - 1) 0=(b::r).getD ((b::r).length - 1) 0:=rfl
  rw [e]
  rcases List.mem_cons.mp h with z | z
  ·rw [z]
   exact Nat.le_trans (Nat.le_of_lt ((List.pairwise_cons.mp hp).1 b List.mem_cons_self)) (ih b List.mem_cons_self)
  ·exact ih x z
theorem getD_mem:∀ {l:List Nat} {k:Nat},k<l.length→l.getD k 0∈l:=fun {l k} h=>by
 rw [List.getD_eq_getElem?_getD,List.getElem?_eq_getElem h];exact List.getElem_mem h
theorem getD_map_ne {f:Nat→Int} {l:List Nat} {k:Nat} (h:k<l.length):(l.map f).getD k 0=f (l.getD k 0):=by
 rw [List.getD_eq_getElem?_getD,List.getElem?_map,List.getElem?_eq_getElem h,List.getD_eq_getElem?_getD,List.getElem?_eq_getElem h];rfl
theorem narW_nil {g lo:Int} {tab:List Int} {m:Nat} (h:countL g lo tab m=[]):NarW g lo tab m 0 1:=by
 have f:∀ j,j<m→cntB g tab (g^(m - 1 - j))=false:=fun j hj=>by
  cases z:cntB g tab (g^(m - 1 - j)) with
  | false=>rfl
  | true=>exact absurd (countL_mem.mpr ⟨j,hj,z,rfl⟩) (by rw [h];simp)
 exact ⟨Nat.le_refl _,fun j hj hc=>absurd hc (by rw [f j hj];decide),.inl ⟨f,rfl,rfl⟩⟩
theorem narW_some {g lo:Int} {tab:List Int} {m:Nat} (h:countL g lo tab m≠[]):∃ M:Nat,(M:Int)=(countL g lo tab m).getD ((countL g lo tab m).length - 1) 0 - (countL g lo tab m).getD 0 0+1∧M≤m∧NarW g lo tab m ((countL g lo tab m).getD 0 0) M:=by
 unfold countL at h ⊢
 generalize hl:((List.range m).filter fun j=>cntB g tab (g^(m - 1 - j)))=l at h ⊢
 have hne:0<l.length:=by
  cases l with
  | nil=>exact absurd rfl h
  | cons a r=>simp
 have hm:∀ j,j∈l↔j<m∧cntB g tab (g^(m - 1 - j))=true:=fun j=>by
  rw [←hl,List.mem_filter,List.mem_range]
 have hp:l.Pairwise (·<·):=by rw [←hl];exact filter_sorted _ _
 rw [List.length_map,getD_map_ne (show l.length - 1<l.length by lia),getD_map_ne hne]
 have m0:=(hm _).mp (getD_mem hne)
 have m1:=(hm _).mp (getD_mem (show l.length - 1<l.length by lia))
 have le:=last_most hp _ (getD_mem hne)
 refine ⟨l.getD (l.length - 1) 0 - l.getD 0 0+1,by lia,by lia,⟨by lia,fun j hj hc=>?_,.inr ⟨l.getD 0 0,l.getD (l.length - 1) 0,le,m1.1,rfl,rfl,m0.2,m1.2⟩⟩⟩
 have a1:=head_least hp j ((hm j).mpr ⟨hj,hc⟩)
 have a2:=last_most hp j ((hm j).mpr ⟨hj,hc⟩)
 lia
theorem NarW.uniq {g lo:Int} {tab:List Int} {m:Nat} {low low':Int} {M M':Nat} (h:NarW g lo tab m low M) (h':NarW g lo tab m low' M'):low=low'∧M=M':=by
 rcases h.ends with ⟨f,e1,e2⟩ | ⟨j0,j1,le,lt,e1,e2,c0,c1⟩
 ·rcases h'.ends with ⟨f',e1',e2'⟩ | ⟨j0',j1',le',lt',e1',e2',c0',c1'⟩
  ·exact ⟨by lia,by lia⟩
  ·rw [f j1' lt'] at c1';cases c1'
 ·rcases h'.ends with ⟨f',e1',e2'⟩ | ⟨j0',j1',le',lt',e1',e2',c0',c1'⟩
  ·rw [f' j1 lt] at c1;cases c1
  ·have a:=h.all j0' (by lia) c0'
   have b:=h.all j1' lt' c1'
   have c:=h'.all j0 (by lia) c0
   have d:=h'.all j1 lt c1
   exact ⟨by lia,by lia⟩
theorem told_none {g:Int} (hg:2≤g) {tab:List Int} {m:Nat} (hl:(tab.length:Int)=g^m) (f:∀ j,j<m→cntB g tab (g^(m - 1 - j))=false) {w:List Int} (hb:∀ n∈w,0≤n∧n<g) (hw:w.length=m):tab.getD (num g w).toNat 0=tab.getD 0 0:=by
 obtain ⟨z,h1,h2,h3⟩:=of_word hg (m:=m) (k:=0) (RW.pow_pos hg m)
 have e:=told_alike hg hl hb h2 hw h1 fun j hj hc=>absurd hc (by rw [f j hj];decide)
 rw [h3] at e
 exact e
theorem bwT_none {g:Int} (hg:2≤g) {lo low:Int} {tab:List Int} {m M:Nat} (hl:(tab.length:Int)=g^m) (f:∀ j,j<m→cntB g tab (g^(m - 1 - j))=false):bwT g lo tab m low M=List.replicate (g^M).toNat (tab.getD 0 0):=by
 unfold bwT
 rw [List.eq_replicate_iff]
 refine ⟨by rw [List.length_map,List.length_range],fun b hb=>?_⟩
 obtain ⟨n,_,e⟩:=List.mem_map.mp hb
 rw [←e,told_none hg hl f (bwW_lt hg (wordL_lt hg _ _) _ _) (bwW_len _ _ _)]
end L2
namespace L2
def sumN (n:Nat) (f:Nat→Int):Int:=((List.range n).map f).sum
theorem sumN_zero (f:Nat→Int):sumN 0 f=0:=rfl
theorem sumN_succ (n:Nat) (f:Nat→Int):sumN (n+1) f=sumN n f+f n:=by
 unfold sumN
 rw [List.range_succ,List.map_append,List.sum_append]
 show _+([f n]:List Int).sum=_
 rw [List.sum_cons,List.sum_nil,Int.add_zero]
theorem sumN_congr {n:Nat} {f g:Nat→Int} (h:∀ k,k<n→f k=g k):sumN n f=sumN n g:=by
 unfold sumN
 rw [List.map_congr_left fun k hk=>h k (List.mem_range.mp hk)]
theorem sumN_split (a b:Nat) (f:Nat→Int):sumN (a+b) f=sumN a f+sumN b (fun k=>f (a+k)):=by
 induction b with
 | zero=>rw [sumN_zero,Int.add_zero];rfl
 | succ b ih=>rw [←Nat.add_assoc,sumN_succ,sumN_succ,ih,Int.add_assoc]
def ind (p:Bool) (x:Int):Int:=if p then x else 0
def cnt (G:Nat) (tab:List Int):List Int→Nat→Int
 | [],_=>1
 | s::r,h=>sumN G fun j=>ind (decide (tab.getD (h*G+j) 0=s)) (cnt G tab r ((h*G+j)%(tab.length / G)))
def tot (G:Nat) (tab:List Int) (r:List Int):Int:=sumN (tab.length / G) (cnt G tab r)
theorem heads_is {g:Int} (hg:2≤g) {tab:List Int} {m:Nat} (hl:(tab.length:Int)=g^m) (hm:1≤m):((tab.length / g.toNat:Nat):Int)=g^(m - 1)∧tab.length=tab.length / g.toNat*g.toNat:=by
 obtain ⟨k,rfl⟩:∃ k,m=k+1:=⟨m - 1,by lia⟩
 have e:tab.length=(g^k).toNat*g.toNat:=by
  have p:=RW.pow_pos hg k
  rw [Int.pow_succ] at hl
  apply Int.ofNat.inj
  show (tab.length:Int)=(((g^k).toNat*g.toNat:Nat):Int)
  rw [hl,Int.natCast_mul,Int.toNat_of_nonneg (Int.le_of_lt p),Int.toNat_of_nonneg (by lia)]
 have q:tab.length / g.toNat=(g^k).toNat:=by rw [e];exact Nat.mul_div_cancel _ (by lia)
 rw [q,Nat.add_sub_cancel]
 exact ⟨Int.toNat_of_nonneg (Int.le_of_lt (RW.pow_pos hg k)),e⟩
end L2
namespace L2
open PySem
structure RuleOk (H:Hp) (r:Addr) (g lo:Int) (tab:List Int) (m:Nat):Prop where
 v:RuleV H r g lo tab
 g2:2≤g
 g9:g≤9
 m1:1≤m
 m8:m≤8
 len:(tab.length:Int)=g^m
 sz:g^m≤256
 tb:∀ n∈tab,0≤n∧n<g
theorem RuleOk.same {H H':Hp} {r:Addr} {g lo:Int} {tab:List Int} {m:Nat} (e:Same H H') (h:RuleOk H r g lo tab m):RuleOk H' r g lo tab m:=⟨h.v.same e,h.g2,h.g9,h.m1,h.m8,h.len,h.sz,h.tb⟩
def spHeads:Sp:=fun vs H Q _=>∃ (r:Addr) (g lo:Int) (tab:List Int) (m:Nat),vs=[.ref r]∧RuleOk H r g lo tab m∧Q (.int ((tab.length / g.toNat:Nat):Int)) H
end L2
namespace L2
open PySem
theorem passFN {P:Program} {w:World} {X:Cx}:PassesX (CXC true P w) X (fun _=>E0):=fun _ _ _ _ _ _ _ ⟨_,_,_,_,_,_,_,_,h⟩=>h.elim
theorem rule_call {C:Addr} {H:Hp} {g lo:Int} {tab:List Int} {m:Nat} {a:Addr} {Q:VK} {E:XK} (g2:2≤g) (g9:g≤9) (m1:1≤m) (len:(tab.length:Int)=g^m) (sz:g^m≤256) (tb:∀ n∈tab,0≤n∧n<g) (hs:SeqV H a (tab.map V.int))
  (q:∀ r' H',Same H H'→RuleV H' r' g lo tab→Q (.ref r') H'):spRule C [.int g,.int lo,.ref a] H Q E:=by
 have tok:TabOk g (tab.map V.int):=⟨by rw [List.length_map];lia,⟨m,m1,by rw [List.length_map];exact len⟩,badIx_ints tb⟩
 refine ⟨_,_,_,rfl,True.intro,True.intro,⟨_,hs,kd_ints⟩,fun g' lo' tab' a' e1 e2 e3 hs' _ _ _ _ r' H' e' hR'=>?_,fun nok=>absurd ⟨goodHead_ints g2 g9,g,rfl,a,_,rfl,hs,tok⟩ nok⟩
 cases e1;cases e2;cases e3
 have:=ints_inj (hs.inj hs')
 subst this
 exact q r' H' e' hR'
end L2
namespace L2
open PySem
def spSignOr (K:PySem.W.Frag):Sp:=fun vs H Q _=>∃ (a:Addr) (v:List Int) (z:Int),vs=[.ref a,.int z]∧SqL K H a (v.map V.int)∧Q (.int (sn v z)) H
theorem pow_le_eight {g:Int} (hg:2≤g) {M:Nat} (h:g^M≤256):M≤8:=by
 apply Nat.le_of_not_lt
 intro z
 have h1:=pow_mono hg (show 9≤M by lia)
 have h2:(512:Int)≤g^9:=by
  have h2:2*2≤g*g:=Int.mul_le_mul hg hg (by decide) (by lia)
  have h4:4*4≤(g*g)*(g*g):=Int.mul_le_mul (by lia) (by lia) (by decide) (by lia)
  have h8:16*16≤((g*g)*(g*g))*((g*g)*(g*g)):=Int.mul_le_mul (by lia) (by lia) (by decide) (by lia)
  have h9:256*2≤(((g*g)*(g*g))*((g*g)*(g*g)))*g:=Int.mul_le_mul (by lia) hg (by decide) (by lia)
  have e:g^9=(((g*g)*(g*g))*((g*g)*(g*g)))*g:=by simp only [Int.pow_succ,Int.pow_zero,Int.one_mul,Int.mul_assoc]
  rw [e]
  lia
 lia
theorem RuleOk.bw {H H':Hp} {r r':Addr} {g lo:Int} {tab:List Int} {m:Nat} (h:RuleOk H r g lo tab m) {low:Int} {M:Nat} (hM:1≤M) (hz:g^M≤256) (hv:RuleV H' r' g low (bwT g lo tab m low M)):RuleOk H' r' g low (bwT g lo tab m low M) M :=
 ⟨hv,h.g2,h.g9,hM,pow_le_eight h.g2 hz,bwT_len h.g2 _ _ _ _ _,hz,bwT_lt h.g2 _ h.tb _ _ _⟩
def spByWin:Sp:=fun vs H Q _=>∃ (r:Addr) (g lo:Int) (tab:List Int) (m:Nat) (low:Int) (M:Nat),vs=[.ref r,.int low,.int ((M:Nat):Int)]∧RuleOk H r g lo tab m∧1≤M∧g^M≤256∧∀ r' H',Same H H'→RuleOk H' r' g low (bwT g lo tab m low M) M→Q (.ref r') H'
def spNarrow:Sp:=fun vs H Q _=>∃ (r:Addr) (g lo:Int) (tab:List Int) (m:Nat),vs=[.ref r]∧RuleOk H r g lo tab m∧∀ (low:Int) (M:Nat),NarW g lo tab m low M→∀ r' H',Same H H'→RuleOk H' r' g low (bwT g lo tab m low M) M→Q (.ref r') H'
def outW (g lo:Int) (tab:List Int) (m:Nat) (low high:Int):Prop:=high<low∨∃ z∈countL g lo tab m,z<low∨high<z
def spWidened (CW CT:Addr):Sp:=fun vs H Q E=>∃ (r:Addr) (g lo:Int) (tab:List Int) (m:Nat) (low high:Int),vs=[.ref r,.int low,.int high]∧RuleOk H r g lo tab m ∧
 (outW g lo tab m low high→∀ H',Same H H'→E (.ref CW) none H')∧(¬ outW g lo tab m low high→256<g^(high - low+1).toNat→∀ H',Same H H'→E (.ref CT) none H') ∧
 (¬ outW g lo tab m low high→g^(high - low+1).toNat≤256→∀ r' H',Same H H'→RuleOk H' r' g low (bwT g lo tab m low (high - low+1).toNat) (high - low+1).toNat→Q (.ref r') H')
theorem NarW.small {g lo:Int} {tab:List Int} {m:Nat} {low:Int} {M:Nat} (h:NarW g lo tab m low M) (hm:1≤m):M≤m:=by
 rcases h.ends with ⟨_,_,e⟩ | ⟨j0,j1,le,lt,_,e,_,_⟩
 ·lia
 ·lia
theorem atI_lastI {ns:List Int} (h:0<ns.length):atI (ns.map V.int) (-1)=some (.int (ns.getD (ns.length - 1) 0)):=by
 have e:=getAt (ns:=ns) (k:=ns.length - 1) (by lia)
 have z:ixN (ns.map V.int).length (-1)=some (ns.length - 1):=by
  unfold ixN
  rw [List.length_map]
  rw [if_neg (by decide),if_pos (by lia)]
  congr 1
  lia
 have y:ixN (ns.map V.int).length (((ns.length - 1:Nat)):Int)=some (ns.length - 1):=by
  rw [List.length_map]
  exact ixN_nat (by lia)
 unfold atI at e ⊢
 rw [z]
 rw [y] at e
 exact e
end L2
namespace L2
open PySem PySem.Spec PyProof.Rows
section
variable {X:Cx} {es:List Expr} {t:TA}
theorem pa_consC {i:Int} {j} {pos:Pos} (hr:PA X es t):PA X (.Constant (.int i) j pos::es) (tCons (tC (.int i)) t):=pa_cons pe_int hr (by rfl)
end
@[irreducible] def PSI (X:Cx) (st:Stmt) (t:TS):Prop:=PS X st t
@[irreducible] def PSsI (X:Cx) (ss:List Stmt) (t:TS):Prop:=PSs X ss t
section
variable {X:Cx} {st:Stmt} {rest ss:List Stmt} {t u:TS}
theorem PSI.of (h:PS X st t):PSI X st t:=by unfold PSI;exact h
theorem PSI.out (h:PSI X st t):PS X st t:=by unfold PSI at h;exact h
theorem PSsI.of (h:PSs X ss t):PSsI X ss t:=by unfold PSsI;exact h
theorem PSsI.out (h:PSsI X ss t):PSs X ss t:=by unfold PSsI at h;exact h
theorem psi_cons (h1:PSI X st t) (h2:PSsI X rest u):PSsI X (st::rest) (tSeq t u):=.of (pss_cons h1.out h2.out)
theorem psi_one (h1:PSI X st t):PSsI X [st] t:=.of (pss_one h1.out)
end
end L2
namespace L2
open PySem PySem.Spec PyProof.Rows
@[irreducible] def PEI (X:Cx) (e:Expr) (te:TE):Prop:=PE X e te
@[irreducible] def PAI (X:Cx) (es:List Expr) (t:TA):Prop:=PA X es t
section
variable {X:Cx} {e a b:Expr} {es:List Expr} {te ta tb:TE} {t:TA} {pos:Pos}
theorem PEI.of (h:PE X e te):PEI X e te:=by unfold PEI;exact h
theorem PEI.out (h:PEI X e te):PE X e te:=by unfold PEI at h;exact h
theorem PAI.of (h:PA X es t):PAI X es t:=by unfold PAI;exact h
theorem PAI.out (h:PAI X es t):PA X es t:=by unfold PAI at h;exact h
theorem pai_nil:PAI X [] tNil:=.of pa_nil
theorem pai_consC {i:Int} {j} {p:Pos} (hr:PAI X es t):PAI X (.Constant (.int i) j p::es) (tCons (tC (.int i)) t):=.of (pa_consC hr.out)
theorem pei_lst (h:PAI X es t):PEI X (.List es pos) (tLst t):=.of (pe_lst h.out)
theorem pei_ix {r:R2} (hr:IxR X r) (ha:PEI X a ta) (hb:PEI X b tb) (hs:PlainIx b):PEI X (.Subscript a b pos) (tOp r ta tb):=.of (pe_ix hr ha.out hb.out hs)
theorem psi_set {i:Nat} {x:Str} {pos':Pos} (hN:X.N.Nodup) (hi:X.N[i]?=some x) (hx:Loc X.env.scope x) (he:PEI X e te) (hs:swapsWith e (some (.Name x pos')) pos.line X.env=pure false) (hf:X.fn x=true∨X.env.scope.names.lookup x=some .local) :
  PSI X (.Assign [.Name x pos'] e pos) (tAsg te (gName i)):=.of (ps_set hN hi hx he.out hs hf)
theorem psi_if {c:Expr} {a b:List Stmt} {tc:TT} {t u:TS} (hc:PT X c tc) (ha:PSsI X a t) (hb:PSsI X b u):PSI X (.If c a b pos) (tIfS tc t u):=.of (ps_if hc ha.out hb.out)
theorem psi_nil:PSsI X [] tNext:=.of pss_nil
end
end L2
namespace L2
open PySem
def rowW (x:Int→Int) (lo:Int) (m:Nat):List Int:=(List.range m).map fun j:Nat=>x (lo+(j:Int))
theorem rowW_len (x:Int→Int) (lo:Int) (m:Nat):(rowW x lo m).length=m:=by unfold rowW;rw [List.length_map,List.length_range]
theorem rowW_get (x:Int→Int) (lo:Int) {m j:Nat} (h:j<m):(rowW x lo m).getD j 0=x (lo+(j:Int)):=by unfold rowW;exact getD_map_range h
def Row (g:Int) (x:Int→Int):Prop:=∀ z,0≤x z∧x z<g
theorem rowW_lt {g:Int} {x:Int→Int} (hx:Row g x) (lo:Int) (m:Nat):∀ n∈rowW x lo m,0≤n∧n<g:=fun n hn=>by
 unfold rowW at hn
 obtain ⟨j,_,rfl⟩:=List.mem_map.mp hn
 exact hx _
def fnR (g lo:Int) (tab:List Int) (m:Nat) (x:Int→Int):Int:=tab.getD (num g (rowW x lo m)).toNat 0
def rowOf (w:List Int) (lo:Int):Int→Int:=fun z=>sn w (z - lo)
theorem rowOf_row {g:Int} (hg:2≤g) {w:List Int} (hb:∀ n∈w,0≤n∧n<g) (lo:Int):Row g (rowOf w lo):=fun z=>sn_lt hg hb _
theorem rowW_of (w:List Int) (low lo:Int) (m:Nat):rowW (rowOf w low) lo m=bwW w (lo - low) m:=by
 unfold rowW bwW rowOf
 exact List.map_congr_left fun j _=>by rw [show lo+(j:Int) - low=lo - low+(j:Int) by lia]
theorem rowW_ofSelf (w:List Int) (lo:Int):rowW (rowOf w lo) lo w.length=w:=by rw [rowW_of,Int.sub_self,bwW_self]
theorem fnR_bwT {g:Int} (hg:2≤g) {lo low:Int} {tab:List Int} {m M:Nat} (hl:(tab.length:Int)=g^m) (hc:∀ j,j<m→cntB g tab (g^(m - 1 - j))=true→low≤lo+(j:Int)∧lo+(j:Int)<low+(M:Int)) {x:Int→Int} (hx:Row g x):fnR g low (bwT g lo tab m low M) M x=fnR g lo tab m x:=by
 unfold fnR
 have z:=bwT_word hg lo tab m low (v:=rowW x low M) (rowW_lt hx low M)
 rw [rowW_len] at z
 rw [z]
 refine told_alike hg hl (bwW_lt hg (rowW_lt hx low M) _ _) (rowW_lt hx lo m) (bwW_len ..) (rowW_len ..) fun j hj hcj=>?_
 obtain ⟨a,b⟩:=hc j hj hcj
 rw [bwW_get _ _ hj,rowW_get _ _ hj,show lo - low+(j:Int)=(((lo+(j:Int) - low).toNat:Nat):Int) by lia,sn_nat (by rw [rowW_len];lia),rowW_get _ _ (by lia)]
 congr 1
 lia
def dep (g:Int) (f:(Int→Int)→Int) (z:Int):Prop:=∃ x,Row g x∧f x≠f fun y=>if y=z then 0 else x y
theorem row0 {g:Int} (hg:2≤g) {x:Int→Int} (hx:Row g x) (z:Int):Row g fun y=>if y=z then 0 else x y:=fun y=>by
 show 0≤(if y=z then 0 else x y)∧(if y=z then 0 else x y)<g
 split
 ·lia
 ·exact hx y
theorem rowW_set (x:Int→Int) (lo:Int) {m j:Nat} (hj:j<m):rowW (fun y=>if y=lo+(j:Int) then 0 else x y) lo m=(rowW x lo m).set j 0:=by
 refine list_eq_getD (by rw [List.length_set,rowW_len,rowW_len]) fun k hk=>?_
 rw [rowW_len] at hk
 rw [rowW_get _ _ hk,set_getD (by rw [rowW_len];exact hj),rowW_get _ _ hk]
 by_cases e:j=k
 ·subst e;rw [if_pos rfl,if_pos rfl]
 ·rw [if_neg e,if_neg (by lia)]
theorem cnt_dep {g:Int} (hg:2≤g) {lo:Int} {tab:List Int} {m:Nat} (hl:(tab.length:Int)=g^m) {j:Nat} (hj:j<m):cntB g tab (g^(m - 1 - j))=true↔dep g (fnR g lo tab m) (lo+(j:Int)):=by
 rw [counts_iff hg hl hj]
 constructor
 ·rintro ⟨w,wl,wb,ne⟩
  subst wl
  refine ⟨rowOf w lo,rowOf_row hg wb lo,?_⟩
  unfold fnR
  rw [rowW_set _ _ hj,rowW_ofSelf]
  exact ne
 ·rintro ⟨x,hx,ne⟩
  unfold fnR at ne
  rw [rowW_set _ _ hj] at ne
  exact ⟨_,rowW_len ..,rowW_lt hx lo m,ne⟩
theorem dep_in {g:Int} {lo:Int} {tab:List Int} {m:Nat} {z:Int} (h:dep g (fnR g lo tab m) z):∃ j:Nat,j<m∧z=lo+(j:Int):=by
 obtain ⟨x,hx,ne⟩:=h
 by_cases e:lo≤z∧z<lo+(m:Int)
 ·exact ⟨(z - lo).toNat,by lia,by lia⟩
 ·exfalso
  apply ne
  unfold fnR
  congr 3
  unfold rowW
  refine List.map_congr_left fun j hj=>?_
  have:=List.mem_range.mp hj
  show x (lo+(j:Int))=if lo+(j:Int)=z then 0 else x (lo+(j:Int))
  rw [if_neg (by lia)]
structure NarF (g:Int) (f:(Int→Int)→Int) (low:Int) (M:Nat):Prop where
 one:1≤M
 all:∀ z,dep g f z→low≤z∧z<low+(M:Int)
 ends:((∀ z,¬ dep g f z)∧low=0∧M=1)∨(dep g f low∧dep g f (low+(M:Int) - 1))
theorem NarW.toF {g:Int} (hg:2≤g) {lo:Int} {tab:List Int} {m:Nat} (hl:(tab.length:Int)=g^m) {low:Int} {M:Nat} (h:NarW g lo tab m low M):NarF g (fnR g lo tab m) low M:=by
 refine ⟨h.one,fun z hz=>?_,?_⟩
 ·obtain ⟨j,hj,rfl⟩:=dep_in hz
  exact h.all j hj ((cnt_dep hg hl hj).mpr hz)
 ·rcases h.ends with ⟨f,a,b⟩ | ⟨j0,j1,le,lt,a,b,c0,c1⟩
  ·refine .inl ⟨fun z hz=>?_,a,b⟩
   obtain ⟨j,hj,rfl⟩:=dep_in hz
   rw [←cnt_dep hg hl hj,f j hj] at hz
   cases hz
  ·have d0:=(cnt_dep (lo:=lo) hg hl (show j0<m by lia)).mp c0
   have d1:=(cnt_dep (lo:=lo) hg hl lt).mp c1
   refine .inr ⟨a▸d0,?_⟩
   rw [show low+(M:Int) - 1=lo+(j1:Int) by lia]
   exact d1
theorem NarF.uniq {g:Int} {f:(Int→Int)→Int} {low low':Int} {M M':Nat} (h:NarF g f low M) (h':NarF g f low' M'):low=low'∧M=M':=by
 have o:=h.one
 have o':=h'.one
 rcases h.ends with ⟨n,a,b⟩ | ⟨d0,d1⟩
 ·rcases h'.ends with ⟨_,a',b'⟩ | ⟨d0',_⟩
  ·lia
  ·exact absurd d0' (n _)
 ·rcases h'.ends with ⟨n',_,_⟩ | ⟨d0',d1'⟩
  ·exact absurd d0 (n' _)
  ·have:=h.all _ d0'
   have:=h.all _ d1'
   have:=h'.all _ d0
   have:=h'.all _ d1
   lia
theorem dep_congr {g:Int} (hg:2≤g) {f f':(Int→Int)→Int} (h:∀ x,Row g x→f x=f' x) {z:Int} (d:dep g f z):dep g f' z:=by
 obtain ⟨x,hx,ne⟩:=d
 refine ⟨x,hx,?_⟩
 rw [←h x hx,←h _ (row0 hg hx z)]
 exact ne
theorem NarF.congr {g:Int} (hg:2≤g) {f f':(Int→Int)→Int} (h:∀ x,Row g x→f x=f' x) {low:Int} {M:Nat} (n:NarF g f low M):NarF g f' low M:=by
 have h2:∀ x,Row g x→f' x=f x:=fun x hx=>(h x hx).symm
 refine ⟨n.one,fun z d=>n.all z (dep_congr hg h2 d),?_⟩
 rcases n.ends with ⟨a,b,c⟩ | ⟨a,b⟩
 ·exact .inl ⟨fun z d=>a z (dep_congr hg h2 d),b,c⟩
 ·exact .inr ⟨dep_congr hg h a,dep_congr hg h b⟩
def AlikeR (g lo:Int) (tab:List Int) (m:Nat) (lo':Int) (tab':List Int) (m':Nat):Prop:=∀ x,Row g x→fnR g lo tab m x=fnR g lo' tab' m' x
theorem fn_tab {g:Int} (hg:2≤g) {lo:Int} {a b:List Int} {m:Nat} (la:(a.length:Int)=g^m) (lb:(b.length:Int)=g^m) (h:∀ x,Row g x→fnR g lo a m x=fnR g lo b m x):a=b:=by
 refine tab_eq hg la lb fun w wl wb=>?_
 subst wl
 have z:=h (rowOf w lo) (rowOf_row hg wb lo)
 unfold fnR at z
 rw [rowW_ofSelf] at z
 exact z
theorem alike_narrow {g:Int} (hg:2≤g) {lo lo':Int} {tab tab':List Int} {m m':Nat} (hl:(tab.length:Int)=g^m) (hl':(tab'.length:Int)=g^m') {low low':Int} {M M':Nat} (n:NarW g lo tab m low M) (n':NarW g lo' tab' m' low' M') :
  AlikeR g lo tab m lo' tab' m'↔low=low'∧bwT g lo tab m low M=bwT g lo' tab' m' low' M':=by
 constructor
 ·intro h
  obtain ⟨e1,e2⟩:=((n.toF hg hl).congr hg h).uniq (n'.toF hg hl')
  subst e1 e2
  refine ⟨rfl,fn_tab hg (lo:=low) (bwT_len hg ..) (bwT_len hg ..) fun x hx=>?_⟩
  rw [fnR_bwT hg hl n.all hx,fnR_bwT hg hl' n'.all hx]
  exact h x hx
 ·rintro ⟨rfl,e⟩ x hx
  have hM:M=M':=by
   have a:=bwT_len hg lo tab m low M
   have b:=bwT_len hg lo' tab' m' low M'
   rw [e,b] at a
   exact pow_inj hg a.symm
  subst hM
  rw [←fnR_bwT hg hl n.all hx,←fnR_bwT hg hl' n'.all hx,e]
theorem fnR_wide {g:Int} (hg:2≤g) {lo low:Int} {tab:List Int} {m M:Nat} (hl:(tab.length:Int)=g^m) (h1:low≤lo) (h2:lo+(m:Int)≤low+(M:Int)) {x:Int→Int} (hx:Row g x):fnR g low (bwT g lo tab m low M) M x=fnR g lo tab m x :=
 fnR_bwT hg hl (fun j hj _=>by lia) hx
theorem AlikeR.symm {g lo:Int} {tab:List Int} {m:Nat} {lo':Int} {tab':List Int} {m':Nat} (h:AlikeR g lo tab m lo' tab' m'):AlikeR g lo' tab' m' lo tab m:=fun x hx=>(h x hx).symm
theorem hide {t u:TS} {D:Ends} {σ:St} {H:Hp} (h:∀ N:St→Hp→Prop,(∀ σ' H',u D σ' H'→N σ' H')→t { D with nx:=N } σ H):tSeq t u D σ H:=h (u D) fun _ _ z=>z
end L2
namespace L2
open PySem
def AscT (x:Str):Prop:=x.cps.all (·<128)=true
end L2
namespace L2
open PySem PySem.Spec PyProof.Rows
section
variable {X:Cx}
end
end L2
namespace L2
open PySem PySem.Spec PyProof.Rows
section
variable {X:Cx}
end
end L2
namespace L2
open PySem PySem.Spec PyProof.Rows
section
variable {X:Cx}
end
end L2
namespace L2
open PySem PySem.Spec PyProof.Rows
section
variable {X:Cx}
theorem all_range (bs:List Bool):(List.range bs.length).all (fun i=>bs.getD i false)=bs.all id:=by
 rw [Bool.eq_iff_iff,List.all_eq_true,List.all_eq_true]
 constructor
 ·intro h b hb
  obtain ⟨i,hi,e⟩:=List.getElem_of_mem hb
  have z:=h i (List.mem_range.mpr hi)
  rw [List.getD_eq_getElem?_getD,List.getElem?_eq_getElem hi,e] at z
  exact z
 ·intro h i hi
  have hi':=List.mem_range.mp hi
  rw [List.getD_eq_getElem?_getD,List.getElem?_eq_getElem hi']
  exact h _ (List.getElem_mem hi')
theorem call_all_of (hc:X.calm=true):CallR X (.builtin "all") (fun xs H Q=>∃ (p:Addr) (bs:List Bool),xs=[.ref p]∧SqL X.K H p (bs.map V.bl)∧Q (.bl (bs.all id)) H):=by
 intro pins s σ H xs us Q I r h
 obtain ⟨p,bs,rfl,hq,q⟩:=h
 obtain ⟨u,rfl,rx⟩:=vals1 r
 cases rx
 obtain ⟨its,rits,pl,hz⟩:=I.list hq
 have hlen:=rits.length
 rw [List.length_map] at hlen
 have alt:p<s.heap.objs.size:=by obtain ⟨o,e,_⟩:=pl.isList;exact Heap.lt_size e
 refine call_all_walk (wpAny_pyIter_list pl.isList ?_)
 have up:∀ b o,s.heap.get? b=some o→(s.heap.push { cls:=.type "list_iterator",data:=.fields #[.ref p,.int 0 0] }).get? b=some o:=fun b o e=>Heap.get?_push_of_some _ e
 refine ⟨s.heap.objs.size,[s.heap.objs.size,p],[s.heap.objs.size],its.toArray.size,_,_,fun i=>bs.getD i false,rfl,Walks.list (A:=X.A.in1) (I.ok.hd hc) _ p (Nat.ne_of_lt alt) its.toArray,⟨⟨_,Heap.get?_push_size _ rfl,rfl,rfl⟩,pl.isList.at fun o e=>up p o e⟩,fun i v Q' E' s' hv hq'=>?_,fun h' tk kk=>?_⟩
 ·have hv':its[i]?=some v:=by simpa using hv
  have hi:=(List.getElem?_eq_some_iff.mp hv').1
  obtain ⟨u2,hu2,ru2⟩:=rits.get (x:=.bl (bs.getD i false)) (i:=i) (by rw [List.getElem?_map,List.getElem?_eq_getElem (by lia),List.getD_eq_getElem?_getD,List.getElem?_eq_getElem (by lia)];rfl)
  rw [hv'] at hu2
  cases hu2
  cases ru2
  exact wpAny_truthy_bool hq'
 ·refine ⟨.bl (bs.all id),H,I.kept (t':=tk) fun b o e=>kk b o (fun z=>?_) (up b o e),?_,q⟩
  ·rw [List.mem_singleton.mp z] at e
   exact absurd (Heap.lt_size e) (Nat.lt_irrefl _)
  ·rw [List.size_toArray,←hlen,all_range]
   rfl
end
end L2
namespace L2
open PySem PySem.Spec PyProof.Rows
section
variable {X:Cx} {x:Str} {pos:Pos}
end
end L2
namespace L2
open PySem PySem.Spec PyProof.Rows
end L2
namespace L2
open PySem PySem.Spec PyProof.Rows
section
variable {K:PySem.W.Frag}
end
end L2
namespace L2
open PySem PySem.Spec PyProof.Rows
end L2
namespace L2
open PySem PySem.Spec PyProof.Rows
section
variable {X:Cx} {es es2:List Expr} {t t2:TA} {p:Pos}
end
end L2
namespace L2
open PySem PySem.Spec PyProof.Rows
section
variable {X:Cx}
end
end L2
namespace L2
open PySem PySem.Spec PyProof.Rows
def TxOk (x:Str):Prop:=AscT x∧x.cps.size≤600
def TxV (H:Hp):V→Prop
 | .str x=>TxOk x
 | .int _=>True
 | .bl _=>True
 | .non=>True
 | .ref a=>∃ xs,H a=some (.lst xs)∨H a=some (.tup xs)
 | _=>False
theorem TxV.same {H H':Hp} (e:Same H H'):∀ {v:V},TxV H v→TxV H' v
 | .str _,h=>h
 | .int _,_=>True.intro
 | .bl _,_=>True.intro
 | .non,_=>True.intro
 | .ref a,h=>by
  obtain ⟨xs,h⟩:=h
  exact ⟨xs,h.elim (fun q=>.inl (e _ _ q)) fun q=>.inr (e _ _ q)⟩
def wdOf (x:Str):List Int:=x.cps.toList.map fun c:Nat=>(c:Int) - 48
def figs (hi:Nat) (x:Str):Bool:=x.cps.toList.all fun c:Nat=>decide (48≤c) && decide (c≤hi)
def numT (n:Int):Str:=Str.ofString (toString n)
def partsOf (x:Str):List Str:=Txt.split x (Str.ofString ":")
def figPart (x:Str):Str:=if Txt.startswith x (Str.ofString "-")=true then Txt.slice x (some 1) none else x
structure NumX (x:Str) (n:Int):Prop where
 n0:(figPart x).cps.size≠0
 fg:figs 57 (figPart x)=true
 le:(figPart x).cps.size≤60
 eq:numT n=x
structure RuleX (x:Str) (g lo:Int) (tab:List Int):Prop where
 pt:∃ a b c,partsOf x=[a,b,c]∧a.cps.size=1∧figs 57 a=true∧wdOf a=[g]∧NumX b lo∧c.cps.size≠0∧figs 57 c=true∧wdOf c=tab
 g2:2≤g
 g9:g≤9
 ok:TabOk g (tab.map V.int)
structure RuleT (H:Hp) (r:Addr) (g lo:Int) (tab:List Int):Prop where
 rv:RuleV H r g lo tab
 g2:2≤g
 g9:g≤9
 ok:TabOk g (tab.map V.int)
 tb:∀ n∈tab,0≤n∧n<g
 far:lo.natAbs<10^130
end L2
namespace L2
open PySem PySem.Spec PyProof.Rows RW
theorem rowW_head (x:Int→Int) (lo:Int) (m:Nat):rowW x lo (m+1)=x lo::rowW x (lo+1) m:=by
 unfold rowW
 rw [List.range_succ_eq_map,List.map_cons,List.map_map]
 congr 1
 ·congr 1;show lo+((0:Nat):Int)=lo;lia
 ·refine List.map_congr_left fun j _=>?_
  show x (lo+((j+1:Nat):Int))=x (lo+1+(j:Int))
  congr 1;lia
theorem rowW_last (x:Int→Int) (lo:Int) (m:Nat):rowW x lo (m+1)=rowW x lo m++[x (lo+(m:Int))]:=by
 unfold rowW
 rw [List.range_succ,List.map_append];rfl
theorem pow_s (g:Int) (m:Nat):g^(m+1)=g^m*g:=Int.pow_succ ..
theorem first_free {g:Int} (hg:2≤g) {tab:List Int} {m h:Nat} (hl:(tab.length:Int)=g^(m+1)) (hh:(h:Int)=g^m):cntB g tab (g^m)=false↔∀ k,k<tab.length→tab.getD k 0=tab.getD (k%h) 0:=by
 have key:∀ k:Nat,k<tab.length→((k:Int) - (k:Int) / g^m%g*g^m).toNat=k%h:=fun k hk=>by
  have gp:=RW.pow_pos hg m
  rw [←hh]
  have k1:(k:Int)<(h:Int)*g:=by rw [hh,←pow_s];lia
  have d1:(k:Int) / (h:Int)<g:=Int.ediv_lt_of_lt_mul (by lia) (by rw [Int.mul_comm];exact k1)
  have d0:0≤(k:Int) / (h:Int):=Int.ediv_nonneg (by lia) (by lia)
  rw [Int.emod_eq_of_lt d0 d1]
  have e:=Int.emod_def (k:Int) (h:Int)
  rw [Int.mul_comm ((k:Int) / (h:Int)) (h:Int),←e]
  lia
 constructor
 ·intro hc k hk
  have:=cntB_false hc hk
  rw [key k hk] at this
  exact this
 ·intro ha
  cases z:cntB g tab (g^m) with
  | false=>rfl
  | true =>
   obtain ⟨k,hk,ne⟩:=cntB_true.mp z
   rw [key k hk] at ne
   exact absurd (ha k hk) ne
theorem last_free {g:Int} {tab:List Int} {G:Nat} (hG:(G:Int)=g):cntB g tab 1=false↔∀ k,k<tab.length→tab.getD k 0=tab.getD (k - k%G) 0:=by
 have key:∀ k:Nat,((k:Int) - (k:Int) / 1%g*1).toNat=k - k%G:=fun k=>by
  rw [←hG,Int.ediv_one,Int.mul_one]
  have:k%G≤k:=Nat.mod_le ..
  lia
 constructor
 ·intro hc k hk
  have:=cntB_false hc hk
  rw [key k] at this
  exact this
 ·intro ha
  cases z:cntB g tab 1 with
  | false=>rfl
  | true =>
   obtain ⟨k,hk,ne⟩:=cntB_true.mp z
   rw [key k] at ne
   exact absurd (ha k hk) ne
theorem getD_take {l:List Int} {n k:Nat} (h:k<n):(l.take n).getD k 0=l.getD k 0:=by
 rw [List.getD_eq_getElem?_getD,List.getElem?_take,if_pos h,List.getD_eq_getElem?_getD]
theorem cut_first {g:Int} (hg:2≤g) (lo:Int) {tab:List Int} {m h:Nat} (hl:(tab.length:Int)=g^(m+1)) (hh:(h:Int)=g^m) (ha:∀ k,k<tab.length→tab.getD k 0=tab.getD (k%h) 0):AlikeR g (lo+1) (tab.take h) m lo tab (m+1):=by
 intro x hx
 unfold fnR
 have b:=num_lt hg (rowW_lt hx (lo+1) m)
 have b2:=num_lt hg (rowW_lt hx lo (m+1))
 rw [rowW_len] at b b2
 rw [ha (num g (rowW x lo (m+1))).toNat (by lia),getD_take (by lia)]
 congr 1
 have e:num g (rowW x lo (m+1))=x lo*(h:Int)+num g (rowW x (lo+1) m):=by
  rw [rowW_head,show x lo::rowW x (lo+1) m=[x lo]++rowW x (lo+1) m from rfl,num_append,num_one,rowW_len,hh]
 have m1:num g (rowW x lo (m+1))%(h:Int)=num g (rowW x (lo+1) m):=by
  rw [e,Int.add_comm,Int.mul_comm,Int.add_mul_emod_self_left,Int.emod_eq_of_lt b.1 (by lia)]
 have m2:(((num g (rowW x lo (m+1))).toNat%h:Nat):Int)=num g (rowW x lo (m+1))%(h:Int):=by
  rw [Int.natCast_emod,Int.toNat_of_nonneg b2.1]
 lia
theorem cut_last {g:Int} (hg:2≤g) (lo:Int) {tab:List Int} {m h G:Nat} (hl:(tab.length:Int)=g^(m+1)) (hh:(h:Int)=g^m) (hG:(G:Int)=g) (ha:∀ k,k<tab.length→tab.getD k 0=tab.getD (k - k%G) 0):AlikeR g lo ((List.range h).map fun i=>tab.getD (i*G) 0) m lo tab (m+1):=by
 intro x hx
 unfold fnR
 have b:=num_lt hg (rowW_lt hx lo m)
 have b2:=num_lt hg (rowW_lt hx lo (m+1))
 rw [rowW_len] at b b2
 have hxz:=hx (lo+(m:Int))
 rw [ha (num g (rowW x lo (m+1))).toNat (by lia),getD_map_range (by lia)]
 congr 1
 have e:num g (rowW x lo (m+1))=num g (rowW x lo m)*g+x (lo+(m:Int)):=by rw [rowW_last,num_snoc]
 generalize num g (rowW x lo m)=n at *
 generalize num g (rowW x lo (m+1))=n2 at *
 generalize x (lo+(m:Int))=y at *
 obtain ⟨n',rfl⟩:∃ n':Nat,n=(n':Int):=⟨n.toNat,by lia⟩
 obtain ⟨y',rfl⟩:∃ y':Nat,y=(y':Int):=⟨y.toNat,by lia⟩
 have e2:n2=((n'*G+y':Nat):Int):=by rw [e,←hG];simp
 rw [e2,Int.toNat_natCast,Int.toNat_natCast]
 have:(n'*G+y')%G=y':=by rw [Nat.mul_comm,Nat.mul_add_mod,Nat.mod_eq_of_lt (by lia)]
 lia
theorem nar_ends {g lo:Int} {tab:List Int} {m:Nat} (hm:1≤m) (c0:cntB g tab (g^(m - 1))=true) (c1:cntB g tab 1=true):NarW g lo tab m lo m :=
 ⟨hm,fun j hj _=>by lia,.inr ⟨0,m - 1,by lia,by lia,by lia,by lia,by rw [Nat.sub_zero];exact c0,by rw [Nat.sub_self,Int.pow_zero];exact c1⟩⟩
theorem nar_none {g lo:Int} {tab:List Int} (c:cntB g tab 1=false):NarW g lo tab 1 0 1 :=
 have f:∀ j,j<1→cntB g tab (g^(1 - 1 - j))=false:=fun j hj=>by
  have:j=0:=by lia
  subst this
  rw [Nat.sub_zero,Nat.sub_self,Int.pow_zero]
  exact c
 ⟨Nat.le_refl _,fun j hj hc=>absurd hc (by rw [f j hj];decide),.inl ⟨f,rfl,rfl⟩⟩
theorem nar_is {g:Int} (hg:2≤g) {lo lo':Int} {tab tab':List Int} {m m':Nat} (hl:(tab.length:Int)=g^m) (hl':(tab'.length:Int)=g^m') (al:AlikeR g lo' tab' m' lo tab m) (n':NarW g lo' tab' m' lo' m') {low:Int} {M:Nat} (n:NarW g lo tab m low M):low=lo'∧M=m'∧bwT g lo tab m low M=tab':=by
 obtain ⟨e1,e2⟩:=(alike_narrow hg hl' hl n' n).mp al
 rw [bwT_self hg lo' hl'] at e2
 refine ⟨e1.symm,?_,e2.symm⟩
 have a:=bwT_len hg lo tab m low M
 rw [←e2,hl'] at a
 exact (pow_inj hg a).symm
theorem nar_is0 {g:Int} (hg:2≤g) {lo lo':Int} {tab tab':List Int} {m:Nat} (hl:(tab.length:Int)=g^m) (hl':(tab'.length:Int)=g^1) (al:AlikeR g lo' tab' 1 lo tab m) (c:cntB g tab' 1=false) {low:Int} {M:Nat} (n:NarW g lo tab m low M):low=0∧M=1∧bwT g lo tab m low M=tab':=by
 obtain ⟨e1,e2⟩:=(alike_narrow hg hl' hl (nar_none c) n).mp al
 have a:=bwT_len hg lo tab m low M
 rw [←e2,bwT_len hg] at a
 have hM:=(pow_inj hg a).symm
 subst hM
 refine ⟨e1.symm,rfl,?_⟩
 rw [←e2]
 have f:∀ j,j<1→cntB g tab' (g^(1 - 1 - j))=false:=fun j hj=>by
  have:j=0:=by lia
  subst this
  rw [Nat.sub_zero,Nat.sub_self,Int.pow_zero]
  exact c
 have g1:g^1=g:=by rw [Int.pow_succ,Int.pow_zero,Int.one_mul]
 refine list_eq_getD (by have:=bwT_len hg lo' tab' 1 0 1;lia) fun k hk=>?_
 have lk:(k:Int)<g^1:=by have:=bwT_len hg lo' tab' 1 0 1;lia
 rw [bwT_none hg hl' f]
 obtain ⟨G,hG⟩:∃ G:Nat,(G:Int)=g:=⟨g.toNat,by lia⟩
 have z:=(last_free hG).mp c k (by lia)
 rw [Nat.mod_eq_of_lt (by lia),Nat.sub_self] at z
 rw [z,List.getD_eq_getElem?_getD,List.getElem?_replicate,if_pos (by lia)]
 rfl
theorem rep_get (ns:List Int):∀ (q i:Nat),i<q*ns.length→((List.replicate q ns).flatten).getD i 0=ns.getD (i%ns.length) 0
 | 0,i,h=>by lia
 | q+1,i,h=>by
  rw [Nat.succ_mul] at h
  rw [List.replicate_succ,List.flatten_cons]
  by_cases c:i<ns.length
  ·rw [Nat.mod_eq_of_lt c,List.getD_eq_getElem?_getD,List.getD_eq_getElem?_getD,List.getElem?_append_left c]
  ·rw [List.getD_eq_getElem?_getD,List.getElem?_append_right (by lia),←List.getD_eq_getElem?_getD,rep_get ns q (i - ns.length) (by lia),←Nat.mod_eq_sub_mod (by lia)]
theorem rep_len (q:Nat) (ns:List Int):((List.replicate q ns).flatten).length=q*ns.length:=by
 rw [List.length_flatten,List.map_replicate,List.sum_replicate_nat]
theorem first_rep {tab:List Int} {h G:Nat} (hl:tab.length=h*G) (G1:1≤G):tab=(List.replicate G (tab.take h)).flatten↔∀ k,k<tab.length→tab.getD k 0=tab.getD (k%h) 0:=by
 have hG:h≤h*G:=Nat.le_mul_of_pos_right h G1
 have tl:(tab.take h).length=h:=by rw [List.length_take];lia
 have key:∀ k,k<tab.length→((List.replicate G (tab.take h)).flatten).getD k 0=tab.getD (k%h) 0:=fun k hk=>by
  rw [rep_get _ _ _ (by rw [tl,Nat.mul_comm];lia),tl]
  refine getD_take (Nat.mod_lt _ ?_)
  rcases Nat.eq_zero_or_pos h with z | z
  ·rw [z,Nat.zero_mul] at hl;lia
  ·exact z
 constructor
 ·intro e k hk
  rw [←key k hk,←e]
 ·intro a
  refine list_eq_getD (by rw [rep_len,tl,Nat.mul_comm];exact hl) fun k hk=>?_
  rw [key k hk];exact a k hk
theorem last_rep {tab:List Int} {G:Nat}:tab=(List.range tab.length).map (fun k=>tab.getD (k - k%G) 0)↔∀ k,k<tab.length→tab.getD k 0=tab.getD (k - k%G) 0:=by
 constructor
 ·intro e k hk
  have:tab.getD k 0=((List.range tab.length).map (fun k=>tab.getD (k - k%G) 0)).getD k 0:=congrArg (fun l=>l.getD k 0) e
  rw [this,getD_map_range hk]
 ·intro a
  refine list_eq_getD (by rw [List.length_map,List.length_range]) fun k hk=>?_
  rw [getD_map_range hk];exact a k hk
theorem first_stays {tab:List Int} {h G:Nat} (G1:1≤G) (hl:tab.length=h*G*G) (hu:∀ k,k<tab.length→tab.getD k 0=tab.getD (k - k%G) 0)
  (hc:∀ i,i<h*G→((List.range (h*G)).map fun i=>tab.getD (i*G) 0).getD i 0=((List.range (h*G)).map fun i=>tab.getD (i*G) 0).getD (i%h) 0):∀ k,k<tab.length→tab.getD k 0=tab.getD (k%(h*G)) 0:=by
 intro k hk
 have kl:k / G<h*G:=Nat.div_lt_of_lt_mul (by rw [Nat.mul_comm];lia)
 have h1:1≤h:=by
  rcases Nat.eq_zero_or_pos h with z | z
  ·rw [z,Nat.zero_mul] at kl;exact absurd kl (Nat.not_lt_zero _)
  ·exact z
 have hb:k / G%h<h:=Nat.mod_lt _ h1
 have hh:h≤h*G:=Nat.le_mul_of_pos_right h G1
 have a:=hc (k / G) kl
 rw [getD_map_range kl,getD_map_range (by lia)] at a
 have e1:k - k%G=k / G*G:=by have:=Nat.div_add_mod k G;rw [Nat.mul_comm] at this;lia
 have e2:k%(h*G)=k%G+G*(k / G%h):=by rw [Nat.mul_comm h G,Nat.mod_mul]
 have e3:k%(h*G)%G=k%G:=Nat.mod_mul_left_mod ..
 have e4:k%(h*G) - k%(h*G)%G=k / G%h*G:=by rw [e3,e2,Nat.mul_comm G];lia
 rw [hu k hk,e1,a,hu (k%(h*G)) (Nat.lt_of_le_of_lt (Nat.mod_le ..) hk),e4]
def FrameW (g lo:Int) (tab:List Int) (m:Nat) (lf:Int) (tf:List Int) (mf:Nat):Prop:=∃ (low:Int) (M:Nat),NarW g lo tab m low M∧lf=low∧((M=1∧mf=2∧tf=bwT g low (bwT g lo tab m low 1) 1 low 2)∨(2≤M∧mf=M∧tf=bwT g lo tab m low M))
theorem nar_uniq {g:Int} (hg:2≤g) {lo:Int} {tab:List Int} {m:Nat} (hl:(tab.length:Int)=g^m) {low low':Int} {M M':Nat} (n:NarW g lo tab m low M) (n':NarW g lo tab m low' M'):low=low'∧M=M':=by
 obtain ⟨e1,e2⟩:=(alike_narrow hg hl hl n n').mp fun _ _=>rfl
 refine ⟨e1,?_⟩
 have a:=bwT_len hg lo tab m low M
 rw [e2,bwT_len hg] at a
 exact (pow_inj hg a).symm
theorem nar_ex (g lo:Int) (tab:List Int) (m:Nat):∃ low M,NarW g lo tab m low M:=by
 by_cases hc:countL g lo tab m=[]
 ·exact ⟨0,1,narW_nil hc⟩
 ·obtain ⟨M,_,_,hW⟩:=narW_some hc
  exact ⟨_,M,hW⟩
theorem frame_wide {g:Int} (hg:2≤g) {lo lo':Int} {tab tab':List Int} {m m':Nat} (hl:(tab.length:Int)=g^m) (hl':(tab'.length:Int)=g^m') (al:AlikeR g lo' tab' m' lo tab m) (h2:2≤m') (c0:cntB g tab' (g^(m' - 1))=true) (c1:cntB g tab' 1=true):FrameW g lo tab m lo' tab' m':=by
 obtain ⟨low,M,n⟩:=nar_ex g lo tab m
 obtain ⟨rfl,rfl,e⟩:=nar_is hg hl hl' al (nar_ends (by lia) c0 c1) n
 exact ⟨_,_,n,rfl,.inr ⟨h2,rfl,e.symm⟩⟩
theorem frame_one {g:Int} (hg:2≤g) {lo lo':Int} {tab tab':List Int} {m:Nat} (hl:(tab.length:Int)=g^m) (hl':(tab'.length:Int)=g^1) (al:AlikeR g lo' tab' 1 lo tab m) (c1:cntB g tab' 1=true):FrameW g lo tab m lo' (bwT g lo' tab' 1 lo' 2) 2:=by
 obtain ⟨low,M,n⟩:=nar_ex g lo tab m
 obtain ⟨rfl,rfl,e⟩:=nar_is hg hl hl' al (nar_ends (Nat.le_refl _) (by rw [Nat.sub_self,Int.pow_zero];exact c1) c1) n
 exact ⟨_,_,n,rfl,.inl ⟨rfl,rfl,by rw [e]⟩⟩
theorem frame_none {g:Int} (hg:2≤g) {lo lo':Int} {tab tab':List Int} {m:Nat} (hl:(tab.length:Int)=g^m) (hl':(tab'.length:Int)=g^1) (al:AlikeR g lo' tab' 1 lo tab m) (c1:cntB g tab' 1=false):FrameW g lo tab m 0 (bwT g 0 tab' 1 0 2) 2:=by
 obtain ⟨low,M,n⟩:=nar_ex g lo tab m
 obtain ⟨rfl,rfl,e⟩:=nar_is0 hg hl hl' al c1 n
 exact ⟨_,_,n,rfl,.inl ⟨rfl,rfl,by rw [e]⟩⟩
theorem bw_two {g:Int} (hg:2≤g) {G:Nat} (hG:(G:Int)=g) (x:Int) (T:List Int):bwT g x T 1 x 2=(List.range (G*G)).map fun k=>T.getD (k / G) 0:=by
 have g22:g^2=((G*G:Nat):Int):=by rw [show (2:Nat)=0+1+1 from rfl,Int.pow_succ,Int.pow_succ,Int.pow_zero,Int.one_mul,←hG,Int.natCast_mul]
 have hL:=bwT_len hg x T 1 x 2
 refine list_eq_getD (by rw [List.length_map,List.length_range];lia) fun k hk=>?_
 have hk2:k<G*G:=by lia
 rw [getD_map_range hk2]
 unfold bwT
 rw [getD_map_range (by lia)]
 congr 1
 have e:bwW (wordL g (k:Int) 2) (x - x) 1=[((k / G:Nat):Int)]:=by
  obtain ⟨a,b,hw,ha,hb⟩:∃ a b:Int,wordL g (k:Int) 2=[a,b]∧a=(k:Int) / g%g∧b=(k:Int)%g:=⟨_,_,rfl,rfl,rfl⟩
  rw [hw]
  show [sn [a,b] (x - x+((0:Nat):Int))]=_
  rw [show x - x+((0:Nat):Int)=0 by lia]
  show [a]=_
  rw [ha,←hG,←Int.natCast_ediv,←Int.natCast_emod,Nat.mod_eq_of_lt (Nat.div_lt_of_lt_mul hk2)]
 rw [e,num_one,Int.toNat_natCast]
theorem FrameW.two {g lo:Int} {tab:List Int} {m:Nat} {lf:Int} {tf:List Int} {mf:Nat} (h:FrameW g lo tab m lf tf mf):2≤mf:=by
 obtain ⟨low,M,_,_,z | z⟩:=h
 ·lia
 ·lia
def spFrame (CT:Addr):Sp:=fun vs H Q E=>∃ (r:Addr) (g lo:Int) (tab:List Int) (m:Nat) (lf:Int) (tf:List Int) (mf:Nat),vs=[.ref r]∧RuleOk H r g lo tab m∧FrameW g lo tab m lf tf mf∧(g^(mf - 1)≤9→∀ r' H',Same H H'→RuleOk H' r' g lf tf mf→Q (.ref r') H')∧(9<g^(mf - 1)→∀ H',Same H H'→E (.ref CT) none H')
structure CutW (g lo:Int) (tab:List Int) (m:Nat) (lo':Int) (tab':List Int) (m':Nat):Prop where
 m1:1≤m'
 le:m'≤m
 len:(tab'.length:Int)=g^m'
 tb:∀ n∈tab',0≤n∧n<g
 al:AlikeR g lo' tab' m' lo tab m
section
variable {g:Int} (g2:2≤g) {lo:Int} {tab:List Int} {m:Nat} {lo':Int} {tab':List Int} {m':Nat} (c:CutW g lo tab m lo' tab' m')
include g2 c
theorem CutW.half:((tab'.length / g.toNat:Nat):Int)=g^(m' - 1)∧tab'.length=tab'.length / g.toNat*g.toNat:=heads_is g2 c.len c.m1
theorem CutW.first (h2:2≤m') (e:tab'=(List.replicate g.toNat (tab'.take (tab'.length / g.toNat))).flatten):CutW g lo tab m (lo'+1) (tab'.take (tab'.length / g.toNat)) (m' - 1):=by
 have hh:=c.half g2
 have gl:=(first_rep hh.2 (by lia)).mp e
 obtain ⟨k,rfl⟩:∃ k,m'=k+1:=⟨m' - 1,by lia⟩
 rw [Nat.add_sub_cancel] at hh
 have cf:=cut_first g2 lo' c.len hh.1 gl
 refine ⟨by lia,by have:=c.le;lia,?_,fun n hn=>c.tb n (List.mem_of_mem_take hn),fun x hx=>(cf x hx).trans (c.al x hx)⟩
 rw [List.length_take,Nat.min_eq_left (Nat.div_le_self ..)]
 exact hh.1
theorem CutW.first_counts (e:¬ tab'=(List.replicate g.toNat (tab'.take (tab'.length / g.toNat))).flatten):cntB g tab' (g^(m' - 1))=true:=by
 have hh:=c.half g2
 have m1:=c.m1
 have hl:=c.len
 obtain ⟨k,rfl⟩:∃ k,m'=k+1:=⟨m' - 1,by lia⟩
 cases z:cntB g tab' (g^(k+1 - 1)) with
 | true=>rfl
 | false=>exact absurd ((first_rep hh.2 (by lia)).mpr ((first_free g2 hl hh.1).mp z)) e
theorem CutW.last (h2:2≤m') (e:tab'=(List.range tab'.length).map fun k=>tab'.getD (k - k%g.toNat) 0):CutW g lo tab m lo' ((List.range (tab'.length / g.toNat)).map fun i=>tab'.getD (i*g.toNat) 0) (m' - 1):=by
 have hh:=c.half g2
 have gl:=last_rep.mp e
 obtain ⟨k,rfl⟩:∃ k,m'=k+1:=⟨m' - 1,by lia⟩
 rw [Nat.add_sub_cancel] at hh
 have cf:=cut_last g2 lo' c.len hh.1 (show ((g.toNat:Nat):Int)=g by lia) gl
 refine ⟨by lia,by have:=c.le;lia,?_,fun n hn=>?_,fun x hx=>(cf x hx).trans (c.al x hx)⟩
 ·rw [List.length_map,List.length_range]
  exact hh.1
 ·obtain ⟨i,hi,rfl⟩:=List.mem_map.mp hn
  exact getD_lt g2 c.tb _
theorem CutW.last_counts (e:¬ tab'=(List.range tab'.length).map fun k=>tab'.getD (k - k%g.toNat) 0):cntB g tab' 1=true:=by
 cases z:cntB g tab' 1 with
 | true=>rfl
 | false=>exact absurd (last_rep.mpr ((last_free (show ((g.toNat:Nat):Int)=g by lia)).mp z)) e
theorem CutW.stays (h2:3≤m') (e:tab'=(List.range tab'.length).map fun k=>tab'.getD (k - k%g.toNat) 0) (h:cntB g tab' (g^(m' - 1))=true):cntB g ((List.range (tab'.length / g.toNat)).map fun i=>tab'.getD (i*g.toNat) 0) (g^(m' - 1 - 1))=true:=by
 have d:=c.last g2 (by lia) e
 have hh:=c.half g2
 have hd:=d.half g2
 have G1:1≤g.toNat:=by lia
 rw [List.length_map,List.length_range] at hd
 obtain ⟨H,hH⟩:∃ H,H=tab'.length / g.toNat / g.toNat:=⟨_,rfl⟩
 rw [←hH] at hd
 cases z:cntB g ((List.range (tab'.length / g.toNat)).map fun i=>tab'.getD (i*g.toNat) 0) (g^(m' - 1 - 1)) with
 | true=>rfl
 | false =>
  exfalso
  have dl:=d.len
  obtain ⟨k,rfl⟩:∃ k,m'=k+1+1:=⟨m' - 2,by lia⟩
  have q:=(first_free g2 (m:=k) (h:=H) dl hd.1).mp z
  rw [List.length_map,List.length_range,hd.2] at q
  have s:=first_stays G1 (by rw [←hd.2];exact hh.2) (last_rep.mp e) q
  rw [←hd.2] at s
  have f:=(first_free g2 c.len hh.1).mpr s
  have h':cntB g tab' (g^(k+1))=true:=h
  rw [f] at h'
  cases h'
theorem CutW.frame (hl:(tab.length:Int)=g^m) (h2:2≤m') (c0:cntB g tab' (g^(m' - 1))=true) (c1:cntB g tab' 1=true):FrameW g lo tab m lo' tab' m':=frame_wide g2 hl c.len c.al h2 c0 c1
theorem CutW.frame1 (hl:(tab.length:Int)=g^m) (h1:m'=1) (x:Int) (e:tab'=List.replicate g.toNat (tab'.getD 0 0)→x=0) (ne:¬ tab'=List.replicate g.toNat (tab'.getD 0 0)→x=lo'):FrameW g lo tab m x ((List.range (g.toNat*g.toNat)).map fun k=>tab'.getD (k / g.toNat) 0) 2:=by
 subst h1
 have gn:((g.toNat:Nat):Int)=g:=by lia
 have g1:g^1=g:=by rw [Int.pow_succ,Int.pow_zero,Int.one_mul]
 have hl':=c.len
 have key:tab'=List.replicate g.toNat (tab'.getD 0 0)↔cntB g tab' 1=false:=by
  rw [last_free gn]
  constructor
  ·intro y k hk
   obtain ⟨v,hv⟩:∃ v,v=tab'.getD 0 0:=⟨_,rfl⟩
   rw [←hv] at y
   rw [Nat.mod_eq_of_lt (by lia),Nat.sub_self,←hv,y,List.getD_eq_getElem?_getD,List.getElem?_replicate,if_pos (by lia)]
   rfl
  ·intro y
   refine list_eq_getD (by rw [List.length_replicate];lia) fun k hk=>?_
   have z:=y k hk
   rw [Nat.mod_eq_of_lt (by lia),Nat.sub_self] at z
   rw [z,List.getD_eq_getElem?_getD,List.getD_eq_getElem?_getD,List.getElem?_replicate,if_pos (by lia)]
   rfl
 rw [←bw_two g2 gn x tab']
 cases z:cntB g tab' 1 with
 | false=>rw [e (key.mpr z)];exact frame_none g2 hl c.len c.al z
 | true =>
  rw [ne (fun y=>by rw [key.mp y] at z;cases z)]
  exact frame_one g2 hl c.len c.al z
end
theorem rsz_cut {g:Int} (g2:2≤g) {n h:Nat} (hn:n=h*g.toNat) (h1:1≤h):rsz 0 (n:Int) g=h:=by
 have e:(n:Int)=(h:Int)*g:=by rw [hn,Int.natCast_mul,show ((g.toNat:Nat):Int)=g by lia]
 have k:(h:Int)*g=g*((h:Int) - 1)+g:=by rw [Int.mul_sub,Int.mul_one,Int.mul_comm];lia
 have p:0≤g*((h:Int) - 1):=Int.mul_nonneg (by lia) (by lia)
 unfold rsz
 rw [if_pos (by lia),show (n:Int) - 0 - 1=g - 1+g*((h:Int) - 1) by lia,Int.add_mul_ediv_left _ _ (by lia),Int.ediv_eq_zero_of_lt (by lia) (by lia)]
 lia
theorem FrameW.le {g:Int} (hg:2≤g) {lo:Int} {tab:List Int} {m:Nat} {lf:Int} {tf:List Int} {mf:Nat} (fw:FrameW g lo tab m lf tf mf) (hl:(tab.length:Int)=g^m) {lo':Int} {tab':List Int} {m':Nat} (hl':(tab'.length:Int)=g^m') (al:AlikeR g lo tab m lo' tab' m'):mf≤max 2 m':=by
 obtain ⟨low,M,n,rfl,z⟩:=fw
 obtain ⟨low',M',n'⟩:=nar_ex g lo' tab' m'
 obtain ⟨e1,e2⟩:=(alike_narrow hg hl hl' n n').mp al
 have a:=bwT_len hg lo tab m lf M
 rw [e2,bwT_len hg] at a
 have eM:=pow_inj hg a
 have:M'≤max 1 m':=by
  rcases n'.ends with ⟨_,_,y⟩ | ⟨j0,j1,_,_,_,_,_,_⟩ <;> lia
 rcases z with z | z <;> lia
end L2
namespace L2
def joinT (g:Int) (ta:List Int) (ma:Nat) (tb:List Int) (M:Nat):List Int:=(List.range (g^M).toNat).map fun n:Nat=>tb.getD (num g (ledL g ta ma (wordL g (n:Int) M))).toNat 0
theorem joinT_word {g:Int} (hg:2≤g) (ta:List Int) (ma:Nat) (tb:List Int) {w:List Int} (hb:∀ n∈w,0≤n∧n<g):(joinT g ta ma tb w.length).getD (num g w).toNat 0=tb.getD (num g (ledL g ta ma w)).toNat 0:=by
 have b:=num_lt hg hb
 unfold joinT
 rw [getD_map_range (by lia),show (((num g w).toNat:Nat):Int)=num g w by lia,wordL_num hg hb]
theorem ringW_win (ring:List Int) {M k m:Nat} (z:Int) (h:k+m≤M):((ringW ring M z).drop k).take m=ringW ring m (z+(k:Int)):=by
 unfold ringW
 rw [←List.map_drop,←List.map_take,range_drop_take _ _ _ h,List.map_map]
 refine List.map_congr_left fun j _=>?_
 show ringAt ring (z+((k+j:Nat):Int))=_
 congr 1
 lia
theorem ringL_join {g:Int} (hg:2≤g) (loa lob:Int) (ta:List Int) {ma:Nat} (tb:List Int) {mb:Nat} (hma:1≤ma) (hmb:1≤mb) {ring:List Int} (hb:∀ n∈ring,0≤n∧n<g) (h:1≤ring.length):ringL g (loa+lob) (joinT g ta ma tb (ma+mb - 1)) (ma+mb - 1) ring=ringL g lob tb mb (ringL g loa ta ma ring):=by
 unfold ringL
 rw [List.length_map,List.length_range]
 refine List.map_congr_left fun i _=>?_
 have wb:=ringW_lt hg hb (ma+mb - 1) ((i:Int)+(loa+lob))
 have e:=joinT_word hg ta ma tb wb
 rw [ringW_len] at e
 rw [e]
 congr 3
 refine list_eq_getD ?_ fun k hk=>?_
 ·rw [ledL_len,ringW_len,ringW_len];lia
 rw [ledL_len,ringW_len] at hk
 have e1:(ledL g ta ma (ringW ring (ma+mb - 1) ((i:Int)+(loa+lob)))).getD k 0=winS g ta ma (ringW ring (ma+mb - 1) ((i:Int)+(loa+lob))) k:=by
  unfold ledL
  exact getD_map_range (by rw [ringW_len];exact hk)
 have e2:(ringW ((List.range ring.length).map fun i:Nat=>ta.getD (num g (ringW ring ma ((i:Int)+loa))).toNat 0) mb ((i:Int)+lob)).getD k 0=ringAt ((List.range ring.length).map fun i:Nat=>ta.getD (num g (ringW ring ma ((i:Int)+loa))).toNat 0) ((i:Int)+lob+(k:Int)):=by
  unfold ringW
  exact getD_map_range (by lia)
 have e3:=ringAt_ringL (g:=g) (lo:=loa) (tab:=ta) (m:=ma) h ((i:Int)+lob+(k:Int))
 unfold ringL at e3
 rw [e1,e2,e3]
 unfold winS
 rw [ringW_win ring _ (by lia)]
 congr 4
 lia
end L2
namespace L2
open PySem PySem.Spec PyProof.Rows RW
theorem nar_ex27 (g lo:Int) (tab:List Int) (m:Nat):∃ low M,NarW g lo tab m low M:=by
 by_cases hc:countL g lo tab m=[]
 ·exact ⟨0,1,narW_nil hc⟩
 ·obtain ⟨M,_,_,hW⟩:=narW_some hc
  exact ⟨_,M,hW⟩
theorem nar_al27 {g:Int} (hg:2≤g) {lo:Int} {tab:List Int} {m:Nat} (hl:(tab.length:Int)=g^m) {low:Int} {M:Nat} (n:NarW g lo tab m low M):AlikeR g low (bwT g lo tab m low M) M lo tab m:=fun x hx=>fnR_bwT hg hl n.all hx
theorem ring_alike27 {g:Int} (hg:2≤g) {lo:Int} {tab:List Int} {m:Nat} {lo':Int} {tab':List Int} {m':Nat} (al:AlikeR g lo tab m lo' tab' m') {ring:List Int} (hb:∀ n∈ring,0≤n∧n<g):ringL g lo tab m ring=ringL g lo' tab' m' ring:=by
 unfold ringL
 refine List.map_congr_left fun i _=>?_
 have z:=al (fun z=>ringAt ring ((i:Int)+z)) fun z=>getD_lt hg hb _
 unfold fnR at z
 have e:∀ (l:Int) (k:Nat),rowW (fun z=>ringAt ring ((i:Int)+z)) l k=ringW ring k ((i:Int)+l):=fun l k=>by
  unfold rowW ringW
  refine List.map_congr_left fun j _=>?_
  show ringAt ring ((i:Int)+(l+(j:Int)))=_
  congr 1;lia
 rw [e,e] at z
 exact z
structure R3 where
 lo:Int
 t:List Int
 m:Nat
structure R3.Ok (g:Int) (r:R3):Prop where
 m1:1≤r.m
 len:(r.t.length:Int)=g^r.m
 tb:∀ n∈r.t,0≤n∧n<g
def R3.Al (g:Int) (a b:R3):Prop:=AlikeR g a.lo a.t a.m b.lo b.t b.m
theorem narR_ex (g:Int) (r:R3):∃ s:R3,NarW g r.lo r.t r.m s.lo s.m∧s.t=bwT g r.lo r.t r.m s.lo s.m:=by
 obtain ⟨low,M,n⟩:=nar_ex27 g r.lo r.t r.m
 exact ⟨⟨low,bwT g r.lo r.t r.m low M,M⟩,n,rfl⟩
noncomputable def narR (g:Int) (r:R3):R3:=Classical.choose (narR_ex g r)
section
variable {g:Int} (hg:2≤g)
include hg
end
def joinR (g:Int) (a b:R3):R3:=⟨a.lo+b.lo,joinT g a.t a.m b.t (a.m+b.m - 1),a.m+b.m - 1⟩
noncomputable def come (g:Int) (b:R3):Nat→R3
 | 0=>b
 | k+1=>narR g (joinR g (come g b k) b)
section
variable {g:Int} (hg:2≤g)
include hg
end
section
variable {g:Int} (hg:2≤g)
include hg
end
section
variable {g:Int} (hg:2≤g)
include hg
theorem R3.Al.row {r:R3} (ok:r.Ok g) {x:Int→Int}:Row g (fun z=>fnR g r.lo r.t r.m fun y=>x (z+y)):=fun z=>getD_lt hg ok.tb _
end
section
variable {g:Int} (g3:3≤g)
include g3
end
end L2
namespace L2
open PySem PySem.Spec PyProof.Rows RW
def words (g:Int) (m:Nat):List (List Int):=(List.range (g^m).toNat).map fun n:Nat=>wordL g (n:Int) m
structure LLV (H:Hp) (p:Addr) (ps:List Addr) (ws:List (List Int)):Prop where
 l:H p=some (.lst (ps.map V.ref))
 n:ps.length=ws.length
 e:∀ (k:Nat) (q:Addr) (w:List Int),ps[k]?=some q→ws[k]?=some w→H q=some (.lst (w.map V.int))
theorem LLV.same {H H':Hp} {p:Addr} {ps:List Addr} {ws:List (List Int)} (e:Same H H') (h:LLV H p ps ws):LLV H' p ps ws:=⟨e _ _ h.l,h.n,fun k q w h1 h2=>e _ _ (h.e k q w h1 h2)⟩
theorem LLV.take {H H':Hp} {p p':Addr} {ps:List Addr} {ws:List (List Int)} (h:LLV H p ps ws) (k:Nat) (e:Same H H') (hp:H' p'=some (.lst ((ps.map V.ref).take k))):LLV H' p' (ps.take k) (ws.take k):=by
 refine ⟨by rw [hp,List.map_take],by rw [List.length_take,List.length_take,h.n],fun j q w hq hw=>?_⟩
 rw [List.getElem?_take] at hq hw
 split at hq
 ·rename_i z
  rw [if_pos z] at hw
  exact e _ _ (h.e j q w hq hw)
 ·cases hq
end L2
namespace L2
open PySem PySem.Spec PyProof.Rows RW
end L2
namespace L2
open PySem PySem.Spec PyProof.Rows RW
def fitK (tab:List Int) (s:Int) (n:Nat):List Nat:=(List.range n).filter fun k=>decide (tab.getD k 0=s)
theorem FrameW.alike {g:Int} (hg:2≤g) {lo:Int} {tab:List Int} {m:Nat} (hl:(tab.length:Int)=g^m) {lf:Int} {tf:List Int} {mf:Nat} (fw:FrameW g lo tab m lf tf mf):AlikeR g lf tf mf lo tab m∧(tf.length:Int)=g^mf:=by
 obtain ⟨low,M,n,rfl,⟨rfl,rfl,rfl⟩ | ⟨h2,rfl,rfl⟩⟩:=fw
 ·refine ⟨fun x hx=>?_,bwT_len hg ..⟩
  rw [fnR_wide hg (bwT_len hg ..) (Int.le_refl _) (by lia) hx]
  exact nar_al27 hg hl n x hx
 ·exact ⟨nar_al27 hg hl n,bwT_len hg ..⟩
structure StV (H:Hp) (p:Addr) (ps:List Addr) (G:Nat) (tab:List Int) (h k0:Nat):Prop where
 l:H p=some (.lst (ps.map V.ref))
 n:ps.length=G
 e:∀ (s:Nat) (q:Addr),ps[s]?=some q→∃ ts:List Addr,H q=some (.lst (ts.map V.ref))∧ts.length=(fitK tab (s:Int) k0).length∧∀ (i:Nat) (t:Addr) (k:Nat),ts[i]?=some t→(fitK tab (s:Int) k0)[i]?=some k→H t=some (.tup [.int ((k / G:Nat):Int),.int ((k%h:Nat):Int)])
theorem StV.same {H H':Hp} {p:Addr} {ps:List Addr} {G:Nat} {tab:List Int} {h n:Nat} (s:Same H H') (v:StV H p ps G tab h n):StV H' p ps G tab h n:=⟨s _ _ v.l,v.n,fun k q hq=>by
 obtain ⟨ts,h1,h2,h3⟩:=v.e k q hq
 exact ⟨ts,s _ _ h1,h2,fun i t k a b=>s _ _ (h3 i t k a b)⟩⟩
end L2
namespace L2
open PySem PySem.Spec PyProof.Rows RW
def gainL (g:Int) (tab:List Int) (m:Nat) (ws:List Int) (mw:Nat):List Int:=(List.range ((g^(m - 1)).toNat*ws.length)).map fun n:Nat=>ws.getD (num g (ledL g tab m (wordL g (n:Int) (m+mw - 1)))).toNat 0 - ws.getD (n / (g^(m - 1)).toNat) 0
theorem gainL_len (g:Int) (tab:List Int) (m:Nat) (ws:List Int) (mw:Nat):(gainL g tab m ws mw).length=(g^(m - 1)).toNat*ws.length:=by unfold gainL;rw [List.length_map,List.length_range]
def wrongW (G:Nat) (gs fs:List Int) (n:Nat):Prop:=gs.getD n 0≠fs.getD (n / G) 0 - fs.getD (n%fs.length) 0
def rightW (G:Nat) (gs fs:List Int):Prop:=∀ n,n<gs.length→¬ wrongW G gs fs n
def spManyG:Sp:=fun vs H Q _=>∃ (r w:Addr) (g lo:Int) (tab:List Int) (m:Nat) (xs:List V),vs=[.ref r,.ref w]∧RuleOk H r g lo tab m∧H w=some (.lst xs)∧Q (.int (g^(m - 1)*(xs.length:Int))) H
def spGPlaces:Sp:=fun vs H Q _=>∃ (r w:Addr) (g lo:Int) (tab:List Int) (m mw:Nat) (xs:List V),vs=[.ref r,.ref w]∧RuleOk H r g lo tab m∧H w=some (.lst xs)∧(xs.length:Int)=g^mw∧Q (.int (((m+mw - 1:Nat)):Int)) H
def spGains:Sp:=fun vs H Q _=>∃ (r w:Addr) (g lo:Int) (tab:List Int) (m mw:Nat) (ws:List Int),vs=[.ref r,.ref w]∧RuleOk H r g lo tab m∧H w=some (.lst (ws.map V.int))∧(ws.length:Int)=g^mw∧1≤mw∧g^(m - 1)*(ws.length:Int)≤729∧∀ p H',NewL H H' p (gainL g tab m ws mw)→Q (.ref p) H'
def spFirstWrong:Sp:=fun vs H Q _=>∃ (p q:Addr) (g:Int) (gs fs:List Int),vs=[.int g,.ref p,.ref q]∧2≤g∧g≤9∧H p=some (.lst (gs.map V.int))∧H q=some (.lst (fs.map V.int))∧1≤fs.length∧gs.length=fs.length*g.toNat∧gs.length≤729∧(rightW g.toNat gs fs→∀ H',Same H H'→Q .non H')∧(∀ n,n<gs.length→wrongW g.toNat gs fs n→(∀ k,k<n→¬ wrongW g.toNat gs fs k)→∀ H',Same H H'→Q (.int ((n:Nat):Int)) H')
end L2
namespace L2
open PySem PySem.Spec PyProof.Rows RW
theorem ringW_snoc (ring:List Int) (k:Nat) (z:Int):ringW ring (k+1) z=ringW ring k z++[ringAt ring (z+(k:Int))]:=by
 unfold ringW
 rw [List.range_succ,List.map_append]
 rfl
theorem ringW_turn (ring:List Int) (k:Nat) {y z:Int} (h:y%(ring.length:Int)=z%(ring.length:Int)):ringW ring k y=ringW ring k z:=by
 unfold ringW
 refine List.map_congr_left fun j _=>ringAt_congr ?_
 rw [Int.add_emod,h,←Int.add_emod]
theorem ringL_sum (g lo:Int) (tab:List Int) (m:Nat) (ring:List Int):(ringL g lo tab m ring).sum=sumN ring.length fun i=>tab.getD (num g (ringW ring m ((i:Int)+lo))).toNat 0:=rfl
section
variable {g:Int} (hg:2≤g) {gs:List Int} {k:Nat} (hl:(gs.length:Int)=g^(k+1))
include hg hl
end
theorem cyc_nat {f:Int→Int} {n:Nat} (per:∀ z,f (z+(n:Int))=f z) (y:Int):∀ k:Nat,(sumN n fun i=>f ((i:Int)+y+(k:Int)))=sumN n fun i=>f ((i:Int)+y)
 | 0=>sumN_congr fun i _=>by rw [show (i:Int)+y+((0:Nat):Int)=(i:Int)+y by lia]
 | k+1=>by
  rw [←cyc_nat per y k]
  have a:=sumN_succ n fun i=>f ((i:Int)+y+(k:Int))
  have b:=sumN_split 1 n fun i=>f ((i:Int)+y+(k:Int))
  rw [Nat.add_comm 1 n,a] at b
  have c:(sumN 1 fun i=>f ((i:Int)+y+(k:Int)))=f ((n:Int)+y+(k:Int)):=by
   rw [show (1:Nat)=0+1 from rfl,sumN_succ,sumN_zero,Int.zero_add,←per]
   congr 1
   show ((0:Nat):Int)+y+(k:Int)+(n:Int)=_
   lia
  rw [c] at b
  have d:(sumN n fun i=>f ((i:Int)+y+((k+1:Nat):Int)))=sumN n fun i=>f (((1+i:Nat):Int)+y+(k:Int)):=sumN_congr fun i _=>by congr 1;lia
  rw [d]
  lia
theorem cyc_sum {f:Int→Int} {n:Nat} (per:∀ z,f (z+(n:Int))=f z) (y:Int):(sumN n fun i=>f ((i:Int)+y))=sumN n fun i=>f (i:Int):=by
 by_cases c:0≤y
 ·have:=cyc_nat per 0 y.toNat
  rw [Int.toNat_of_nonneg c] at this
  rw [show (sumN n fun i=>f (i:Int))=sumN n fun i=>f ((i:Int)+0) from sumN_congr fun i _=>by rw [Int.add_zero],←this]
  exact sumN_congr fun i _=>by rw [Int.add_zero]
 ·have:=cyc_nat per y (-y).toNat
  rw [Int.toNat_of_nonneg (by lia)] at this
  rw [←this]
  exact sumN_congr fun i _=>by congr 1;lia
theorem total_low (g lo:Int) (tab:List Int) (m:Nat) (ring:List Int):(ringL g lo tab m ring).sum=(ringL g 0 tab m ring).sum:=by
 rw [ringL_sum,ringL_sum]
 rw [cyc_sum (f:=fun z=>tab.getD (num g (ringW ring m z)).toNat 0) fun z=>by rw [ringW_turn ring m (y:=z+(ring.length:Int)) (z:=z) (by rw [Int.add_emod_right])]]
 exact sumN_congr fun i _=>by rw [Int.add_zero]
theorem total_led {g:Int} (hg:2≤g) (lo:Int) (tab:List Int) {m:Nat} (m1:1≤m) (ws:List Int) {mw:Nat} (w1:1≤mw) {ring:List Int} (hb:∀ x∈ring,0≤x∧x<g) (n1:1≤ring.length):(ringL g 0 ws mw (ringL g lo tab m ring)).sum=(ringL g 0 ws mw (ringL g 0 tab m ring)).sum:=by
 rw [←ringL_join hg lo 0 tab ws m1 w1 hb n1,←ringL_join hg 0 0 tab ws m1 w1 hb n1,total_low]
 rfl
end L2
namespace L2
open PySem PySem.Spec PyProof.Rows
def tMethX (C:Addr) (m:Str) (sp:Sp) (E:St→XK) (ta:TE) (t:TA):TE:=fun σ H Q=>ta σ H fun x H1=>∃ a dx fs,x=.ref a∧H1 a=some (.ins C dx fs)∧fs.lookup m=none∧t σ H1 fun vs H2=>sp (x::vs) H2 Q (E σ)
section
variable {X:Cx} {CX:CXT} {k:Nat} {f C:Addr} {fd:FuncData} {ps:List Str} {sp:Sp} {E:St→XK} {x m:Str} {p pos apos:Pos} {e o:Expr} {es:List Expr} {ta ta':TE} {t:TA}
theorem run_fnX {pins:List (Addr × Obj)} {σ:St} {H:Hp} {s:Shared} {Q:VK} {us:List Value} {vs:List V} (F:FnOk X.prog X.w X.K X.mg X.base CX k f fd ps sp) (hr:Room k X.A) (hb:Binds X.K fd ps []) (hx:PassesX CX X E)
  (I:Inv X pins σ H s) (r:Vals vs us) (h:sp vs H Q (E σ)):wpAny (model X.prog X.w) X.A (call (.ref f) us) (EP X pins σ Q) X.xe s:=by
 have hl:(us++[]).length=ps.length:=by rw [List.append_nil,←r.length];exact F.len _ _ _ _ h
 have hb':=hb s us I.kIn hl
 rw [List.append_nil] at hb'
 refine wpAny_call (codeAny_mono (F.run X.A X.stack s H ⟨us,[]⟩ us vs Q (E σ) hr I.env0 hb' r h) fun rs s2 hq=>?_)
 rcases rs with er | fl
 ·exact hx pins σ H s er s2 I hq
 ·cases fl with
  | ret u=>exact I.after hq
  | next=>exact False.elim hq
  | brk=>exact False.elim hq
  | cont=>exact False.elim hq
theorem pe_methH {pl:Sem Bool} (he:PE X o ta) (c:Cls X.K C) (hm:Meth X.K C m f) (G:Has X.prog X.w X.K X.mg X.base k f ps sp) (hr:Room k X.A) (hx:PassesX (CXF X.prog X.w) X E) (ha:PA X (e::es) t)
  (hst:starEach (e::es) X.env=(false,eval e X.env)::starEach es X.env:=by rfl) (hpl:(backTo pos (starEach es X.env)).any (·.1)=false:=by rfl)
  (ht:eval (.Call (.Attribute o m apos) (e::es) [] pos) X.env=(do
   let ov ←eval o X.env
   standAt apos.atName
   let (f,first) ←holding [ov] (getMethod ov m pl)
   callWith pos f first (backTo pos (starEach (e::es) X.env)) (backToKw pos (keywordEach [] X.env))):=by rfl) :
  PE X (.Call (.Attribute o m apos) (e::es) [] pos) (tMethX C m sp E ta t):=by
 obtain ⟨⟨fd,F,b⟩,kp⟩:=G
 intro pins s σ H Q I h
 refine PySem.W.methodCall_KW (pl:=pl) (thn (he pins s σ H _ I h) fun u s1 ⟨x,H1,I1,rx,a,dx,fs,ex,ea,l,q⟩=>?_) ht
 subst ex
 obtain rfl:u=Value.ref a:=rx
 refine getmeth_ok I1 ea c hm l ?_
 refine PySem.W.callWith_K (first:=[.ref a]) (h₀:=X.base) I.ok.mod.kin hm.kp (thn (ha pos pins s1 σ H1 _ I1 q) fun us s2 ⟨vs,H2,I2,r,q2⟩=>⟨I2.kIn,?_⟩) hst hpl
 exact run_fnX (us:=.ref a::us) (vs:=.ref a::vs) F hr b hx I2 (.cons rfl r) q2
theorem pe_meth0H {pl:Sem Bool} (he:PE X o ta) (c:Cls X.K C) (hm:Meth X.K C m f) (G:Has X.prog X.w X.K X.mg X.base k f ps sp) (hr:Room k X.A) (hx:PassesX (CXF X.prog X.w) X E)
  (ht:eval (.Call (.Attribute o m apos) [] [] pos) X.env=(do
   let ov ←eval o X.env
   standAt apos.atName
   let (f,first) ←holding [ov] (getMethod ov m pl)
   callWith pos f first (backTo pos (starEach [] X.env)) (backToKw pos (keywordEach [] X.env))):=by rfl) :
  PE X (.Call (.Attribute o m apos) [] [] pos) (tMethX C m sp E ta tNil):=by
 obtain ⟨⟨fd,F,b⟩,kp⟩:=G
 intro pins s σ H Q I h
 refine PySem.W.methodCall_KW (pl:=pl) (thn (he pins s σ H _ I h) fun u s1 ⟨x,H1,I1,rx,a,dx,fs,ex,ea,l,q⟩=>?_) ht
 subst ex
 obtain rfl:u=Value.ref a:=rx
 refine getmeth_ok I1 ea c hm l ?_
 exact PySem.W.callWith_K0 (first:=[.ref a]) I1.kIn hm.kp (run_fnX (us:=[.ref a]) (vs:=[.ref a]) F hr b hx I1 (.cons rfl .nil) q)
theorem passF0 {P:Program} {w:World}:Passes (CXF P w) X E0:=fun _ _ _ _ _ _ _ ⟨_,_,_,_,_,_,_,_,h⟩=>h.elim
theorem pe_makeH (M:Mk X.K C f) (G:Has X.prog X.w X.K X.mg X.base k f ps sp) (hr:Room (k+1) X.A) (hg:Gl X x) (hm:X.mg x=some (.ref C))
  (ha:PA X (e::es) t) (hdb:(x == ("__debug__":Str))=false:=by decide) (he:starEach (e::es) X.env=(false,eval e X.env)::starEach es X.env:=by rfl) (hpl:(backTo pos (starEach es X.env)).any (·.1)=false:=by rfl) :
  PE X (.Call (.Name x p) (e::es) [] pos) (tMake C sp [] E0 t):=by
 obtain ⟨⟨fd,F,b⟩,kp⟩:=G
 exact pe_make M F hr hg hm b .nil passF0 ha hdb he hpl
theorem pe_alt (h1:PE X e ta) (h2:PE X e ta'):PE X e (fun σ H Q=>ta σ H Q∨ta' σ H Q):=fun pins s σ H Q I h=>h.elim (fun q=>h1 pins s σ H Q I q) fun q=>h2 pins s σ H Q I q
end
theorem call_tuple_ofK {X:Cx} {K:PySem.W.Frag} (h:X.K=K):CallR X (.type "tuple") (fun xs H Q=>∃ p ys,xs=[.ref p]∧((SqL K H p ys∧∀ l,H l=none→Q (.ref l) (upd H l (.tup ys)))∨(SqT K H p ys∧Q (.ref p) H))):=by
 subst h
 exact call_tuple_of
structure ThK (K:PySem.W.Frag) (C:Addr):Prop where
 cl:Cls K C
 ca:PySem.W.findIn K (.ref C) "__class__"=some (some (.builtin "object.__class__"))
 sg:PySem.W.specialIn K (.builtin "object.__class__") "__get__"=some (some (.builtin "getset_descriptor.__get__"))
 tk:PySem.W.takesIn K (.builtin "object.__class__")=some true
 mo:PySem.W.mroIn K C (.type "object")=some true
theorem ThK.ty {K:PySem.W.Frag} {H:Hp} {a C dx:Addr} {fs:List (Str × V)} (t:ThK K C) (e:H a=some (.ins C dx fs)):TyE K H (.ref a) (.ref C):=.of (.ins e t.cl t.ca t.sg t.tk t.mo)
end L2
local macro_rules | `(tactic| walk_at "rd")=>`(tactic| simp only [L2.cxOf_K,L2.tr_K,L2.hdl_K,L2.tSeq,L2.tNext,L2.tIfS,L2.tTry,L2.tTest,L2.tOp,L2.tUn,L2.tVar,L2.tC,L2.tRaise,L2.tCons,L2.tNil,L2.tLst,L2.tTup,L2.tAsg,L2.gName,L2.tDrop,L2.tBM,L2.tyV,L2.rAppend,L2.tRet,L2.tRetN,L2.tLRev,L2.tLRevT,L2.cxB_K,L2.tAll,L2.fvs,Option.join_some,L2.tTryR,L2.trN_K,L2.tCB,L2.tCall,L2.tCallX,L2.tModComp,L2.tRaiseI,L2.tNewX,L2.tXat,L2.sXat,L2.tLRange,L2.rIsiT,L2.isI,L2.rEqL,L2.rNeL,
 L2.tNot,L2.tAnd,L2.tOr,L2.tB,L2.tAndV,L2.tOrV,L2.tNotV,L2.rI,L2.rI0,L2.rU,L2.rIsi,L2.clsV,L2.tSl,L2.tPart,L2.tNoPart,L2.start,L2.CDiv,L2.CMul,L2.CPow,L2.rEq,L2.rNe,L2.scal,
 List.map_cons,List.map_nil,List.length_cons,List.length_nil,List.cons_append,List.nil_append,List.replicate,List.getElem?_cons_zero,List.getElem?_cons_succ,List.set_cons_zero,List.set_cons_succ,Nat.reduceAdd,Nat.reduceSub,
 Option.some.injEq,L2.V.int.injEq,L2.V.bl.injEq,L2.V.ref.injEq,L2.V.str.injEq,List.cons.injEq,and_true,true_and,exists_eq_left',exists_eq_left,exists_eq_right,exists_and_left,exists_and_right,exists_eq,and_assoc,if_true,if_false,reduceIte,reduceCtorEq,not_true_eq_false,not_false_eq_true,Bool.false_eq_true,Bool.not_true,Bool.not_false,decide_eq_true_eq,Bool.not_eq_true',decide_eq_false_iff_not])
local macro_rules | `(tactic| walk_at "st0")=>`(tactic| simp only [L2.cxOf_K,L2.tr_K,L2.hdl_K,L2.tNext,L2.tTest,L2.tOp,L2.tUn,L2.tVar,L2.tC,L2.tRaise,L2.tCons,L2.tNil,L2.tLst,L2.tTup,L2.tAsg,L2.gName,L2.tDrop,L2.tBM,L2.tyV,L2.rAppend,L2.tRet,L2.tRetN,L2.tLRev,L2.tLRevT,L2.cxB_K,L2.tAll,L2.fvs,Option.join_some,L2.trN_K,L2.tCB,L2.tCall,L2.tCallX,L2.tModComp,L2.tRaiseI,L2.tNewX,L2.tXat,L2.sXat,L2.tLRange,L2.rIsiT,L2.isI,L2.rEqL,L2.rNeL,
 L2.tNot,L2.tAnd,L2.tOr,L2.tB,L2.tAndV,L2.tOrV,L2.tNotV,L2.rI,L2.rI0,L2.rU,L2.rIsi,L2.clsV,L2.tSl,L2.tPart,L2.tNoPart,L2.start,L2.CDiv,L2.CMul,L2.CPow,L2.rEq,L2.rNe,L2.scal,
 List.map_cons,List.map_nil,List.length_cons,List.length_nil,List.cons_append,List.nil_append,List.replicate,List.getElem?_cons_zero,List.getElem?_cons_succ,List.set_cons_zero,List.set_cons_succ,Nat.reduceAdd,Nat.reduceSub,
 Option.some.injEq,L2.V.int.injEq,L2.V.bl.injEq,L2.V.ref.injEq,L2.V.str.injEq,List.cons.injEq,and_true,true_and,exists_eq_left',exists_eq_left,exists_eq_right,exists_and_left,exists_and_right,exists_eq,and_assoc,if_true,if_false,reduceIte,reduceCtorEq,not_true_eq_false,not_false_eq_true,Bool.false_eq_true,Bool.not_true,Bool.not_false,decide_eq_true_eq,Bool.not_eq_true',decide_eq_false_iff_not])
local macro_rules | `(tactic| walk_at "st")=>`(tactic| ((try dsimp only);rw [L2.tSeq_step];simp only [L2.cxOf_K,L2.tr_K,L2.hdl_K,L2.tNext,L2.tTest,L2.tOp,L2.tUn,L2.tVar,L2.tC,L2.tRaise,L2.tCons,L2.tNil,L2.tLst,L2.tTup,L2.tAsg,L2.gName,L2.tDrop,L2.tBM,L2.tyV,L2.rAppend,L2.tRet,L2.tRetN,L2.tLRev,L2.tLRevT,L2.cxB_K,L2.tAll,L2.fvs,Option.join_some,L2.trN_K,L2.tCB,L2.tCall,L2.tCallX,L2.tModComp,L2.tRaiseI,L2.tNewX,L2.tXat,L2.sXat,L2.tLRange,L2.rIsiT,L2.isI,L2.rEqL,L2.rNeL,
 L2.tNot,L2.tAnd,L2.tOr,L2.tB,L2.tAndV,L2.tOrV,L2.tNotV,L2.rI,L2.rI0,L2.rU,L2.rIsi,L2.clsV,L2.tSl,L2.tPart,L2.tNoPart,L2.start,L2.CDiv,L2.CMul,L2.CPow,L2.rEq,L2.rNe,L2.scal,
 List.map_cons,List.map_nil,List.length_cons,List.length_nil,List.cons_append,List.nil_append,List.replicate,List.getElem?_cons_zero,List.getElem?_cons_succ,List.set_cons_zero,List.set_cons_succ,Nat.reduceAdd,Nat.reduceSub,
 Option.some.injEq,L2.V.int.injEq,L2.V.bl.injEq,L2.V.ref.injEq,L2.V.str.injEq,List.cons.injEq,and_true,true_and,exists_eq_left',exists_eq_left,exists_eq_right,exists_and_left,exists_and_right,exists_eq,and_assoc,if_true,if_false,reduceIte,reduceCtorEq,not_true_eq_false,not_false_eq_true,Bool.false_eq_true,Bool.not_true,Bool.not_false,decide_eq_true_eq,Bool.not_eq_true',decide_eq_false_iff_not]))
namespace K73
open PySem L2 RW
def top (i:Nat):Stmt:=PySem.Challenge.pw_rowrules_k73_papers_of_sums.main.body.getD i (.Pass ⟨0,0,0,0⟩)
abbrev s_7:Stmt:=inClass (top 3) 0
abbrev s_50:Stmt:=top 9
abbrev s_53:Stmt:=top 10
abbrev s_54:Stmt:=top 11
abbrev s_52:Stmt:=top 12
abbrev s_33:Stmt:=top 13
abbrev s_16:Stmt:=top 14
abbrev s_45:Stmt:=top 15
abbrev s_56:Stmt:=top 16
abbrev s_32:Stmt:=top 19
abbrev s_35:Stmt:=top 20
abbrev s_17:Stmt:=top 21
abbrev s_21:Stmt:=top 22
abbrev s_68:Stmt:=top 23
abbrev s_61:Stmt:=top 24
abbrev s_44:Stmt:=top 25
abbrev s_65:Stmt:=top 27
abbrev s_67:Stmt:=top 29
abbrev s_43:Stmt:=top 30
abbrev s_59:Stmt:=top 32
abbrev s_48:Stmt:=top 33
abbrev s_6:Stmt:=top 34
abbrev s_42:Stmt:=top 35
abbrev s_60:Stmt:=top 36
abbrev s_55:Stmt:=top 37
abbrev s_64:Stmt:=top 40
abbrev s_72:Stmt:=top 24
abbrev s_70:Stmt:=top 29
abbrev s_71:Stmt:=top 30
abbrev s_66:Stmt:=top 47
abbrev s_23:Stmt:=top 48
abbrev s_34:Stmt:=top 49
abbrev s_49:Stmt:=top 50
abbrev s_22:Stmt:=top 51
abbrev s_9:Stmt:=top 52
abbrev s_0:Stmt:=inClass (top 56) 0
abbrev s_4:Stmt:=inClass (top 56) 1
abbrev s_2:Stmt:=inClass (top 56) 2
abbrev s_1:Stmt:=inClass (top 57) 0
abbrev s_5:Stmt:=inClass (top 57) 1
abbrev s_3:Stmt:=inClass (top 57) 2
abbrev s_31:Stmt:=top 60
abbrev s_11:Stmt:=top 61
abbrev s_20:Stmt:=top 62
abbrev s_27:Stmt:=top 63
abbrev s_8:Stmt:=top 64
abbrev s_26:Stmt:=top 65
abbrev s_29:Stmt:=top 66
abbrev s_25:Stmt:=top 67
abbrev s_41:Stmt:=top 68
abbrev s_13:Stmt:=top 69
abbrev s_28:Stmt:=top 70
abbrev s_15:Stmt:=top 71
abbrev s_38:Stmt:=top 72
abbrev s_30:Stmt:=top 73
abbrev s_12:Stmt:=top 74
abbrev s_40:Stmt:=top 75
abbrev s_39:Stmt:=top 76
abbrev s_19:Stmt:=top 77
abbrev s_24:Stmt:=top 78
abbrev s_14:Stmt:=top 79
abbrev s_69:Stmt:=top 80
structure Adr where
 (c_47 c_57 c_62 c_58 c_46 c_51 c_36 c_63 c_37 c_10 c_18:Addr)
 (f_7 f_50 f_53 f_54 f_52 f_33 f_16 f_45 f_56 f_32 f_35 f_17 f_21 f_68 f_61 f_44 f_65 f_67 f_43 f_59 f_48 f_6 f_42 f_60 f_55 f_64 f_66 f_23 f_34 f_49 f_22 f_9 f_0 f_4 f_2 f_1 f_5 f_3 f_31 f_11 f_20 f_27 f_8 f_26 f_29 f_25 f_41 f_13 f_28 f_15 f_38 f_30 f_12 f_40 f_39 f_19 f_24 f_14 f_69:Addr)
structure Txt (K:PySem.W.Frag) (mg:Str→Option Value) (t:Adr):Prop where
 m_47:mg "RowError"=some (.ref t.c_47)
 m_57:mg "NoRule"=some (.ref t.c_57)
 m_62:mg "NoRow"=some (.ref t.c_62)
 m_58:mg "NoSuch"=some (.ref t.c_58)
 m_46:mg "NoWindow"=some (.ref t.c_46)
 m_51:mg "TooWide"=some (.ref t.c_51)
 m_36:mg "NoWeights"=some (.ref t.c_36)
 m_63:mg "Paper"=some (.ref t.c_63)
 m_37:mg "OntoPaper"=some (.ref t.c_37)
 m_10:mg "KeepingPaper"=some (.ref t.c_10)
 m_18:mg "ChangePaper"=some (.ref t.c_18)
 d_7:∃ fd,Fun K "__init__" "NoRow.__init__" s_7 t.f_7 fd
 m_50:mg "is_whole"=some (.ref t.f_50)
 d_50:∃ fd,Fun K "is_whole" "is_whole" s_50 t.f_50 fd
 m_53:mg "is_sign"=some (.ref t.f_53)
 d_53:∃ fd,Fun K "is_sign" "is_sign" s_53 t.f_53 fd
 m_54:mg "is_word"=some (.ref t.f_54)
 d_54:∃ fd,Fun K "is_word" "is_word" s_54 t.f_54 fd
 m_52:mg "is_ring"=some (.ref t.f_52)
 d_52:∃ fd,Fun K "is_ring" "is_ring" s_52 t.f_52 fd
 m_33:mg "check_word"=some (.ref t.f_33)
 d_33:∃ fd,Fun K "check_word" "check_word" s_33 t.f_33 fd
 m_16:mg "check_length"=some (.ref t.f_16)
 d_16:∃ fd,Fun K "check_length" "check_length" s_16 t.f_16 fd
 m_45:mg "number_of"=some (.ref t.f_45)
 d_45:∃ fd,Fun K "number_of" "number_of" s_45 t.f_45 fd
 m_56:mg "word_of"=some (.ref t.f_56)
 d_56:∃ fd,Fun K "word_of" "word_of" s_56 t.f_56 fd
 m_32:mg "check_head"=some (.ref t.f_32)
 d_32:∃ fd,Fun K "check_head" "check_head" s_32 t.f_32 fd
 m_35:mg "places_for"=some (.ref t.f_35)
 d_35:∃ fd,Fun K "places_for" "places_for" s_35 t.f_35 fd
 m_17:mg "table_length"=some (.ref t.f_17)
 d_17:∃ fd,Fun K "table_length" "table_length" s_17 t.f_17 fd
 m_21:mg "check_table"=some (.ref t.f_21)
 d_21:∃ fd,Fun K "check_table" "check_table" s_21 t.f_21 fd
 m_68:mg "rule"=some (.ref t.f_68)
 d_68:∃ fd,Fun K "rule" "rule" s_68 t.f_68 fd
 m_61:mg "places"=some (.ref t.f_61)
 d_61:∃ fd,Fun K "places" "places" s_61 t.f_61 fd
 m_44:mg "next_sign"=some (.ref t.f_44)
 d_44:∃ fd,Fun K "next_sign" "next_sign" s_44 t.f_44 fd
 m_65:mg "heads"=some (.ref t.f_65)
 d_65:∃ fd,Fun K "heads" "heads" s_65 t.f_65 fd
 m_67:mg "lead"=some (.ref t.f_67)
 d_67:∃ fd,Fun K "lead" "lead" s_67 t.f_67 fd
 m_43:mg "lead_ring"=some (.ref t.f_43)
 d_43:∃ fd,Fun K "lead_ring" "lead_ring" s_43 t.f_43 fd
 m_59:mg "counts"=some (.ref t.f_59)
 d_59:∃ fd,Fun K "counts" "counts" s_59 t.f_59 fd
 m_48:mg "counting"=some (.ref t.f_48)
 d_48:∃ fd,Fun K "counting" "counting" s_48 t.f_48 fd
 m_6:mg "sign_or_nought"=some (.ref t.f_6)
 d_6:∃ fd,Fun K "sign_or_nought" "sign_or_nought" s_6 t.f_6 fd
 m_42:mg "by_window"=some (.ref t.f_42)
 d_42:∃ fd,Fun K "by_window" "by_window" s_42 t.f_42 fd
 m_60:mg "narrow"=some (.ref t.f_60)
 d_60:∃ fd,Fun K "narrow" "narrow" s_60 t.f_60 fd
 m_55:mg "widened"=some (.ref t.f_55)
 d_55:∃ fd,Fun K "widened" "widened" s_55 t.f_55 fd
 m_64:mg "frame"=some (.ref t.f_64)
 d_64:∃ fd,Fun K "frame" "frame" s_64 t.f_64 fd
 m_66:mg "weigh"=some (.ref t.f_66)
 d_66:∃ fd,Fun K "weigh" "weigh" s_66 t.f_66 fd
 m_23:mg "gain_places"=some (.ref t.f_23)
 d_23:∃ fd,Fun K "gain_places" "gain_places" s_23 t.f_23 fd
 m_34:mg "many_gains"=some (.ref t.f_34)
 d_34:∃ fd,Fun K "many_gains" "many_gains" s_34 t.f_34 fd
 m_49:mg "gains_by"=some (.ref t.f_49)
 d_49:∃ fd,Fun K "gains_by" "gains_by" s_49 t.f_49 fd
 m_22:mg "first_wrong"=some (.ref t.f_22)
 d_22:∃ fd,Fun K "first_wrong" "first_wrong" s_22 t.f_22 fd
 m_9:mg "changes_total"=some (.ref t.f_9)
 d_9:∃ fd,Fun K "changes_total" "changes_total" s_9 t.f_9 fd
 d_0:∃ fd,Fun K "__init__" "KeepingPaper.__init__" s_0 t.f_0 fd
 d_4:∃ fd,Fun K "told" "KeepingPaper.told" s_4 t.f_4 fd
 d_2:∃ fd,Fun K "holds" "KeepingPaper.holds" s_2 t.f_2 fd
 d_1:∃ fd,Fun K "__init__" "ChangePaper.__init__" s_1 t.f_1 fd
 d_5:∃ fd,Fun K "told" "ChangePaper.told" s_5 t.f_5 fd
 d_3:∃ fd,Fun K "holds" "ChangePaper.holds" s_3 t.f_3 fd
 m_31:mg "_law_whole"=some (.ref t.f_31)
 d_31:∃ fd,Fun K "_law_whole" "_law_whole" s_31 t.f_31 fd
 m_11:mg "_law_cell_at"=some (.ref t.f_11)
 d_11:∃ fd,Fun K "_law_cell_at" "_law_cell_at" s_11 t.f_11 fd
 m_20:mg "_law_stream"=some (.ref t.f_20)
 d_20:∃ fd,Fun K "_law_stream" "_law_stream" s_20 t.f_20 fd
 m_27:mg "_law_power"=some (.ref t.f_27)
 d_27:∃ fd,Fun K "_law_power" "_law_power" s_27 t.f_27 fd
 m_8:mg "_law_exponent"=some (.ref t.f_8)
 d_8:∃ fd,Fun K "_law_exponent" "_law_exponent" s_8 t.f_8 fd
 m_26:mg "_law_going"=some (.ref t.f_26)
 d_26:∃ fd,Fun K "_law_going" "_law_going" s_26 t.f_26 fd
 m_29:mg "_law_table"=some (.ref t.f_29)
 d_29:∃ fd,Fun K "_law_table" "_law_table" s_29 t.f_29 fd
 m_25:mg "_law_frame"=some (.ref t.f_25)
 d_25:∃ fd,Fun K "_law_frame" "_law_frame" s_25 t.f_25 fd
 m_41:mg "_law_word"=some (.ref t.f_41)
 d_41:∃ fd,Fun K "_law_word" "_law_word" s_41 t.f_41 fd
 m_13:mg "_law_numbers"=some (.ref t.f_13)
 d_13:∃ fd,Fun K "_law_numbers" "_law_numbers" s_13 t.f_13 fd
 m_28:mg "_law_steps"=some (.ref t.f_28)
 d_28:∃ fd,Fun K "_law_steps" "_law_steps" s_28 t.f_28 fd
 m_15:mg "_law_spoiled"=some (.ref t.f_15)
 d_15:∃ fd,Fun K "_law_spoiled" "_law_spoiled" s_15 t.f_15 fd
 m_38:mg "_law_held"=some (.ref t.f_38)
 d_38:∃ fd,Fun K "_law_held" "_law_held" s_38 t.f_38 fd
 m_30:mg "_law_total"=some (.ref t.f_30)
 d_30:∃ fd,Fun K "_law_total" "_law_total" s_30 t.f_30 fd
 m_12:mg "_law_changes"=some (.ref t.f_12)
 d_12:∃ fd,Fun K "_law_changes" "_law_changes" s_12 t.f_12 fd
 m_40:mg "_law_ring"=some (.ref t.f_40)
 d_40:∃ fd,Fun K "_law_ring" "_law_ring" s_40 t.f_40 fd
 m_39:mg "_law_list"=some (.ref t.f_39)
 d_39:∃ fd,Fun K "_law_list" "_law_list" s_39 t.f_39 fd
 m_19:mg "_law_second"=some (.ref t.f_19)
 d_19:∃ fd,Fun K "_law_second" "_law_second" s_19 t.f_19 fd
 m_24:mg "_law_asked"=some (.ref t.f_24)
 d_24:∃ fd,Fun K "_law_asked" "_law_asked" s_24 t.f_24 fd
 m_14:mg "_law_refused"=some (.ref t.f_14)
 d_14:∃ fd,Fun K "_law_refused" "_law_refused" s_14 t.f_14 fd
 m_69:mg "law"=some (.ref t.f_69)
 d_69:∃ fd,Fun K "law" "law" s_69 t.f_69 fd
 z_len:mg "len"=none
 z_list:mg "list"=none
 z_reversed:mg "reversed"=none
 z_isinstance:mg "isinstance"=none
 z_range:mg "range"=none
 z_int:mg "int"=none
 z_bool:mg "bool"=none
 z_ValueError:mg "ValueError"=none
 z_tuple:mg "tuple"=none
 z_enumerate:mg "enumerate"=none
 z_min:mg "min"=none
 z_max:mg "max"=none
 z_sum:mg "sum"=none
 z_all:mg "all"=none
 g_LONGEST_TABLE:∃ k,mg "LONGEST_TABLE"=some (.int 256 k)
 g_MOST_NODES:∃ k,mg "MOST_NODES"=some (.int 9 k)
 th_10:ThK K t.c_10
 na_KeepingPaper_weights:NoAttr K t.c_10 "weights"
 na_KeepingPaper_flows:NoAttr K t.c_10 "flows"
 mk_10:Mk K t.c_10 t.f_0
 me_4:Meth K t.c_10 "told" t.f_4
 me_2:Meth K t.c_10 "holds" t.f_2
 th_18:ThK K t.c_18
 na_ChangePaper_weights:NoAttr K t.c_18 "weights"
 na_ChangePaper_ring:NoAttr K t.c_18 "ring"
 mk_18:Mk K t.c_18 t.f_1
 me_5:Meth K t.c_18 "told" t.f_5
 me_3:Meth K t.c_18 "holds" t.f_3
 x_57:PySem.W.excIn K t.c_57 bmVE "ValueError.__new__"=true
 x_58:PySem.W.excIn K t.c_58 bmVE "ValueError.__new__"=true
 x_46:PySem.W.excIn K t.c_46 bmVE "ValueError.__new__"=true
 x_51:PySem.W.excIn K t.c_51 bmVE "ValueError.__new__"=true
 xm_62:XMk K t.c_62 t.f_7
 ek_62:ExcK K t.c_62
 ek_51:ExcK K t.c_51
 xa_NoRow_at:XA K t.c_62 t.c_47 "at"
 kt_51_51:PySem.W.kitOne K (.ref t.c_51) (.ref t.c_51)=some true
 kt_TooWide_ValueError:PySem.W.kitOne K (.ref t.c_51) (.type "ValueError")=some true
 kt_51_62:PySem.W.kitOne K (.ref t.c_51) (.ref t.c_62)=some false
 kt_51_36:PySem.W.kitOne K (.ref t.c_51) (.ref t.c_36)=some false
 kt_10_18:PySem.W.kitOne K (.ref t.c_10) (.ref t.c_18)=some false
 kt_10_63:PySem.W.kitOne K (.ref t.c_10) (.ref t.c_63)=some true
 kt_10_37:PySem.W.kitOne K (.ref t.c_10) (.ref t.c_37)=some false
 kt_18_10:PySem.W.kitOne K (.ref t.c_18) (.ref t.c_10)=some false
 kt_18_63:PySem.W.kitOne K (.ref t.c_18) (.ref t.c_63)=some true
 kt_18_37:PySem.W.kitOne K (.ref t.c_18) (.ref t.c_37)=some false
 em_51_47:PySem.W.exmOne K (.ref t.c_51) (.ref t.c_47)=some true
def RuleVL (H:Hp) (r:Addr) (g lo:Int) (tab:List Int):Prop:=∃ tb,H r=some (.tup [.int g,.int lo,.ref tb])∧H tb=some (.lst (tab.map V.int))
theorem RuleVL.same {H H':Hp} {r:Addr} {g lo:Int} {tab:List Int} (e:Same H H') (h:RuleVL H r g lo tab):RuleVL H' r g lo tab:=by
 obtain ⟨tb,h1,h2⟩:=h
 exact ⟨tb,e _ _ h1,e _ _ h2⟩
def spPlacesL:Sp:=fun vs H Q _=>∃ (r:Addr) (g lo:Int) (tab:List Int) (m:Nat),vs=[.ref r]∧2≤g∧g≤9∧RuleVL H r g lo tab∧(tab.length:Int)=g^m∧Q (.int ((m:Nat):Int)) H
def spLeadL (K:PySem.W.Frag):Sp:=fun vs H Q _=>∃ (r a:Addr) (g lo:Int) (tab:List Int) (m:Nat) (ns:List Int),vs=[.ref r,.ref a]∧2≤g∧g≤9∧RuleVL H r g lo tab∧(tab.length:Int)=g^m∧1≤m∧SqL K H a (ns.map V.int)∧(∀ n∈ns,0≤n∧n<g)∧ns.length≤900 ∧
 ∀ p H',NewL H H' p (ledL g tab m ns)→Q (.ref p) H'
def spLeadRingL (K:PySem.W.Frag):Sp:=fun vs H Q _=>∃ (r a:Addr) (g lo:Int) (tab:List Int) (m:Nat) (ns:List Int),vs=[.ref r,.ref a]∧2≤g∧g≤9∧RuleVL H r g lo tab∧(tab.length:Int)=g^m∧1≤m∧m≤8∧SqL K H a (ns.map V.int)∧(∀ n∈ns,0≤n∧n<g)∧1≤ns.length∧ns.length≤800 ∧
 ∀ p H',NewL H H' p (ringL g lo tab m ns)→Q (.ref p) H'
def spWeigh (K:PySem.W.Frag):Sp:=fun vs H Q _=>∃ (w a:Addr) (g:Int) (tab:List Int) (m:Nat) (ns:List Int),vs=[.int g,.ref w,.ref a]∧2≤g∧g≤9∧H w=some (.lst (tab.map V.int))∧(tab.length:Int)=g^m∧1≤m∧m≤8∧SqL K H a (ns.map V.int)∧(∀ n∈ns,0≤n∧n<g)∧1≤ns.length∧ns.length≤800 ∧
 ∀ H',Same H H'→Q (.int (ringL g 0 tab m ns).sum) H'
def spChgTot (K:PySem.W.Frag):Sp:=fun vs H Q _=>∃ (r b a:Addr) (g lo:Int) (tab ws ring:List Int) (m mw:Nat),vs=[.ref r,.ref b,.ref a]∧RuleOk H r g lo tab m∧H b=some (.lst (ws.map V.int))∧(ws.length:Int)=g^mw∧1≤mw∧mw≤8∧SqL K H a (ring.map V.int)∧(∀ x∈ring,0≤x∧x<g)∧1≤ring.length∧ring.length≤800∧∀ (c:Bool) (H':Hp),Same H H'→(c=true↔(ringL g 0 ws mw ring).sum≠(ringL g 0 ws mw (ringL g lo tab m ring)).sum)→Q (.bl c) H'
theorem pow_ge2 {g:Int} (hg:2≤g):∀ k:Nat,(2:Int)^k≤g^k
 | 0=>by rw [Int.pow_zero,Int.pow_zero];exact Int.le_refl _
 | k+1=>by
  have a:=pow_ge2 hg k
  have b:=Int.mul_le_mul a hg (by decide) (Int.le_of_lt (RW.pow_pos hg k))
  rw [Int.pow_succ,Int.pow_succ]
  exact b
theorem go66 {g:Int} (g2:2≤g) {G:Nat} (hG:(G:Int)=g) {gl:List Int} (gb:∀ j,j<G*G→0≤gl.getD j 0∧gl.getD j 0≤((j / G:Nat):Int)∧gl.getD j 0≤g - 1 - ((j%G:Nat):Int)) {tab:List Int} (ht:tab=(List.range (G*G*G)).map fun k:Nat=>((k / G%G:Nat):Int) - gl.getD (k%(G*G)) 0+gl.getD (k / G) 0) :
  (tab.length:Int)=g^3∧(∀ n∈tab,0≤n∧n<g):=by
 have G0:0<G:=by lia
 have g3:g^3=((G*G*G:Nat):Int):=by
  rw [show (3:Nat)=0+1+1+1 from rfl,Int.pow_succ,Int.pow_succ,Int.pow_succ,Int.pow_zero,Int.one_mul,←hG,Int.natCast_mul,Int.natCast_mul]
 refine ⟨by rw [ht,List.length_map,List.length_range,g3],fun n hn=>?_⟩
 ·rw [ht] at hn
  obtain ⟨k,hk,rfl⟩:=List.mem_map.mp hn
  have kl:=List.mem_range.mp hk
  have m1:k%(G*G)<G*G:=Nat.mod_lt _ (Nat.mul_pos G0 G0)
  have m2:k / G<G*G:=Nat.div_lt_of_lt_mul (by rw [Nat.mul_comm];exact kl)
  have p:=gb _ m1
  have r:=gb _ m2
  have e:k%(G*G) / G=k / G%G:=Nat.mod_mul_right_div_self ..
  rw [e] at p
  have bl:k / G%G<G:=Nat.mod_lt _ G0
  lia
def spGoing66:Sp:=fun vs H Q _=>∃ (g:Int) (px:Addr) (xs:List Int),vs=[.int g,.ref px]∧2≤g∧g≤3∧H px=some (.lst (xs.map V.int))∧g*g≤(xs.length:Int)∧∀ p H' tab,NewL H H' p tab→(tab.length:Int)=g^3→(∀ n∈tab,0≤n∧n<g)→Q (.ref p) H'
def low62 (g:Int):Int:=([0,0,0,0,2,0,3,0,4,3]:List Int).getD g.toNat 0
def in62 (g:Int):Prop:=g=4∨g=6∨g=8∨g=9
theorem low62_is {g:Int} (h:in62 g):2≤low62 g∧low62 g≤4∧low62 g*(g / low62 g)=g∧g / low62 g≤3∧2≤g∧g≤9:=by
 obtain rfl | rfl | rfl | rfl:=h
 all_goals exact ⟨by decide,by decide,by decide,by decide,by decide,by decide⟩
def TrP (g:Int) (tab:List Int):Prop:=∀ a b:Int,0≤a→a<g→0≤b→b<g→tab.getD (num g [a,b]).toNat 0=b / low62 g*low62 g+a%low62 g
theorem tr_ok {g:Int} (h:in62 g) {tab:List Int} (ht:tab=(List.range (g*g).toNat).map fun k:Nat=>(k:Int)%g / low62 g*low62 g+(k:Int) / g%low62 g) :
  (tab.length:Int)=g^2∧(∀ n∈tab,0≤n∧n<g)∧TrP g tab:=by
 obtain ⟨l2,l4,lg,q3,g2,g9⟩:=low62_is h
 have gg:0≤g*g:=Int.mul_nonneg (by lia) (by lia)
 have bd:∀ a b:Int,0≤b→b<g→0≤b / low62 g*low62 g+a%low62 g∧b / low62 g*low62 g+a%low62 g<g:=fun a b b0 b1=>by
  have a0:=Int.emod_nonneg a (show low62 g≠0 by lia)
  have a1:=Int.emod_lt_of_pos a (show 0<low62 g by lia)
  have d0:=Int.ediv_nonneg b0 (show 0≤low62 g by lia)
  have d1:b / low62 g<g / low62 g:=by
   refine Int.ediv_lt_of_lt_mul (by lia) ?_
   rw [Int.mul_comm,lg]
   exact b1
  have m1:=Int.mul_le_mul_of_nonneg_right (show b / low62 g+1≤g / low62 g by lia) (show 0≤low62 g by lia)
  have m0:=Int.mul_nonneg d0 (show 0≤low62 g by lia)
  rw [Int.add_mul,Int.one_mul,Int.mul_comm (g / low62 g),lg] at m1
  lia
 refine ⟨?_,fun n hn=>?_,fun a b a0 a1 b0 b1=>?_⟩
 ·rw [ht,List.length_map,List.length_range,show (2:Nat)=0+1+1 from rfl,Int.pow_succ,Int.pow_succ,Int.pow_zero,Int.one_mul]
  omega
 ·rw [ht] at hn
  obtain ⟨k,hk,rfl⟩:=List.mem_map.mp hn
  exact bd _ _ (Int.emod_nonneg _ (by lia)) (Int.emod_lt_of_pos _ (by lia))
 ·have e:num g [a,b]=a*g+b:=by
   show (0*g+a)*g+b=_
   rw [Int.zero_mul,Int.zero_add]
  have m0:=Int.mul_nonneg a0 (show 0≤g by lia)
  have m1:=Int.mul_le_mul_of_nonneg_right (show a+1≤g by lia) (show 0≤g by lia)
  rw [Int.add_mul,Int.one_mul] at m1
  rw [ht,getD_map_range (by lia),e,Int.toNat_of_nonneg (by lia)]
  have x1:(a*g+b)%g=b:=by rw [Int.add_comm,Int.add_mul_emod_self_right,Int.emod_eq_of_lt b0 b1]
  have x2:(a*g+b) / g=a:=by rw [Int.add_comm,Int.add_mul_ediv_right _ _ (by lia),Int.ediv_eq_zero_of_lt b0 b1,Int.zero_add]
  rw [x1,x2]
theorem in62_dec {g:Int} (g2:2≤g) (g9:g≤9):inV (V.int g) [V.int 4,V.int 6,V.int 8,V.int 9]=true↔in62 g:=by
 obtain rfl | rfl | rfl | rfl | rfl | rfl | rfl | rfl:g=2∨g=3∨g=4∨g=5∨g=6∨g=7∨g=8∨g=9:=by lia
 all_goals
  constructor
  ·intro h
   first | exact absurd h (by decide) | exact .inl rfl | exact .inr (.inl rfl) | exact .inr (.inr (.inl rfl)) | exact .inr (.inr (.inr rfl))
  ·intro h
   first | rfl | (exfalso;unfold in62 at h;lia)
theorem lowat {g:Int} (h:in62 g):atI [V.int 0,V.int 0,V.int 0,V.int 0,V.int 2,V.int 0,V.int 3,V.int 0,V.int 4,V.int 3] g=some (V.int (low62 g)):=by
 obtain rfl | rfl | rfl | rfl:=h
 all_goals rfl
theorem cut62 {xs:List Int} {z:Int} (z0:0≤z) (h:1+z≤(xs.length:Int)):((cutI xs (some 1) (some (1+z))).length:Int)=z:=by
 have ea:HT.sIx xs.length 0 (some 1)=min 1 xs.length:=rfl
 have eb:HT.sIx xs.length xs.length (some (1+z))=min (1+z).toNat xs.length:=if_neg (by lia)
 unfold cutI
 rw [ea,eb,List.length_take,List.length_drop]
 lia
def spTable66:Sp:=fun vs H Q _=>∃ (g way:Int) (px:Addr) (xs:List Int),vs=[.int g,.int way,.ref px]∧2≤g∧g≤9∧H px=some (.lst (xs.map V.int))∧xs.length=90∧∀ p H' tab (m:Nat),NewL H H' p tab→(tab.length:Int)=g^m→(m=2∨m=3∧g<4)→(∀ n∈tab,0≤n∧n<g)→Q (.ref p) H'
theorem FrameW.lt {g:Int} (hg:2≤g) {lo:Int} {tab:List Int} {m:Nat} (tb:∀ n∈tab,0≤n∧n<g) {lf:Int} {tf:List Int} {mf:Nat} (fw:FrameW g lo tab m lf tf mf):∀ n∈tf,0≤n∧n<g:=by
 have bw:∀ {lo:Int} {tab:List Int} {m:Nat} {low:Int} {M:Nat},(∀ n∈tab,0≤n∧n<g)→∀ n∈bwT g lo tab m low M,0≤n∧n<g:=fun {lo tab m low M} tb n hn=>by
  unfold bwT at hn
  obtain ⟨k,_,rfl⟩:=List.mem_map.mp hn
  exact getD_lt hg tb _
 obtain ⟨low,M,n,rfl,⟨rfl,rfl,rfl⟩ | ⟨h2,rfl,rfl⟩⟩:=fw
 ·exact bw (bw tb)
 ·exact bw tb
def spTotal62:Sp:=fun vs H Q _=>∃ (b a:Addr) (g:Int) (ws ring:List Int) (mw:Nat),vs=[.int g,.int ((mw:Nat):Int),.ref b,.ref a]∧2≤g∧g≤9∧H b=some (.lst (ws.map V.int))∧(ws.length:Int)=g^mw∧1≤mw∧mw≤40∧H a=some (.lst (ring.map V.int))∧(∀ x∈ring,0≤x∧x<g)∧1≤ring.length∧ring.length≤200∧Q (.int (ringL g 0 ws mw ring).sum) H
def spFrame65:Sp:=fun vs H Q _=>∃ (r:Addr) (g lo:Int) (tab:List Int) (m:Nat),vs=[.ref r]∧RuleOk H r g lo tab m∧∀ (p:Addr) (lf:Int) (tf:List Int) (mf:Nat) (H':Hp),Same H H'→FrameW g lo tab m lf tf mf→H' p=some (.lst (tf.map V.int))→(tf.length:Int)=g^mf→mf≤8→Q (.ref p) H'
def greatT (g:Int) (m:Nat):List Int:=(List.range (g^m).toNat).map fun k:Nat=>((k / (g^(m - 1)).toNat+k:Nat):Int)%g
theorem great_frame {g:Int} (g2:2≤g) (lo:Int) {m:Nat} (m2:2≤m):((greatT g m).length:Int)=g^m∧FrameW g lo (greatT g m) m lo (greatT g m) m:=by
 have gp:=RW.pow_pos g2 m
 have pp:=RW.pow_pos g2 (m - 1)
 have gg:g^m=g^(m - 1)*g:=by rw [←Int.pow_succ,show (m - 1).succ=m by lia]
 have pg:g≤g^(m - 1):=by
  have:=pow_mono g2 (show 1≤m - 1 by lia)
  rw [Int.pow_succ,Int.pow_zero,Int.one_mul] at this
  exact this
 have p2:g^(m - 1)*2≤g^m:=by rw [gg];exact Int.mul_le_mul_of_nonneg_left g2 (Int.le_of_lt pp)
 have hl:((greatT g m).length:Int)=g^m:=by unfold greatT;rw [List.length_map,List.length_range];lia
 have at':∀ k:Nat,(k:Int)<g^m→(greatT g m).getD k 0=((k / (g^(m - 1)).toNat+k:Nat):Int)%g:=fun k hk=>by unfold greatT;rw [getD_map_range (by lia)]
 have P0:0<(g^(m - 1)).toNat:=by lia
 have t0:(greatT g m).getD 0 0=0:=by rw [at' 0 (by lia),Nat.zero_div];rfl
 have t1:(greatT g m).getD 1 0=1:=by
  rw [at' 1 (by lia),Nat.div_eq_of_lt (by lia)]
  exact Int.emod_eq_of_lt (by decide) (by lia)
 have tP:(greatT g m).getD (g^(m - 1)).toNat 0=1:=by
  rw [at' _ (by lia),Nat.div_self P0,Int.natCast_add,Int.toNat_of_nonneg (by lia)]
  have e:g^(m - 1)=g*g^(m - 2):=by rw [Int.mul_comm,←Int.pow_succ,show (m - 2).succ=m - 1 by lia]
  rw [e,Int.add_mul_emod_self_left]
  exact Int.emod_eq_of_lt (by decide) (by lia)
 have c0:cntB g (greatT g m) (g^(m - 1))=true:=by
  cases z:cntB g (greatT g m) (g^(m - 1)) with
  | true=>rfl
  | false =>
   have y:=(first_free g2 (m:=m - 1) (h:=(g^(m - 1)).toNat) (by rw [hl,show m - 1+1=m by lia]) (by lia)).mp z (g^(m - 1)).toNat (by lia)
   rw [Nat.mod_self,tP,t0] at y
   cases y
 have c1:cntB g (greatT g m) 1=true:=by
  cases z:cntB g (greatT g m) 1 with
  | true=>rfl
  | false =>
   have y:=(last_free (show ((g.toNat:Nat):Int)=g by lia)).mp z 1 (by lia)
   rw [Nat.mod_eq_of_lt (by lia),Nat.sub_self,t1,t0] at y
   cases y
 exact ⟨hl,frame_wide g2 hl hl (fun _ _=>rfl) m2 c0 c1⟩
theorem greatT_lt {g:Int} (g2:2≤g) (m:Nat):∀ n∈greatT g m,0≤n∧n<g:=fun n hn=>by
 unfold greatT at hn
 obtain ⟨k,_,rfl⟩:=List.mem_map.mp hn
 exact ⟨Int.emod_nonneg _ (by lia),Int.emod_lt_of_pos _ (by lia)⟩
def PapV (H:Hp) (x C:Addr) (f1 f2:Str) (xs ys:List Int):Prop:=∃ dx p q,H x=some (.ins C dx [(f1,.ref p),(f2,.ref q)])∧H p=some (.lst (xs.map V.int))∧H q=some (.lst (ys.map V.int))
theorem PapV.same {H H':Hp} {x C:Addr} {f1 f2:Str} {xs ys:List Int} (e:Same H H') (h:PapV H x C f1 f2 xs ys):PapV H' x C f1 f2 xs ys:=by
 obtain ⟨dx,p,q,h1,h2,h3⟩:=h
 exact ⟨dx,p,q,e _ _ h1,e _ _ h2,e _ _ h3⟩
def PapN (H0 H:Hp) (x C:Addr) (f1 f2:Str) (xs ys:List Int):Prop:=∃ dx p q,H x=some (.ins C dx [(f1,.ref p),(f2,.ref q)])∧H p=some (.lst (xs.map V.int))∧H q=some (.lst (ys.map V.int))∧H0 p=none∧H0 q=none
def spIni (C:Addr) (f1 f2:Str):Sp:=fun vs H Q _=>∃ (x dx a b:Addr) (xs ys:List Int),vs=[.ref x,.ref a,.ref b]∧H x=some (.ins C dx [])∧H a=some (.lst (xs.map V.int))∧H b=some (.lst (ys.map V.int))∧∀ H',(∀ H2,Same H2 H→H2 x=none→Same H2 H')→PapN H H' x C f1 f2 xs ys→Q .non H'
def spTld (C:Addr) (f1 f2:Str):Sp:=fun vs H Q _=>∃ (x:Addr) (xs ys:List Int),vs=[.ref x]∧PapV H x C f1 f2 xs ys∧∀ (t p q:Addr) (H':Hp),Same H H'→H' t=some (.tup [.ref p,.ref q])→H' p=some (.lst (xs.map V.int))→H' q=some (.lst (ys.map V.int))→H p=none→H q=none→p≠q→Q (.ref t) H'
def HeldP (g:Int) (tf:List Int) (mf:Nat) (ws fl:List Int):Prop:=∃ mw:Nat,1≤mw∧(ws.length:Int)=g^mw∧(fl.length:Int)*g=g^(mf - 1)*(ws.length:Int)∧rightW g.toNat (gainL g tf mf ws mw) fl
def ChgP (g lo:Int) (tab:List Int) (m:Nat) (ws ring:List Int):Prop:=∃ mw:Nat,1≤mw∧(ws.length:Int)=g^mw∧1≤ring.length∧(∀ x∈ring,0≤x∧x<g)∧(ringL g 0 ws mw ring).sum≠(ringL g 0 ws mw (ringL g lo tab m ring)).sum
def spHldK (CT C:Addr):Sp:=fun vs H Q E=>∃ (x r:Addr) (g lo:Int) (tab:List Int) (m:Nat) (lf:Int) (tf:List Int) (mf:Nat) (ws fl:List Int),vs=[.ref x,.ref r]∧PapV H x C "weights" "flows" ws fl∧RuleOk H r g lo tab m∧FrameW g lo tab m lf tf mf∧(9<g^(mf - 1)→∀ H',Same H H'→E (.ref CT) none H')∧(g^(mf - 1)≤9→((ws.length:Int)≤1000∧(fl.length:Int)≤1000∧((∃ mw:Nat,(ws.length:Int)=g^mw)→g^(mf - 1)*(ws.length:Int)≤729))∧∀ (b:Bool) (H':Hp),Same H H'→(b=true↔HeldP g tf mf ws fl)→Q (.bl b) H')
def spHldC (CT C:Addr):Sp:=fun vs H Q E=>∃ (x r:Addr) (g lo:Int) (tab:List Int) (m:Nat) (lf:Int) (tf:List Int) (mf:Nat) (ws ring:List Int),vs=[.ref x,.ref r]∧PapV H x C "weights" "ring" ws ring∧RuleOk H r g lo tab m∧FrameW g lo tab m lf tf mf∧(9<g^(mf - 1)→∀ H',Same H H'→E (.ref CT) none H')∧(g^(mf - 1)≤9→(ws.length≤400∧ring.length≤800)∧∀ (b:Bool) (H':Hp),Same H H'→(b=true↔ChgP g lo tab m ws ring)→Q (.bl b) H')
def spIsWord (K:PySem.W.Frag):Sp:=fun vs H Q _=>∃ (a:Addr) (ns:List Int) (g:Int),vs=[.ref a,.int g]∧H a=some (.lst (ns.map V.int))∧ns.length≤800∧∀ (b:Bool) (H':Hp),Same H H'→(b=true↔∀ n∈ns,0≤n∧n<g)→Q (.bl b) H'
def spIsRing (K:PySem.W.Frag):Sp:=fun vs H Q _=>∃ (a:Addr) (ns:List Int) (g:Int),vs=[.ref a,.int g]∧H a=some (.lst (ns.map V.int))∧ns.length≤800∧∀ (b:Bool) (H':Hp),Same H H'→(b=true↔1≤ns.length∧∀ n∈ns,0≤n∧n<g)→Q (.bl b) H'
def spExp73:Sp:=fun vs H Q _=>∃ g n:Int,vs=[.int g,.int n]∧2≤g∧g≤9∧0≤n∧n≤2000∧(∀ m:Nat,n=g^m→Q (.int ((m:Nat):Int)) H)∧((∀ m:Nat,n≠g^m)→Q (.int 0) H)
theorem exp73 {g:Int} (g2:2≤g) {s:Int} (s0:0≤s) (ne:s≠1) (ex:s≤1∨s%g≠0) (k m:Nat):s*g^k≠g^m:=fun h=>by
 have pk:=RW.pow_pos g2 k
 have pm:=RW.pow_pos g2 m
 rcases Int.lt_or_le 1 s with c | c
 ·rcases ex with z | z
  ·lia
  ·by_cases d:k<m
   ·obtain ⟨j,rfl⟩:∃ j,m=k+1+j:=⟨m - (k+1),by lia⟩
    have e:s*g^k=(g^j*g)*g^k:=by
     rw [h,←Int.pow_succ,←Int.pow_add]
     congr 1
     lia
    have:=Int.eq_of_mul_eq_mul_right (by lia) e
    rw [this,Int.mul_emod_left] at z
    exact z rfl
   ·have a:=pow_mono g2 (show m≤k by lia)
    have b:=Int.mul_le_mul_of_nonneg_right (show (2:Int)≤s by lia) (show (0:Int)≤g^k by lia)
    lia
 ·have:s=0:=by lia
  rw [this,Int.zero_mul] at h
  lia
def spWord73:Sp:=fun vs H Q _=>∃ (a:Addr) (g:Int) (tab:List Int) (m mw n:Nat),vs=[.ref a,.int g,.int ((mw:Nat):Int),.int ((n:Nat):Int)]∧2≤g∧g≤9∧H a=some (.lst (tab.map V.int))∧(tab.length:Int)=g^m∧1≤m∧m≤8∧(∀ n∈tab,0≤n∧n<g)∧1≤mw∧mw≤40∧g^mw≤729∧(n:Int)<g^(m+mw - 1)∧Q (.int (num g (ledL g tab m (wordL g (n:Int) (m+mw - 1))))) H
def spList73:Sp:=fun vs H Q _=>∃ (p q:Addr) (ns:List Int),vs=[.ref p,.ref q]∧H p=some (.lst (ns.map V.int))∧H q=some (.lst (ns.map V.int))∧Q (.bl true) H
def spSecond73:Sp:=fun vs H Q _=>∃ (r:Addr) (c g lo:Int) (tab:List Int) (m:Nat),vs=[.ref r,.int c]∧RuleOk H r g lo tab m∧∀ (r':Addr) (H':Hp) (lo':Int) (tab':List Int),Same H H'→RuleOk H' r' g lo' tab' m→Q (.ref r') H'
def spHeld73:Sp:=fun vs H Q _=>∃ (r a b:Addr) (g lo:Int) (tab:List Int) (m:Nat) (ws fl:List Int),vs=[.ref r,.ref a,.ref b]∧RuleOk H r g lo tab m∧H a=some (.lst (ws.map V.int))∧H b=some (.lst (fl.map V.int))∧ws.length≤1000∧fl.length≤1000∧∀ (lf:Int) (tf:List Int) (mf:Nat),FrameW g lo tab m lf tf mf→((∃ mw:Nat,(ws.length:Int)=g^mw)→g^(mf - 1)*(ws.length:Int)≤729)∧∀ (c:Bool) (H':Hp),Same H H'→(c=true↔HeldP g tf mf ws fl)→Q (.bl c) H'
def spChanges73:Sp:=fun vs H Q _=>∃ (r a b:Addr) (g lo:Int) (tab:List Int) (m:Nat) (ws ring:List Int),vs=[.ref r,.ref a,.ref b]∧RuleOk H r g lo tab m∧H a=some (.lst (ws.map V.int))∧H b=some (.lst (ring.map V.int))∧ws.length≤400∧ring.length≤200∧∀ (c:Bool) (H':Hp),Same H H'→(c=true↔ChgP g lo tab m ws ring)→Q (.bl c) H'
def AnyPap (H:Hp) (x CK CC:Addr) (xs ys:List Int):Prop:=PapV H x CK "weights" "flows" xs ys∨PapV H x CC "weights" "ring" xs ys
theorem AnyPap.same {H H':Hp} {x CK CC:Addr} {xs ys:List Int} (e:Same H H') (h:AnyPap H x CK CC xs ys):AnyPap H' x CK CC xs ys:=h.elim (fun z=>.inl (z.same e)) fun z=>.inr (z.same e)
def spRefused73 (CK CC:Addr):Sp:=fun vs H Q _=>∃ (x:Addr) (c:Int) (xs ys:List Int),vs=[.ref x,.int c]∧AnyPap H x CK CC xs ys∧∀ H',Same H H'→Q (.bl true) H'
def spNumbers73 (K:PySem.W.Frag):Sp:=fun vs H Q _=>∃ (a:Addr) (ns:List Int) (n:Int),vs=[.ref a,.int n]∧SqL K H a (ns.map V.int)∧ns.length≤63∧1≤n∧n≤243∧∀ (p:Addr) (H':Hp) (xs:List Int),NewL H H' p xs→(xs.length:Int)=n+2→Q (.ref p) H'
def spRing73 (K:PySem.W.Frag):Sp:=fun vs H Q _=>∃ (a:Addr) (ns:List Int) (g way:Int),vs=[.ref a,.int g,.int way]∧SqL K H a (ns.map V.int)∧ns.length≤63∧2≤g∧g≤9∧∀ (p:Addr) (H':Hp) (ring:List Int),NewL H H' p ring→ring.length≤200→Q (.ref p) H'
theorem atI_last2 {ns:List Int} (h:1<ns.length):atI (ns.map V.int) (-2)=some (.int (ns.getD (ns.length - 2) 0)):=by
 have e:=getAt (ns:=ns) (k:=ns.length - 2) (by lia)
 have z:ixN (ns.map V.int).length (-2)=some (ns.length - 2):=by
  unfold ixN
  rw [List.length_map]
  rw [if_neg (by decide),if_pos (by lia)]
  congr 1
  lia
 have y:ixN (ns.map V.int).length (((ns.length - 2:Nat)):Int)=some (ns.length - 2):=by
  rw [List.length_map]
  exact ixN_nat (by lia)
 unfold atI at e ⊢
 rw [z]
 rw [y] at e
 exact e
theorem frame_uniq73 {g:Int} (g2:2≤g) {lo:Int} {tab:List Int} {m:Nat} (hl:(tab.length:Int)=g^m) {lf lf':Int} {tf tf':List Int} {mf mf':Nat} (fw:FrameW g lo tab m lf tf mf) (fw':FrameW g lo tab m lf' tf' mf'):mf=mf'∧tf=tf':=by
 obtain ⟨low,M,n,_,h⟩:=fw
 obtain ⟨low',M',n',_,h'⟩:=fw'
 obtain ⟨rfl,rfl⟩:=nar_uniq g2 hl n n'
 rcases h with ⟨a,b,c⟩ | ⟨a,b,c⟩
 ·rcases h' with ⟨a',b',c'⟩ | ⟨a',b',c'⟩
  ·exact ⟨by lia,by rw [c,c']⟩
  ·lia
 ·rcases h' with ⟨a',b',c'⟩ | ⟨a',b',c'⟩
  ·lia
  ·exact ⟨by lia,by rw [c,c']⟩
theorem frame_next73 {g lo lo':Int} {tab:List Int} {m:Nat} {lf:Int} {tf:List Int} {mf:Nat} (fw:FrameW g lo tab m lf tf mf):∃ lf' tf',FrameW g lo' tab m lf' tf' mf:=by
 have sh:∀ {low:Int} {M:Nat},NarW g lo tab m low M→∃ low',NarW g lo' tab m low' M:=fun n=>by
  rcases n.ends with ⟨f,e1,e2⟩ | ⟨j0,j1,le,lt,e1,e2,c0,c1⟩
  ·refine ⟨0,n.one,fun j hj hc=>?_,.inl ⟨f,rfl,e2⟩⟩
   rw [f j hj] at hc
   cases hc
  ·refine ⟨lo'+(j0:Int),n.one,fun j hj hc=>?_,.inr ⟨j0,j1,le,lt,rfl,e2,c0,c1⟩⟩
   have:=n.all j hj hc
   lia
 obtain ⟨low,M,n,_,h⟩:=fw
 obtain ⟨low',n'⟩:=sh n
 rcases h with ⟨a,b,c⟩ | ⟨a,b,c⟩
 ·exact ⟨low',_,low',M,n',rfl,.inl ⟨a,b,rfl⟩⟩
 ·exact ⟨low',_,low',M,n',rfl,.inr ⟨a,b,rfl⟩⟩
def spSteps73:Sp:=fun vs H Q _=>∃ (pt px:Addr) (g:Int) (tf xs:List Int) (mf mw:Nat),vs=[.int g,.ref pt,.int ((mw:Nat):Int),.ref px]∧2≤g∧g≤9∧H pt=some (.lst (tf.map V.int))∧(tf.length:Int)=g^mf∧2≤mf∧mf≤8∧(∀ n∈tf,0≤n∧n<g)∧1≤mw∧mw≤8∧g^(mf - 1)*g^mw≤729∧H px=some (.lst (xs.map V.int))∧(xs.length:Int)=g^mw+2∧∀ (p a b:Addr) (H':Hp) (ws fl:List Int),Same H H'→H' p=some (.lst [.ref a,.ref b])→H' a=some (.lst (ws.map V.int))→H' b=some (.lst (fl.map V.int))→(ws.length:Int)=g^mw→1≤fl.length→fl.length≤729→Q (.ref p) H'
def spSpoiled73:Sp:=fun vs H Q _=>∃ (a b:Addr) (way c:Int) (ws fl:List Int),vs=[.ref a,.ref b,.int way,.int c]∧H a=some (.lst (ws.map V.int))∧H b=some (.lst (fl.map V.int))∧1≤ws.length∧ws.length≤300∧1≤fl.length∧fl.length≤729∧∀ (p a' b':Addr) (H':Hp) (ws' fl':List Int),Same H H'→H' p=some (.lst [.ref a',.ref b'])→H' a'=some (.lst (ws'.map V.int))→H' b'=some (.lst (fl'.map V.int))→(ws'.length=ws.length∨ws'.length=ws.length+1∨ws'.length≤1)→fl'.length≤730→Q (.ref p) H'
def AnsK73 (CT CK:Addr) (H:Hp) (x r:Addr) (b:Bool):Prop:=∀ (HX:Hp) (QA:VK) (EA:XK),Same H HX→(∀ H',Same HX H'→QA (.bl b) H')→spHldK CT CK [.ref x,.ref r] HX QA EA
def AnsC73 (CT CC:Addr) (H:Hp) (x r:Addr) (b:Bool):Prop:=∀ (HX:Hp) (QA:VK) (EA:XK),Same H HX→(∀ H',Same HX H'→QA (.bl b) H')→spHldC CT CC [.ref x,.ref r] HX QA EA
def spAsked73 (CT CK CC:Addr):Sp:=fun vs H Q _=>∃ (x pr pp pd r0 r1 a0 a1:Addr) (b0 b1:Bool) (xs ys:List Int),vs=[.ref x,.ref pr,.ref pp,.ref pd]∧H pr=some (.lst [.ref r0,.ref r1])∧H pp=some (.lst [.ref a0,.ref a1])∧H pd=some (.lst [.bl b0,.bl b1])∧H a0=some (.lst (xs.map V.int))∧H a1=some (.lst (ys.map V.int))∧xs.length≤900∧ys.length≤900∧((PapV H x CK "weights" "flows" xs ys∧AnsK73 CT CK H x r0 b0∧AnsK73 CT CK H x r1 b1)∨(PapV H x CC "weights" "ring" xs ys∧AnsC73 CT CC H x r0 b0∧AnsC73 CT CC H x r1 b1))∧∀ H',Same H H'→Q (.bl true) H'
section
variable {P:Program} {w:World} {K:PySem.W.Frag} {mg:Str→Option Value} {base:Heap} {t:Adr}
theorem sc_7:FnScope ["self","at"] ["self","at"] (defScope s_7):=⟨rfl,rfl,rfl,by decide +kernel,rfl,by decide +kernel,by decide +kernel⟩
theorem ok_7 (T:Txt K mg t) :Has P w K mg base 1 t.f_7 ["self","at"] (spInit K t.c_62 t.c_47):=by
 refine has_mk0 T.d_7 sc_7 (fun _ _ _ _ _ _ us hl=>match us,hl with | [_,_],_=>rfl) (fun vs H Q E h=>?_) (fun cdv A outer s H vs Q E hr h=>?_)
 ·obtain ⟨a,n,y,rfl,ea,q⟩:=h
  rfl
 obtain ⟨a,n,y,rfl,ea,q⟩:=h
 refine ⟨_,(pss_one (ps_xat (pv 0) (pv 1))),?_⟩
 walk_at "rd"
 exact ⟨_,_,n,ea,T.xa_NoRow_at,q⟩
theorem sc_50:FnScope ["thing"] ["thing"] (defScope s_50):=⟨rfl,rfl,rfl,by decide +kernel,rfl,by decide +kernel,by decide +kernel⟩
theorem ok_50 (T:Txt K mg t) :Has P w K mg base 1 t.f_50 ["thing"] (spWhole):=by
 refine has_mk0 T.d_50 sc_50 (fun _ _ _ _ _ _ us hl=>match us,hl with | [_],_=>rfl) (fun vs H Q E h=>?_) (fun cdv A outer s H vs Q E hr h=>?_)
 ·obtain ⟨x,rfl,kd,q⟩:=h
  rfl
 obtain ⟨x,rfl,kd,q⟩:=h
 refine ⟨_,(pss_one (ps_ret (pe_and (pe_isi rfl T.z_isinstance (pv 0) (pe_ty rfl T.z_int PyProof.Rows.boot_int)) (pe_one (pe_not (pe_isi rfl T.z_isinstance (pv 0) (pe_ty rfl T.z_bool PyProof.Rows.boot_bool))))))),?_⟩
 walk_at "rd"
 cases x with
 | int i =>
  refine ⟨_,.of (.int i),_,ki_ii,?_⟩
  rw [if_pos rfl]
  exact ⟨_,.of (.int i),_,ki_ib,q⟩
 | bl b =>
  refine ⟨_,.of (.bl b),_,ki_bi,?_⟩
  rw [if_pos rfl]
  exact ⟨_,.of (.bl b),_,ki_bb,q⟩
 | non =>
  refine ⟨_,.of .non,_,ki_ni,?_⟩
  rw [if_neg (by decide)]
  exact q
 | str y =>
  refine ⟨_,.of (.str y),_,ki_si,?_⟩
  rw [if_neg (by decide)]
  exact q
 | ref a =>
  obtain ⟨xs,z | z⟩:=kd
  ·refine ⟨_,.of (.lst z),_,ki_li,?_⟩
   rw [if_neg (by decide)]
   exact q
  ·refine ⟨_,.of (.tup z),_,ki_ti,?_⟩
   rw [if_neg (by decide)]
   exact q
 | byt _=>exact kd.elim
 | flt _=>exact kd.elim
 | ty _=>exact kd.elim
theorem sc_53:FnScope ["thing","signs"] ["thing","signs"] (defScope s_53):=⟨rfl,rfl,rfl,by decide +kernel,rfl,by decide +kernel,by decide +kernel⟩
theorem ok_53 (T:Txt K mg t) (G_50:Has P w K mg base 1 t.f_50 ["thing"] (spWhole)):Has P w K mg base 2 t.f_53 ["thing","signs"] (spSign):=by
 refine has_mk0 T.d_53 sc_53 (fun _ _ _ _ _ _ us hl=>match us,hl with | [_,_],_=>rfl) (fun vs H Q E h=>?_) (fun cdv A outer s H vs Q E hr h=>?_)
 ·obtain ⟨x,g,rfl,kd,q⟩:=h
  rfl
 obtain ⟨x,g,rfl,kd,q⟩:=h
 refine ⟨_,(pss_one (ps_ret (pe_and (pe_callH G_50 (hr.mono (by decide)) rfl T.m_50 passF (pa_cons (pv 0) pa_nil)) (pe_and (pe_cmpR op_le pe_int (pv 0) (nomark _)) (pe_one (pe_cmpR op_lt (pv 0) (pv 1) (nomark _))))))),?_⟩
 walk_at "rd"
 refine ⟨x,rfl,kd,?_⟩
 cases x with
 | int i =>
  walk_at "rd"
  simp only [sgn] at q
  by_cases h:0≤i
  ·rw [decide_eq_true h,Bool.true_and] at q
   rw [if_pos h]
   exact q
  ·rw [decide_eq_false h,Bool.false_and] at q
   rw [if_neg h]
   exact q
 | _=>exact ⟨false,rfl,iteF q⟩
theorem sc_54:FnScope ["word","signs"] ["word","signs"] (defScope s_54):=⟨rfl,rfl,rfl,by decide +kernel,rfl,by decide +kernel,by decide +kernel⟩
theorem ok_54 (T:Txt K mg t) (G_53:Has P w K mg base 2 t.f_53 ["thing","signs"] (spSign)):Has P w K mg base 3 t.f_54 ["word","signs"] (spIsWord K):=by
 refine has_mk0 T.d_54 sc_54 (fun _ _ _ _ _ _ us hl=>match us,hl with | [_,_],_=>rfl) (fun vs H Q E h=>?_) (fun cdv A outer s H vs Q E hr h=>?_)
 ·obtain ⟨a,ns,g,rfl,ha,n8,q⟩:=h
  rfl
 obtain ⟨a,ns,g,rfl,ha,n8,q⟩:=h
 refine ⟨_,(pss_one (ps_ret (pe_callB (call_all_of rfl) rfl T.z_all PyProof.Rows.boot_all (pa_cons (pe_comp (fv:=[(1,"signs")]) (cl:=[("signs",_)]) rfl (pi_list (pv 0)) (by with_unfolding_all rfl) (by decide +kernel) rfl (by decide +kernel) rfl ⟨(by with_unfolding_all rfl),trivial⟩ (by with_unfolding_all rfl) ⟨⟨rfl,rfl,(by with_unfolding_all rfl),rfl⟩,trivial⟩ (by decide) (fun _ _ _ _=>pf_nil) (fun _ _ _ _=>(pe_callH G_53 (hr.mono (by decide)) rfl T.m_53 passF (pa_cons (pv 0) (pa_cons (pv 1) pa_nil))))) pa_nil)))),?_⟩
 walk_at "rd"
 refine ⟨_,rfl,a,rfl,⟨_,SqL.of ha⟩,fun D hD=>?_⟩
 refine comp_list (xs:=ns.map V.int) (fun i acc Hx=>acc=((ns.take i).map fun n=>decide (0≤n∧n<g)).map V.bl∧Same H Hx∧Hx D=some (.lst acc)) ⟨rfl,Same.new hD _,upd_same⟩ (fun i acc Hx _ z=>SqL.of (z.2.1 _ _ ha)) ?_ ?_
 ·rintro i x acc Hx hx ⟨rfl,ex,hDx⟩
  obtain ⟨v,hv,rfl⟩:=getInt hx
  have hi:=(List.getElem?_eq_some_iff.mp hv).1
  walk_at "rd"
  refine ⟨.int v,g,rfl,True.intro,hDx,?_,?_,ex.into hD,upd_same⟩
  ·rw [List.length_map,List.length_map,List.length_take]
   exact small1000 (by lia)
  ·rw [List.take_succ,hv]
   rw [show (some v).toList=[v] from rfl,List.map_append,List.map_append,show sgn g (V.int v)=decide (0≤v∧v<g) by unfold sgn;rw [Bool.eq_iff_iff];simp]
   rfl
 rintro acc H2 ⟨rfl,e2,h2⟩
 rw [List.length_map,List.take_length] at h2
 refine ⟨D,rfl,_,SqL.of h2,q _ _ e2 ?_⟩
 rw [List.all_eq_true]
 constructor
 ·intro z n hn
  have:=z _ (List.mem_map.mpr ⟨n,hn,rfl⟩)
  exact of_decide_eq_true this
 ·intro z b hb
  obtain ⟨n,hn,rfl⟩:=List.mem_map.mp hb
  exact decide_eq_true (z n hn)
theorem sc_52:FnScope ["word","signs"] ["word","signs"] (defScope s_52):=⟨rfl,rfl,rfl,by decide +kernel,rfl,by decide +kernel,by decide +kernel⟩
theorem ok_52 (T:Txt K mg t) (G_54:Has P w K mg base 3 t.f_54 ["word","signs"] (spIsWord K)):Has P w K mg base 4 t.f_52 ["word","signs"] (spIsRing K):=by
 refine has_mk0 T.d_52 sc_52 (fun _ _ _ _ _ _ us hl=>match us,hl with | [_,_],_=>rfl) (fun vs H Q E h=>?_) (fun cdv A outer s H vs Q E hr h=>?_)
 ·obtain ⟨a,ns,g,rfl,ha,n8,q⟩:=h
  rfl
 obtain ⟨a,ns,g,rfl,ha,n8,q⟩:=h
 refine ⟨_,(pss_one (ps_ret (pe_and (pe_cmpR op_gt (pe_callB call_len_seq rfl T.z_len PySem.boot_len (pa_cons (pv 0) pa_nil)) pe_int (nomark _)) (pe_one (pe_callH G_54 (hr.mono (by decide)) rfl T.m_54 passF (pa_cons (pv 0) (pa_cons (pv 1) pa_nil))))))),?_⟩
 walk_at "rd"
 refine ⟨_,.inl (SqL.of ha),?_⟩
 rw [List.length_map]
 by_cases z:(0:Int)<((ns.length:Nat):Int)
 ·rw [if_pos z]
  exact ⟨a,ns,g,rfl,ha,n8,fun b H' e hb=>q b H' e (hb.trans ⟨fun h=>⟨by lia,h⟩,fun h=>h.2⟩)⟩
 ·rw [if_neg z]
  exact q false H (Same.refl _) ⟨fun h=>Bool.noConfusion h,fun h=>absurd h.1 (by lia)⟩
theorem sc_33:FnScope ["word","signs","at","thing"] ["word","signs"] (defScope s_33):=⟨rfl,rfl,rfl,by decide +kernel,rfl,by decide +kernel,by decide +kernel⟩
theorem ok_33 (T:Txt K mg t) (G_53:Has P w K mg base 2 t.f_53 ["thing","signs"] (spSign)) (G_7:Has P w K mg base 1 t.f_7 ["self","at"] (spInit K t.c_62 t.c_47)):Has P w K mg base 3 t.f_33 ["word","signs"] (spCheck K t.c_62):=by
 refine has_mkX T.d_33 sc_33 (fun _ _ _ _ _ _ us hl=>match us,hl with | [_,_],_=>rfl) (fun vs H Q E h=>?_) (fun cdv A outer s H vs Q E hr h=>?_)
 ·obtain ⟨a,xs,g,rfl,hS,kd,h⟩:=h
  rfl
 obtain ⟨a,xs,g,rfl,hS,kd,h⟩:=h
 refine ⟨_,(pss_one (ps_for PassesOwn.leaving rfl (pi_enum rfl T.z_enumerate (pa_cons (pv 0) pa_nil)) (pg_tup rfl (pgs_cons (pg_name (i:=2) sc_33.nd rfl (Or.inl rfl)) (pgs_cons (pg_name (i:=3) sc_33.nd rfl (Or.inl rfl)) pgs_nil))) (pss_one (ps_if (pt_not (pt_val (pe_callH G_53 (hr.mono (by decide)) rfl T.m_53 passF (pa_cons (pv 3) (pa_cons (pv 1) pa_nil))))) (pss_one (ps_raiseH rfl T.xm_62 G_7 (hr.mono (by decide)) rfl T.m_62 raisesI_body (pa_cons (pv 2) pa_nil))) pss_nil)))),?_⟩
 refine ⟨_,rfl,a,xs,rfl,hS,?_⟩
 refine for_enum (xs:=xs) (fun i σ H1=>badIx g (xs.take i)=none∧(∃ x2 x3,σ=[some (.ref a),some (.int g),x2,x3])∧Same H H1) ⟨rfl,⟨none,none,rfl⟩,Same.refl _⟩ (fun i σ H1 _ z=>z.2.2.seq hS) ?_ ?_
 ·rintro i x p σ H1 hx ⟨hb,⟨x2,x3,rfl⟩,e⟩ hp
  have e2:Same H (upd H1 p (.tup [.int ((i:Nat):Int),x])):=e.trans (Same.new hp _)
  refine ⟨p,_,rfl,SqT.of upd_same,rfl,_,_,rfl,_,_,rfl,rfl,?_⟩
  walk_at "rd"
  refine ⟨x,g,rfl,(kd x (List.mem_of_getElem? hx)).same e2,?_⟩
  cases hs:sgn g x with
  | true =>
   walk_at "rd"
   exact ⟨badIx_step hb hx hs,⟨_,rfl⟩,e2⟩
  | false =>
   walk_at "rd"
   refine ⟨by decide,fun ea hea=>⟨ea,true,_,rfl,upd_same,fun dx hdx=>⟨rfl,some dx,?_,?_⟩⟩⟩
   ·rw [upd_ne (Ne.symm (upd_none hdx).1),upd_same]
   ·rw [badIx_here hb hx hs] at h
    exact h _ dx (same_raise e2 hea hdx) (by rw [drop_ne (upd_none hdx).1,upd_same])
 ·rintro σ H1 ⟨hb,_,e⟩
  rw [List.take_length] at hb
  rw [hb] at h
  exact h H1 e
theorem sc_16:FnScope ["word","signs","many"] ["word","signs","many"] (defScope s_16):=⟨rfl,rfl,rfl,by decide +kernel,rfl,by decide +kernel,by decide +kernel⟩
theorem ok_16 (T:Txt K mg t) (G_33:Has P w K mg base 3 t.f_33 ["word","signs"] (spCheck K t.c_62)) (G_7:Has P w K mg base 1 t.f_7 ["self","at"] (spInit K t.c_62 t.c_47)):Has P w K mg base 4 t.f_16 ["word","signs","many"] (spCheckLen K t.c_62):=by
 refine has_mkX T.d_16 sc_16 (fun _ _ _ _ _ _ us hl=>match us,hl with | [_,_,_],_=>rfl) (fun vs H Q E h=>?_) (fun cdv A outer s H vs Q E hr h=>?_)
 ·obtain ⟨a,xs,g,m,rfl,hS,kd,h⟩:=h
  rfl
 obtain ⟨a,xs,g,m,rfl,hS,kd,h⟩:=h
 refine ⟨_,(pss_cons (ps_expr (pe_callH G_33 (hr.mono (by decide)) rfl T.m_33 passes_body (pa_cons (pe_slice sl_list (pv 0) po_none (po_some (pv 2))) (pa_cons (pv 1) pa_nil))))
  (pss_one (ps_if (pt_cmpR op_ne (pe_callB call_len_seq rfl T.z_len PySem.boot_len (pa_cons (pv 0) pa_nil)) (pv 2) (nomark _)) (pss_one (ps_raiseH rfl T.xm_62 G_7 (hr.mono (by decide)) rfl T.m_62 raisesI_body (pa_cons (pe_callB (call_min2 rfl) rfl T.z_min PyProof.Rows.boot_min (pa_cons (pe_callB call_len_seq rfl T.z_len PySem.boot_len (pa_cons (pv 0) pa_nil)) (pa_cons (pv 2) pa_nil))) pa_nil))) pss_nil))),?_⟩
 walk_at "rd"
 refine sl_new hS fun p H1 e1 _ h1=>?_
 rw [cutV_to] at h1
 refine ⟨p,_,g,rfl,SqL.of h1,fun x hx=>(kd x (List.mem_of_mem_take hx)).same e1,?_⟩
 unfold badLen at h
 cases hb:badIx g (xs.take m) with
 | some i =>
  rw [hb] at h
  exact Bad.same e1 h
 | none =>
  rw [hb] at h
  dsimp only at h
  intro H2 e2
  refine ⟨xs,.inl ((e1.trans e2).seq hS),?_⟩
  by_cases hl:xs.length=m
  ·rw [if_pos hl] at h
   rw [if_neg (by lia)]
   exact h _ (e1.trans e2)
  ·rw [if_neg hl] at h
   rw [if_pos (by lia)]
   refine ⟨xs,.inl ((e1.trans e2).seq hS),by decide,fun ea hea=>⟨ea,true,_,rfl,upd_same,fun dx hdx=>⟨rfl,some dx,?_,?_⟩⟩⟩
   ·rw [upd_ne (Ne.symm (upd_none hdx).1),upd_same]
   ·refine h _ dx (same_raise (e1.trans e2) hea hdx) ?_
    rw [drop_ne (upd_none hdx).1,upd_same]
    have e:(if (m:Int)<(xs.length:Int) then (m:Int) else (xs.length:Int))=((min xs.length m:Nat):Int):=by split <;> lia
    rw [e]
theorem sc_45:FnScope ["word","signs","number","sign"] ["word","signs"] (defScope s_45):=⟨rfl,rfl,rfl,by decide +kernel,rfl,by decide +kernel,by decide +kernel⟩
theorem ok_45 (T:Txt K mg t) (G_33:Has P w K mg base 3 t.f_33 ["word","signs"] (spCheck K t.c_62)):Has P w K mg base 4 t.f_45 ["word","signs"] (spNumber K t.c_62):=by
 refine has_mkX T.d_45 sc_45 (fun _ _ _ _ _ _ us hl=>match us,hl with | [_,_],_=>rfl) (fun vs H Q E h=>?_) (fun cdv A outer s H vs Q E hr h=>?_)
 ·obtain ⟨a,xs,g,rfl,g2,g9,hS,kd,h⟩:=h
  rfl
 obtain ⟨a,xs,g,rfl,g2,g9,hS,kd,h⟩:=h
 refine ⟨_,(pss_cons (ps_expr (pe_callH G_33 (hr.mono (by decide)) rfl T.m_33 passes_body (pa_cons (pv 0) (pa_cons (pv 1) pa_nil))))
  (pss_cons (ps_set (i:=2) sc_45.nd rfl (Or.inl rfl) pe_int)
  (pss_cons (PS.nox (ps_for PassesOwn.never rfl (pi_list (pv 0)) (pg_name (i:=3) sc_45.nd rfl (Or.inl rfl)) (pss_one (ps_set (i:=2) sc_45.nd rfl (Or.inl rfl) (pe_op op_add (pe_op op_mul (pv 2) (pv 1)) (pv 3))))))
  (pss_one (ps_ret (pv 2)))))),?_⟩
 walk_at "rd"
 refine ⟨a,xs,g,rfl,hS,kd,?_⟩
 cases hb:badIx g xs with
 | some i =>
  rw [hb] at h
  exact h
 | none =>
  rw [hb] at h
  obtain ⟨ns,rfl,hns⟩:=badIx_none hb
  intro H1 e
  refine ⟨_,rfl,a,rfl,⟨_,e.seq hS⟩,?_⟩
  refine for_list (xs:=ns.map V.int) (fun i σ H2=>(∃ x3,σ=[some (.ref a),some (.int g),some (.int (num g (ns.take i))),x3])∧H2=H1) ⟨⟨none,rfl⟩,rfl⟩ (fun i σ H2 _ z=>by rw [z.2];exact e.seq hS) ?_ ?_
  ·rintro i x σ H2 hx ⟨⟨x3,rfl⟩,rfl⟩
   obtain ⟨n,hn,rfl⟩:=getInt hx
   walk_at "rd"
   refine ⟨.inr ⟨by lia,by lia⟩,?_⟩
   rw [num_take hn]
   exact ⟨rfl,_,rfl⟩
  ·rintro σ H2 ⟨⟨x3,rfl⟩,rfl⟩
   walk_at "rd"
   rw [List.length_map,List.take_length]
   exact h ns rfl _ e
theorem sc_56:FnScope ["number","signs","many","backwards","rest"] ["number","signs","many"] (defScope s_56):=⟨rfl,rfl,rfl,by decide +kernel,rfl,by decide +kernel,by decide +kernel⟩
theorem ok_56 (T:Txt K mg t) :HasN P w K mg base 1 t.f_56 ["number","signs","many"] (spWord t.c_58):=by
 refine has_mkN T.d_56 sc_56 (fun _ _ _ _ _ _ us hl=>match us,hl with | [_,_,_],_=>rfl) (fun vs H Q E h=>?_) (fun cdv A outer s H vs Q E hr h=>?_)
 ·obtain ⟨n,g,m,rfl,g2,g9,m0,m3,hbad,hgood⟩:=h
  rfl
 obtain ⟨n,g,m,rfl,g2,g9,m0,m3,hbad,hgood⟩:=h
 refine ⟨_,(pss_cons (ps_if (pt_cmpR op_lt (pv 0) pe_int (nomark _)) (pss_one (ps_raise rfl T.x_58 rfl T.m_58 raises_body (pa_cons pe_str pa_nil))) pss_nil)
  (pss_cons (ps_set (i:=3) sc_56.nd rfl (Or.inl rfl) (pe_lst pa_nil))
  (pss_cons (ps_set (i:=4) sc_56.nd rfl (Or.inl rfl) (pv 0))
  (pss_cons (PS.nox (ps_while PassesOwn.never (pt_cmpR op_lt (pe_callB call_len_seq rfl T.z_len PySem.boot_len (pa_cons (pv 3) pa_nil)) (pv 2) (nomark _)) (pss_cons (ps_expr (pe_bm PySem.F.plainAttrs_list PySem.F.slot_list_append PySem.F.type_list_append mt_append (pv 3) (pa_cons (pe_op op_mod (pv 4) (pv 1)) pa_nil)))
  (pss_one (ps_set (i:=4) sc_56.nd rfl (Or.inl rfl) (pe_op op_fdiv (pv 4) (pv 1)))))))
  (pss_cons (ps_if (pt_cmpR op_gt (pv 4) pe_int (nomark _)) (pss_one (ps_raise rfl T.x_58 rfl T.m_58 raises_body (pa_cons pe_str pa_nil))) pss_nil)
  (pss_one (ps_ret (pe_lrev rfl rfl T.z_reversed rfl T.z_list (pa_cons (pv 3) pa_nil))))))))),?_⟩
 walk_at "rd"
 by_cases hn:n<0
 ·rw [if_pos hn]
  exact ⟨by decide,hbad (.inl hn) H (Same.refl H)⟩
 rw [if_neg hn]
 refine ⟨Nat.zero_le _,fun p hp=>?_⟩
 refine while_by (fun σ H1=>∃ i:Nat,i≤m.toNat∧σ=[some (.int n),some (.int g),some (.int m),some (.ref p),some (.int (dr g n i))]∧H1=upd H p (.lst ((lows g n i).map V.int)))
  (fun σ H1=>match H1 p with | some (.lst xs)=>m.toNat - xs.length | _=>0) ⟨0,Nat.zero_le _,rfl,rfl⟩ ?_ ?_
 ·rintro σ H1 ⟨i,hi,rfl,rfl⟩
  walk_at "rd"
  have hl:((lows g n i).map V.int).length=i:=by rw [List.length_map,lows_length]
  refine ⟨_,.inl (SqL.of upd_same),?_⟩
  rw [hl]
  by_cases hlt:(i:Int)<m
  ·rw [if_pos hlt]
   refine ⟨.inl ⟨_,SqL.of upd_same⟩,by lia,_,upd_same,by rw [hl];exact small1000 (by lia),by lia,by lia,⟨i+1,by lia,rfl,?_⟩,?_⟩
   ·rw [upd_upd,lows,List.map_append];rfl
   ·rw [upd_same,upd_same]
    show m.toNat - (List.map V.int (lows g n i)++[V.int (dr g n i%g)]).length<m.toNat - (List.map V.int (lows g n i)).length
    rw [List.length_append,hl]
    simp only [List.length_cons,List.length_nil]
    lia
  ·rw [if_neg hlt]
   have ei:i=m.toNat:=by lia
   by_cases hd:0<dr g n i
   ·rw [if_pos hd]
    refine ⟨by decide,hbad (.inr (Int.not_lt.mp fun z=>?_)) _ (Same.new hp _)⟩
    rw [ei,dr_zero g2 (by lia) z] at hd
    lia
   ·rw [if_neg hd]
    refine ⟨_,SqL.of upd_same,fun r hr'=>hgood (by lia) (Int.not_le.mp fun z=>?_) r _ ⟨(Same.new hp _).trans (Same.new hr' _),(upd_none hr').2,?_⟩⟩
    ·rw [ei] at hd
     exact hd (dr_pos g2 z)
    ·rw [upd_same,ei,List.map_reverse]
 ·intro σ H1 Q1 Q2 hq
  walk_at "rd"
  rintro ⟨v,h1,p,h2,x,h3,v2,h4,x1,h5,h6⟩
  exact ⟨v,h1,p,h2,x,h3,v2,h4,x1,h5,hq _ _ h6⟩
theorem sc_32:FnScope ["signs","low"] ["signs","low"] (defScope s_32):=⟨rfl,rfl,rfl,by decide +kernel,rfl,by decide +kernel,by decide +kernel⟩
theorem ok_32 (T:Txt K mg t) (G_50:Has P w K mg base 1 t.f_50 ["thing"] (spWhole)):Has P w K mg base 2 t.f_32 ["signs","low"] (spHead t.c_57):=by
 refine has_mkX T.d_32 sc_32 (fun _ _ _ _ _ _ us hl=>match us,hl with | [_,_],_=>rfl) (fun vs H Q E h=>?_) (fun cdv A outer s H vs Q E hr h=>?_)
 ·obtain ⟨x,y,rfl,kx,ky,hg,hbad⟩:=h
  rfl
 obtain ⟨x,y,rfl,kx,ky,hg,hbad⟩:=h
 refine ⟨_,(pss_cons (ps_if (PW.pt (pw_or (pt_not (pt_val (pe_callH G_50 (hr.mono (by decide)) rfl T.m_50 passF (pa_cons (pv 0) pa_nil)))) (pw_or (pt_cmpR op_lt (pv 0) pe_int (nomark _)) (pw_or1 (pt_cmpR op_gt (pv 0) pe_int (nomark _)))))) (pss_one (ps_raise rfl T.x_57 rfl T.m_57 raises_body (pa_cons pe_str pa_nil))) pss_nil)
  (pss_one (ps_if (pt_not (pt_val (pe_callH G_50 (hr.mono (by decide)) rfl T.m_50 passF (pa_cons (pv 1) pa_nil)))) (pss_one (ps_raise rfl T.x_57 rfl T.m_57 raises_body (pa_cons pe_str pa_nil))) pss_nil))),?_⟩
 walk_at "rd"
 refine ⟨x,rfl,kx,isI x,rfl,?_⟩
 cases x with
 | int g =>
  show if true=false then _ else _
  rw [if_neg (by decide)]
  refine ⟨g,rfl,?_⟩
  by_cases h2:g<2
  ·rw [if_pos h2]
   exact ⟨by decide,hbad (by show ((decide (2≤g) && decide (g≤9)) && isI y)=false;rw [decide_eq_false (p:=2≤g) (by lia)];rfl)⟩
  rw [if_neg h2]
  refine ⟨g,rfl,?_⟩
  by_cases h9:9<g
  ·rw [if_pos h9]
   exact ⟨by decide,hbad (by show ((decide (2≤g) && decide (g≤9)) && isI y)=false;rw [decide_eq_false (p:=g≤9) (by lia),Bool.and_false];rfl)⟩
  rw [if_neg h9]
  have e:goodHead (.int g) y=isI y:=by
   show ((decide (2≤g) && decide (g≤9)) && isI y)=isI y
   rw [decide_eq_true (p:=2≤g) (by lia),decide_eq_true (p:=g≤9) (by lia)]
   rfl
  rw [e] at hg hbad
  refine ⟨y,rfl,ky,isI y,rfl,?_⟩
  cases hy:isI y with
  | false =>
   rw [if_pos rfl]
   exact ⟨by decide,hbad hy⟩
  | true =>
   rw [if_neg (by decide)]
   exact hg hy
 | _ =>
  show if false=false then _ else _
  rw [if_pos rfl]
  exact ⟨by decide,hbad rfl⟩
theorem sc_35:FnScope ["signs","length","many","words"] ["signs","length"] (defScope s_35):=⟨rfl,rfl,rfl,by decide +kernel,rfl,by decide +kernel,by decide +kernel⟩
theorem ok_35 (T:Txt K mg t) :Has P w K mg base 1 t.f_35 ["signs","length"] (spPlacesFor):=by
 refine has_mk0 T.d_35 sc_35 (fun _ _ _ _ _ _ us hl=>match us,hl with | [_,_],_=>rfl) (fun vs H Q E h=>?_) (fun cdv A outer s H vs Q E hr h=>?_)
 ·obtain ⟨g,n,rfl,g2,g9,hy,hn⟩:=h
  rfl
 obtain ⟨g,n,rfl,g2,g9,hy,hn⟩:=h
 refine ⟨_,(pss_cons (ps_set (i:=2) sc_35.nd rfl (Or.inl rfl) pe_int)
  (pss_cons (ps_set (i:=3) sc_35.nd rfl (Or.inl rfl) pe_int)
  (pss_cons (ps_while PassesOwn.never (pt_cmpR op_lt (pv 3) (pv 1) (nomark _)) (pss_cons (ps_set (i:=3) sc_35.nd rfl (Or.inl rfl) (pe_op op_mul (pv 3) (pv 0)))
  (pss_one (ps_set (i:=2) sc_35.nd rfl (Or.inl rfl) (pe_op op_add (pv 2) pe_int)))))
  (pss_cons (ps_if (pt_cmpR op_eq (pv 3) (pv 1) (nomark _)) (pss_one (ps_ret (pv 2))) pss_nil)
  (pss_one (ps_ret pe_int)))))),?_⟩
 walk_at "rd"
 refine while_by (fun σ H1=>∃ i:Nat,σ=[some (.int g),some (.int n),some (.int ((i:Nat):Int)),some (.int (g^i))]∧H1=H∧∀ j,j<i→g^j<n)
  (fun (σ:St) (H1:Hp)=>match σ[3]? with | some (some (V.int x))=>(n - x).toNat | _=>0) ⟨0,by rw [Int.pow_zero];rfl,rfl,fun j hj=>absurd hj (Nat.not_lt_zero _)⟩ ?_ ?_
 ·rintro σ H1 ⟨i,rfl,rfl,hj⟩
  have gp:=RW.pow_pos g2 i
  walk_at "rd"
  by_cases hlt:g^i<n
  ·rw [if_pos hlt]
   refine ⟨.inr ⟨by lia,by lia⟩,⟨i+1,rfl,?_,fun j hj2=>?_⟩,?_⟩
   ·rw [Int.pow_succ]
   ·by_cases z:j=i
    ·rw [z];exact hlt
    ·exact hj j (by lia)
   ·have:g^i<g^i*g:=by
     have:=Int.mul_le_mul_of_nonneg_left g2 (Int.le_of_lt gp)
     lia
    lia
  ·rw [if_neg hlt]
   by_cases he:g^i=n
   ·rw [if_pos he]
    exact hy i he.symm
   ·rw [if_neg he]
    refine hn fun m z=>?_
    by_cases hm:m<i
    ·have:=hj m hm
     lia
    ·have:=pow_mono g2 (Nat.le_of_not_lt hm)
     lia
 ·intro σ H1 Q1 Q2 hq
  walk_at "rd"
  rintro ⟨v,h1,v2,h2,i,h3,x,h4,h5⟩
  exact ⟨v,h1,v2,h2,i,h3,x,h4,hq _ _ h5⟩
theorem sc_17:FnScope ["signs","many","length","done"] ["signs","many"] (defScope s_17):=⟨rfl,rfl,rfl,by decide +kernel,rfl,by decide +kernel,by decide +kernel⟩
theorem ok_17 (T:Txt K mg t) :Has P w K mg base 1 t.f_17 ["signs","many"] (spTLen):=by
 refine has_mk0 T.d_17 sc_17 (fun _ _ _ _ _ _ us hl=>match us,hl with | [_,_],_=>rfl) (fun vs H Q E h=>?_) (fun cdv A outer s H vs Q E hr h=>?_)
 ·obtain ⟨g,m,rfl,g2,g9,m1,hy,hn⟩:=h
  rfl
 obtain ⟨g,m,rfl,g2,g9,m1,hy,hn⟩:=h
 refine ⟨_,(pss_cons (ps_set (i:=2) sc_17.nd rfl (Or.inl rfl) pe_int)
  (pss_cons (ps_set (i:=3) sc_17.nd rfl (Or.inl rfl) pe_int)
  (pss_cons (ps_while PassesOwn.never (PW.pt (pw_and (pt_cmpR op_lt (pv 3) (pv 1) (nomark _)) (pw_and1 (pt_cmpR op_le (pv 2) (pe_constE rfl T.g_LONGEST_TABLE) (nomark _))))) (pss_cons (ps_set (i:=2) sc_17.nd rfl (Or.inl rfl) (pe_op op_mul (pv 2) (pv 0)))
  (pss_one (ps_set (i:=3) sc_17.nd rfl (Or.inl rfl) (pe_op op_add (pv 3) pe_int)))))
  (pss_one (ps_ret (pv 2)))))),?_⟩
 walk_at "rd"
 refine while_by (fun σ H1=>∃ i:Nat,i≤m.toNat∧σ=[some (.int g),some (.int m),some (.int (g^i)),some (.int ((i:Nat):Int))]∧H1=H)
  (fun (σ:St) (H1:Hp)=>match σ[3]? with | some (some (V.int x))=>(m - x).toNat | _=>0) ⟨0,Nat.zero_le _,by rw [Int.pow_zero];rfl,rfl⟩ ?_ ?_
 ·rintro σ H1 ⟨i,hi,rfl,rfl⟩
  have gp:=RW.pow_pos g2 i
  walk_at "rd"
  by_cases hlt:(i:Int)<m
  ·rw [if_pos hlt]
   by_cases hle:g^i≤256
   ·rw [if_pos hle]
    exact ⟨.inr ⟨by lia,by lia⟩,⟨i+1,by lia,by rw [Int.pow_succ],by lia⟩,by lia⟩
   ·rw [if_neg hle]
    have:=pow_mono g2 hi
    exact hn (by lia) _ (by lia)
  ·rw [if_neg hlt]
   have ei:i=m.toNat:=by lia
   subst ei
   by_cases hle:g^m.toNat≤256
   ·exact hy hle
   ·exact hn (by lia) _ (by lia)
 ·intro σ H1 Q1 Q2 hq
  walk_at "rd"
  rintro ⟨v,h1,v2,h2,i,h3,x,h4,h5⟩
  refine ⟨v,h1,v2,h2,i,h3,x,h4,?_⟩
  by_cases z:i<x
  ·rw [if_pos z] at h5 ⊢
   obtain ⟨v3,h6,j,h7,h8⟩:=h5
   exact ⟨v3,h6,j,h7,hq _ _ h8⟩
  ·rw [if_neg z] at h5 ⊢
   exact hq _ _ h5
theorem sc_21:FnScope ["signs","table","told"] ["signs","table"] (defScope s_21):=⟨rfl,rfl,rfl,by decide +kernel,rfl,by decide +kernel,by decide +kernel⟩
theorem ok_21 (T:Txt K mg t) (G_35:Has P w K mg base 1 t.f_35 ["signs","length"] (spPlacesFor)) (G_53:Has P w K mg base 2 t.f_53 ["thing","signs"] (spSign)):Has P w K mg base 3 t.f_21 ["signs","table"] (spTable t.c_57):=by
 refine has_mkX T.d_21 sc_21 (fun _ _ _ _ _ _ us hl=>match us,hl with | [_,_],_=>rfl) (fun vs H Q E h=>?_) (fun cdv A outer s H vs Q E hr h=>?_)
 ·obtain ⟨g,z,rfl,g2,g9,kz,hg,hbad⟩:=h
  rfl
 obtain ⟨g,z,rfl,g2,g9,kz,hg,hbad⟩:=h
 refine ⟨_,(pss_cons (ps_if (pt_not (pt_val (pe_isiT rfl T.z_isinstance (pv 1) (pa_cons (pe_ty rfl T.z_list PyProof.Rows.boot_list) (pa_cons (pe_ty rfl T.z_tuple PyProof.Rows.boot_tuple) pa_nil))))) (pss_one (ps_raise rfl T.x_57 rfl T.m_57 raises_body (pa_cons pe_str pa_nil))) pss_nil)
  (pss_cons (ps_if (PW.pt (pw_or (pt_cmpR op_gt (pe_callB call_len_seq rfl T.z_len PySem.boot_len (pa_cons (pv 1) pa_nil)) (pe_constE rfl T.g_LONGEST_TABLE) (nomark _)) (pw_or1 (pt_cmpR op_eq (pe_callH G_35 (hr.mono (by decide)) rfl T.m_35 passF (pa_cons (pv 0) (pa_cons (pe_callB call_len_seq rfl T.z_len PySem.boot_len (pa_cons (pv 1) pa_nil)) pa_nil))) pe_int (nomark _))))) (pss_one (ps_raise rfl T.x_57 rfl T.m_57 raises_body (pa_cons pe_str pa_nil))) pss_nil)
  (pss_one (ps_for PassesOwn.leaving rfl (pi_or (pi_list (pv 1)) (pi_tup (pv 1))) (pg_name (i:=2) sc_21.nd rfl (Or.inl rfl)) (pss_one (ps_if (pt_not (pt_val (pe_callH G_53 (hr.mono (by decide)) rfl T.m_53 passF (pa_cons (pv 2) (pa_cons (pv 0) pa_nil))))) (pss_one (ps_raise rfl T.x_57 rfl T.m_57 raises_body (pa_cons pe_str pa_nil))) pss_nil)))))),?_⟩
 walk_at "rd"
 refine ⟨by decide,fun p hp=>?_⟩
 have e1:=Same.new hp (.tup [V.ty "list",V.ty "tuple"])
 have h1:upd H p (.tup [V.ty "list",V.ty "tuple"]) p=some (.tup [V.ty "list",V.ty "tuple"]):=upd_same
 generalize upd H p (HO.tup [V.ty "list",V.ty "tuple"])=H1 at e1 h1 ⊢
 cases z with
 | ref a =>
  obtain ⟨xs,hs,kx⟩:=kz
  have hs1:=hs.same e1
  have notk:¬ TabOk g xs→¬ tabGood H g (.ref a):=by
   rintro h ⟨b,ys,e,hs2,ok⟩
   cases e
   have:=hs.inj hs2
   subst this
   exact h ok
  obtain ⟨tt,ty,hk⟩:∃ tt,TyE K H1 (.ref a) tt∧PySem.W.kitAny K tt [.type "list",.type "tuple"]=some true:=hs1.elim (fun q=>⟨_,.of (.lst q),kiA ki_ll _⟩) fun q=>⟨_,.of (.tup q),kiB ki_tl (kiA ki_tt _)⟩
  refine ⟨tt,ty,_,h1,[.type "list",.type "tuple"],rfl,true,hk,?_⟩
  rw [if_neg (by decide)]
  refine ⟨a,rfl,xs,hs1.sq,?_⟩
  by_cases h256:(256:Int)<xs.length
  ·rw [if_pos h256]
   exact ⟨by decide,hbad (notk fun ok=>by have:=ok.1;lia) _ e1⟩
  rw [if_neg h256]
  refine ⟨a,rfl,xs,hs1.sq,g,_,rfl,g2,g9,fun m hm=>⟨rfl,?_⟩,fun hno=>⟨rfl,?_⟩⟩
  ·by_cases hm0:m=0
   ·subst hm0
    rw [if_pos (show V.int ((0:Nat):Int)=V.int 0 from rfl)]
    refine ⟨by decide,hbad (notk fun ok=>?_) _ e1⟩
    obtain ⟨m',hm1,hl⟩:=ok.2.1
    have:=pow_inj g2 (hm.symm.trans hl)
    lia
   rw [if_neg (by intro z;injection z with z;lia)]
   rcases hs1 with hL | hT
   ·refine Or.inl ⟨_,rfl,a,rfl,⟨_,SqL.of hL⟩,?_⟩
    refine for_list (xs:=xs) (fun i σ H2=>badIx g (xs.take i)=none∧(∃ x2,σ=[some (.int g),some (.ref a),x2])∧H2=H1) ⟨rfl,⟨none,rfl⟩,rfl⟩ (fun i σ H2 _ z=>by rw [z.2.2];exact SqL.of hL) ?_ ?_
    ·rintro i x σ H2 hx ⟨hb,⟨x2,rfl⟩,rfl⟩
     walk_at "rd"
     refine ⟨x,g,rfl,(kx x (List.mem_of_getElem? hx)).same e1,?_⟩
     cases hsg:sgn g x with
     | true =>
      walk_at "rd"
      exact ⟨badIx_step hb hx hsg,_,rfl⟩
     | false =>
      walk_at "rd"
      exact ⟨by decide,hbad (notk fun ok=>by have z:=ok.2.2;rw [badIx_here hb hx hsg] at z;cases z) _ e1⟩
    ·rintro σ H2 ⟨hb,_,rfl⟩
     rw [List.take_length] at hb
     exact hg ⟨a,xs,rfl,hs,by lia,⟨m,by lia,hm⟩,hb⟩ _ e1
   ·refine Or.inr ⟨_,rfl,a,rfl,⟨_,SqT.of hT⟩,?_⟩
    refine for_tup (xs:=xs) (fun i σ H2=>badIx g (xs.take i)=none∧(∃ x2,σ=[some (.int g),some (.ref a),x2])∧H2=H1) ⟨rfl,⟨none,rfl⟩,rfl⟩ (fun i σ H2 _ z=>by rw [z.2.2];exact SqT.of hT) ?_ ?_
    ·rintro i x σ H2 hx ⟨hb,⟨x2,rfl⟩,rfl⟩
     walk_at "rd"
     refine ⟨x,g,rfl,(kx x (List.mem_of_getElem? hx)).same e1,?_⟩
     cases hsg:sgn g x with
     | true =>
      walk_at "rd"
      exact ⟨badIx_step hb hx hsg,_,rfl⟩
     | false =>
      walk_at "rd"
      exact ⟨by decide,hbad (notk fun ok=>by have z:=ok.2.2;rw [badIx_here hb hx hsg] at z;cases z) _ e1⟩
    ·rintro σ H2 ⟨hb,_,rfl⟩
     rw [List.take_length] at hb
     exact hg ⟨a,xs,rfl,hs,by lia,⟨m,by lia,hm⟩,hb⟩ _ e1
  ·rw [if_pos rfl]
   refine ⟨by decide,hbad (notk fun ok=>?_) _ e1⟩
   obtain ⟨m',_,hl⟩:=ok.2.1
   exact hno m' hl
 | non =>
  refine ⟨_,.of .non,_,h1,[.type "list",.type "tuple"],rfl,false,kiB ki_nl (kiB ki_nt rfl),?_⟩
  rw [if_pos rfl]
  exact ⟨by decide,hbad (fun ⟨_,_,e,_⟩=>nomatch e) _ e1⟩
 | str y =>
  refine ⟨_,.of (.str y),_,h1,[.type "list",.type "tuple"],rfl,false,kiB ki_sl (kiB ki_st rfl),?_⟩
  rw [if_pos rfl]
  exact ⟨by decide,hbad (fun ⟨_,_,e,_⟩=>nomatch e) _ e1⟩
 | int y =>
  refine ⟨_,.of (.int y),_,h1,[.type "list",.type "tuple"],rfl,false,kiB ki_il (kiB ki_it rfl),?_⟩
  rw [if_pos rfl]
  exact ⟨by decide,hbad (fun ⟨_,_,e,_⟩=>nomatch e) _ e1⟩
 | bl y =>
  refine ⟨_,.of (.bl y),_,h1,[.type "list",.type "tuple"],rfl,false,kiB ki_bl (kiB ki_bt rfl),?_⟩
  rw [if_pos rfl]
  exact ⟨by decide,hbad (fun ⟨_,_,e,_⟩=>nomatch e) _ e1⟩
 | byt _=>exact kz.elim
 | flt _=>exact kz.elim
 | ty _=>exact kz.elim
theorem sc_68:FnScope ["signs","low","table"] ["signs","low","table"] (defScope s_68):=⟨rfl,rfl,rfl,by decide +kernel,rfl,by decide +kernel,by decide +kernel⟩
theorem ok_68 (T:Txt K mg t) (G_32:Has P w K mg base 2 t.f_32 ["signs","low"] (spHead t.c_57)) (G_21:Has P w K mg base 3 t.f_21 ["signs","table"] (spTable t.c_57)):Has P w K mg base 4 t.f_68 ["signs","low","table"] (spRule t.c_57):=by
 refine has_mkX T.d_68 sc_68 (fun _ _ _ _ _ _ us hl=>match us,hl with | [_,_,_],_=>rfl) (fun vs H Q E h=>?_) (fun cdv A outer s H vs Q E hr h=>?_)
 ·obtain ⟨x,y,z,rfl,kx,ky,kz,hg,hbad⟩:=h
  rfl
 obtain ⟨x,y,z,rfl,kx,ky,kz,hg,hbad⟩:=h
 refine ⟨_,(pss_cons (ps_expr (pe_callH G_32 (hr.mono (by decide)) rfl T.m_32 passes_body (pa_cons (pv 0) (pa_cons (pv 1) pa_nil))))
  (pss_cons (ps_expr (pe_callH G_21 (hr.mono (by decide)) rfl T.m_21 passes_body (pa_cons (pv 0) (pa_cons (pv 2) pa_nil))))
  (pss_one (ps_ret (pe_tup (pa_cons (pv 0) (pa_cons (pv 1) (pa_cons (pe_callTy call_tuple_of rfl T.z_tuple PyProof.Rows.boot_tuple (pa_cons (pv 2) pa_nil)) pa_nil)))))))),?_⟩
 walk_at "rd"
 refine ⟨x,y,rfl,kx,ky,fun hgood=>?_,fun hb=>hbad (fun h=>by rw [h.1] at hb;cases hb) _ (Same.refl _)⟩
 obtain ⟨g,lo,rfl,rfl,g2,g9⟩:=goodHead_inv hgood
 refine ⟨g,z,rfl,g2,g9,kz,fun ok H1 e1=>?_,fun nok H1 e1=>hbad (fun h=>?_) _ e1⟩
 ·obtain ⟨a,xs,rfl,hs,ok⟩:=ok
  obtain ⟨tab,rfl,htab⟩:=badIx_none ok.2.2
  refine ⟨a,rfl,tab.map V.int,?_⟩
  rcases hs with hL | hT
  ·refine .inl ⟨SqL.of (e1 _ _ hL),fun l hl=>⟨by decide,fun p hp=>?_⟩⟩
   have e2:=Same.new hl (.tup (tab.map V.int))
   have e3:=Same.new hp (.tup [.int g,.int lo,.ref l])
   exact hg g lo tab a rfl rfl rfl (.inl hL) g2 g9 ok htab p _ ((e1.trans e2).trans e3) ⟨l,upd_same,e3 _ _ upd_same⟩
  ·refine .inr ⟨SqT.of (e1 _ _ hT),by decide,fun p hp=>?_⟩
   have e3:=Same.new hp (.tup [.int g,.int lo,.ref a])
   exact hg g lo tab a rfl rfl rfl (.inr hT) g2 g9 ok htab p _ (e1.trans e3) ⟨a,upd_same,e3 _ _ (e1 _ _ hT)⟩
 ·obtain ⟨_,g',e,h'⟩:=h
  cases e
  exact nok h'
theorem sc_61:FnScope ["one"] ["one"] (defScope s_61):=⟨rfl,rfl,rfl,by decide +kernel,rfl,by decide +kernel,by decide +kernel⟩
theorem ok_61 (T:Txt K mg t) (G_35:Has P w K mg base 1 t.f_35 ["signs","length"] (spPlacesFor)):Has P w K mg base 2 t.f_61 ["one"] (spPlaces):=by
 refine has_mk0 T.d_61 sc_61 (fun _ _ _ _ _ _ us hl=>match us,hl with | [_],_=>rfl) (fun vs H Q E h=>?_) (fun cdv A outer s H vs Q E hr h=>?_)
 ·obtain ⟨r,g,lo,tab,m,rfl,g2,g9,⟨tb,h1,h2⟩,hl,q⟩:=h
  rfl
 obtain ⟨r,g,lo,tab,m,rfl,g2,g9,⟨tb,h1,h2⟩,hl,q⟩:=h
 refine ⟨_,(pss_one (ps_ret (pe_callH G_35 (hr.mono (by decide)) rfl T.m_35 passF (pa_cons (pe_ix ix_tup (pv 0) pe_int (fun _ _=>rfl)) (pa_cons (pe_callB call_len_seq rfl T.z_len PySem.boot_len (pa_cons (pe_ix ix_tup (pv 0) pe_int (fun _ _=>rfl)) pa_nil)) pa_nil))))),?_⟩
 walk_at "rd"
 refine ⟨r,_,0,.int g,rfl,rfl,SqT.of h1,atI_nat rfl,r,_,2,.ref tb,rfl,rfl,SqT.of h1,atI_nat rfl,?_⟩
 walk_at "rd"
 refine ⟨_,.inr (SqT.of h2),g,_,rfl,g2,g9,fun m' e=>?_,fun z=>?_⟩
 ·rw [List.length_map,hl] at e
  rw [←pow_inj g2 e]
  exact q
 ·exact absurd (by rw [List.length_map,hl]) (z m)
theorem sc_44:FnScope ["one","word"] ["one","word"] (defScope s_44):=⟨rfl,rfl,rfl,by decide +kernel,rfl,by decide +kernel,by decide +kernel⟩
theorem ok_44 (T:Txt K mg t) (G_16:Has P w K mg base 4 t.f_16 ["word","signs","many"] (spCheckLen K t.c_62)) (G_61:Has P w K mg base 2 t.f_61 ["one"] (spPlaces)) (G_45:Has P w K mg base 4 t.f_45 ["word","signs"] (spNumber K t.c_62)):Has P w K mg base 5 t.f_44 ["one","word"] (spNext K t.c_62):=by
 refine has_mkX T.d_44 sc_44 (fun _ _ _ _ _ _ us hl=>match us,hl with | [_,_],_=>rfl) (fun vs H Q E h=>?_) (fun cdv A outer s H vs Q E hr h=>?_)
 ·obtain ⟨r,a,g,lo,tab,m,xs,rfl,g2,g9,hR,hl,hS,kd,h⟩:=h
  rfl
 obtain ⟨r,a,g,lo,tab,m,xs,rfl,g2,g9,hR,hl,hS,kd,h⟩:=h
 refine ⟨_,(pss_cons (ps_expr (pe_callH G_16 (hr.mono (by decide)) rfl T.m_16 passes_body (pa_cons (pv 1) (pa_cons (pe_ix ix_tup (pv 0) pe_int (fun _ _=>rfl)) (pa_cons (pe_callH G_61 (hr.mono (by decide)) rfl T.m_61 passF (pa_cons (pv 0) pa_nil)) pa_nil)))))
  (pss_one (ps_ret (pe_ix ix_tup (pe_ix ix_tup (pv 0) pe_int (fun _ _=>rfl)) (pe_callH G_45 (hr.mono (by decide)) rfl T.m_45 passes_body (pa_cons (pv 1) (pa_cons (pe_ix ix_tup (pv 0) pe_int (fun _ _=>rfl)) pa_nil))) (fun _ _=>rfl))))),?_⟩
 obtain ⟨tb,h1,h2⟩:=id hR
 walk_at "rd"
 refine ⟨r,_,0,_,rfl,rfl,SqT.of h1,rfl,r,g,lo,tab,m,rfl,g2,g9,hR,hl,a,xs,g,m,rfl,hS,kd,?_⟩
 cases hb:badLen g m xs with
 | some i =>
  rw [hb] at h
  exact h
 | none =>
  rw [hb] at h
  obtain ⟨hlen,hbi⟩:=badLen_none hb
  obtain ⟨ns,rfl,hns⟩:=badIx_none hbi
  rw [List.length_map] at hlen
  intro H1 e1
  refine ⟨r,_,2,_,rfl,rfl,SqT.of (e1 _ _ h1),rfl,r,_,0,_,rfl,rfl,SqT.of (e1 _ _ h1),rfl,a,_,g,rfl,g2,g9,e1.seq hS,kd_ints,?_⟩
  rw [hbi]
  intro ms hms H2 e2
  have:=ints_inj hms
  subst this
  have nb:=num_lt g2 hns
  rw [hlen,←hl] at nb
  refine ⟨tb,_,_,.int (tab.getD (num g ns).toNat 0),rfl,rfl,SqT.of (e2 _ _ (e1 _ _ h2)),?_,h ns rfl _ (e1.trans e2)⟩
  have z:=getAt (ns:=tab) (k:=(num g ns).toNat) (by lia)
  rw [show (((num g ns).toNat:Nat):Int)=num g ns by lia] at z
  exact z
theorem sc_65:FnScope ["one"] ["one"] (defScope s_65):=⟨rfl,rfl,rfl,by decide +kernel,rfl,by decide +kernel,by decide +kernel⟩
theorem ok_65 (T:Txt K mg t) :Has P w K mg base 1 t.f_65 ["one"] (spHeads):=by
 refine has_mk0 T.d_65 sc_65 (fun _ _ _ _ _ _ us hl=>match us,hl with | [_],_=>rfl) (fun vs H Q E h=>?_) (fun cdv A outer s H vs Q E hr h=>?_)
 ·obtain ⟨r,g,lo,tab,m,rfl,ok,q⟩:=h
  rfl
 obtain ⟨r,g,lo,tab,m,rfl,ok,q⟩:=h
 refine ⟨_,(pss_one (ps_ret (pe_op op_fdiv (pe_callB call_len_seq rfl T.z_len PySem.boot_len (pa_cons (pe_ix ix_tup (pv 0) pe_int (fun _ _=>rfl)) pa_nil)) (pe_ix ix_tup (pv 0) pe_int (fun _ _=>rfl))))),?_⟩
 obtain ⟨tb,h1,h2⟩:=id ok.v
 have g2:=ok.g2
 have g9:=ok.g9
 have m1:=ok.m1
 have m8:=ok.m8
 have hl:=ok.len
 have sz:=ok.sz
 have hlm:(tab.map V.int).length=tab.length:=List.length_map ..
 walk_at "rd"
 refine ⟨r,_,2,_,rfl,rfl,SqT.of h1,rfl,?_⟩
 walk_at "rd"
 refine ⟨_,.inr (SqT.of h2),r,_,0,_,rfl,rfl,SqT.of h1,rfl,g,rfl,by lia,by lia,?_⟩
 have e:(((tab.map V.int).length:Nat):Int) / g=((tab.length / g.toNat:Nat):Int):=by
  rw [hlm,Int.natCast_ediv,Int.toNat_of_nonneg (by lia)]
 rw [e]
 exact q
theorem sc_67:FnScope ["one","row","signs","table","short","number","told","at","sign"] ["one","row"] (defScope s_67):=⟨rfl,rfl,rfl,by decide +kernel,rfl,by decide +kernel,by decide +kernel⟩
theorem ok_67 (T:Txt K mg t) (G_61:Has P w K mg base 2 t.f_61 ["one"] (spPlaces)):Has P w K mg base 3 t.f_67 ["one","row"] (spLead K):=by
 refine has_mk0 T.d_67 sc_67 (fun _ _ _ _ _ _ us hl=>match us,hl with | [_,_],_=>rfl) (fun vs H Q E h=>?_) (fun cdv A outer s H vs Q E hr h=>?_)
 ·obtain ⟨r,a,g,lo,tab,m,ns,rfl,g2,g9,hR,hl,m1,hS,hb,hn,q⟩:=h
  rfl
 obtain ⟨r,a,g,lo,tab,m,ns,rfl,g2,g9,hR,hl,m1,hS,hb,hn,q⟩:=h
 refine ⟨_,(pss_cons (ps_set (i:=2) sc_67.nd rfl (Or.inl rfl) (pe_ix ix_tup (pv 0) pe_int (fun _ _=>rfl)))
  (pss_cons (ps_set (i:=3) sc_67.nd rfl (Or.inl rfl) (pe_ix ix_tup (pv 0) pe_int (fun _ _=>rfl)))
  (pss_cons (ps_set (i:=4) sc_67.nd rfl (Or.inl rfl) (pe_op op_sub (pe_callH G_61 (hr.mono (by decide)) rfl T.m_61 passF (pa_cons (pv 0) pa_nil)) pe_int))
  (pss_cons (ps_set (i:=5) sc_67.nd rfl (Or.inl rfl) pe_int)
  (pss_cons (ps_set (i:=6) sc_67.nd rfl (Or.inl rfl) (pe_lst pa_nil))
  (pss_cons (ps_for PassesOwn.never rfl (pi_enum rfl T.z_enumerate (pa_cons (pv 1) pa_nil)) (pg_tup rfl (pgs_cons (pg_name (i:=7) sc_67.nd rfl (Or.inl rfl)) (pgs_cons (pg_name (i:=8) sc_67.nd rfl (Or.inl rfl)) pgs_nil))) (pss_cons (ps_set (i:=5) sc_67.nd rfl (Or.inl rfl) (pe_op op_mod (pe_op op_add (pe_op op_mul (pv 5) (pv 2)) (pv 8)) (pe_callB call_len_seq rfl T.z_len PySem.boot_len (pa_cons (pv 3) pa_nil))))
  (pss_one (ps_if (pt_cmpR op_ge (pv 7) (pv 4) (nomark _)) (pss_one (ps_expr (pe_bm PySem.F.plainAttrs_list PySem.F.slot_list_append PySem.F.type_list_append mt_append (pv 6) (pa_cons (pe_ix ix_tup (pv 3) (pv 5) (fun _ _=>rfl)) pa_nil)))) pss_nil))))
  (pss_one (ps_ret (pv 6))))))))),?_⟩
 obtain ⟨tb,h1,h2⟩:=id hR
 walk_at "rd"
 refine ⟨r,_,0,_,rfl,rfl,SqT.of h1,rfl,?_⟩
 walk_at "rd"
 refine ⟨r,_,2,_,rfl,rfl,SqT.of h1,rfl,?_⟩
 walk_at "rd"
 refine ⟨r,g,lo,tab,m,rfl,g2,g9,hR,hl,?_⟩
 walk_at "rd"
 refine ⟨Nat.zero_le _,fun p hp=>?_⟩
 have gp:=RW.pow_pos g2 m
 refine ⟨_,rfl,a,_,rfl,(Same.new hp _).seq hS,?_⟩
 refine for_enum (xs:=ns.map V.int) (fun i σ H1=>(∃ x7 x8,σ=[some (.ref r),some (.ref a),some (.int g),some (.ref tb),some (.int ((m:Int) - 1)),some (.int (num g (ns.take i)%g^m)),some (.ref p),x7,x8])∧Same H H1∧H1 p=some (.lst (((List.range (i+1 - m)).map (winS g tab m ns)).map V.int))) ⟨⟨none,none,by rw [List.take_zero];rfl⟩,Same.new hp _,by rw [upd_same,show 0+1 - m=0 by lia];rfl⟩ (fun i σ H1 _ z=>z.2.1.seq hS) ?_ ?_
 ·rintro i x p2 σ H1 hx ⟨⟨x7,x8,rfl⟩,e,hp1⟩ hp2
  obtain ⟨n,hn1,rfl⟩:=getInt hx
  have hi:i<ns.length:=(List.getElem?_eq_some_iff.mp hn1).1
  have e2:Same H (upd H1 p2 (.tup [.int ((i:Nat):Int),.int n])):=e.trans (Same.new hp2 _)
  have hp3:=Same.new hp2 (.tup [.int ((i:Nat):Int),.int n]) _ _ hp1
  refine ⟨p2,_,rfl,SqT.of upd_same,rfl,_,_,rfl,_,_,rfl,rfl,?_⟩
  walk_at "rd"
  have htl:((tab.map V.int).length:Int)=g^m:=by rw [List.length_map,hl]
  have hst:(num g (ns.take i)%g^m*g+n)%g^m=num g (ns.take (i+1))%g^m:=by rw [mod_step,num_take hn1]
  refine ⟨.inr ⟨by lia,by lia⟩,_,.inr (SqT.of (e2 _ _ h2)),by lia,?_⟩
  rw [htl,hst]
  by_cases hge:(m:Int) - 1≤(i:Int)
  ·rw [if_pos hge]
   have hw:=num_win g2 hb (k:=i+1 - m) (m:=m) (by lia)
   rw [show i+1 - m+m=i+1 by lia] at hw
   have wi:=win_in g2 hb hl (k:=i+1 - m) (by lia)
   rw [hw]
   refine ⟨.inl ⟨_,SqL.of hp3⟩,tb,_,_,_,rfl,rfl,SqT.of (e2 _ _ h2),getAtZ wi.1 wi.2,_,hp3,?_,rfl,⟨_,rfl⟩,e2.into hp,?_⟩
   ·rw [List.length_map,List.length_map,List.length_range]
    exact small1000 (by lia)
   ·rw [upd_same,show i+1+1 - m=(i+1 - m)+1 by lia,range_succ_map,List.map_append]
    rfl
  ·rw [if_neg hge]
   refine ⟨rfl,⟨_,rfl⟩,e2,?_⟩
   rw [hp3,show i+1 - m=0 by lia,show i+1+1 - m=0 by lia]
 ·rintro σ H1 ⟨⟨x7,x8,rfl⟩,e,hp1⟩
  walk_at "rd"
  rw [List.length_map] at hp1
  exact q p H1 ⟨e,hp,hp1⟩
theorem sc_43:FnScope ["one","ring","many","first"] ["one","ring"] (defScope s_43):=⟨rfl,rfl,rfl,by decide +kernel,rfl,by decide +kernel,by decide +kernel⟩
theorem ok_43 (T:Txt K mg t) (G_67:Has P w K mg base 3 t.f_67 ["one","row"] (spLead K)) (G_61:Has P w K mg base 2 t.f_61 ["one"] (spPlaces)):Has P w K mg base 4 t.f_43 ["one","ring"] (spLeadRing K):=by
 refine has_mk0 T.d_43 sc_43 (fun _ _ _ _ _ _ us hl=>match us,hl with | [_,_],_=>rfl) (fun vs H Q E h=>?_) (fun cdv A outer s H vs Q E hr h=>?_)
 ·obtain ⟨r,a,g,lo,tab,m,ns,rfl,g2,g9,hR,hl,m1,m8,hS,hb,n1,n8,q⟩:=h
  rfl
 obtain ⟨r,a,g,lo,tab,m,ns,rfl,g2,g9,hR,hl,m1,m8,hS,hb,n1,n8,q⟩:=h
 refine ⟨_,(pss_cons (ps_set (i:=2) sc_43.nd rfl (Or.inr rfl) (pe_callB call_len_seq rfl T.z_len PySem.boot_len (pa_cons (pv 1) pa_nil)))
  (pss_cons (ps_set (i:=3) sc_43.nd rfl (Or.inr rfl) (pe_op op_mod (pe_ix ix_tup (pv 0) pe_int (fun _ _=>rfl)) (pv 2)))
  (pss_one (ps_ret (pe_callH G_67 (hr.mono (by decide)) rfl T.m_67 passF (pa_cons (pv 0) (pa_cons (pe_comp (fv:=[(1,"ring"),(2,"many"),(3,"first")]) (cl:=[("ring",_),("many",_),("first",_)]) rfl (pi_range1 rfl T.z_range (pa_cons (pe_op op_sub (pe_op op_add (pv 2) (pe_callH G_61 (hr.mono (by decide)) rfl T.m_61 passF (pa_cons (pv 0) pa_nil))) pe_int) pa_nil)) (by with_unfolding_all rfl) (by decide +kernel) rfl (by decide +kernel) rfl ⟨(by with_unfolding_all rfl),⟨(by with_unfolding_all rfl),⟨(by with_unfolding_all rfl),trivial⟩⟩⟩ (by with_unfolding_all rfl) ⟨⟨rfl,rfl,(by with_unfolding_all rfl),rfl⟩,⟨⟨rfl,rfl,(by with_unfolding_all rfl),rfl⟩,⟨⟨rfl,rfl,(by with_unfolding_all rfl),rfl⟩,trivial⟩⟩⟩ (by decide) (fun _ _ _ _=>pf_nil) (fun _ _ _ _=>(pe_ix (ix_listK (K:=K) rfl) (pv 1) (pe_op op_mod (pe_op op_add (pv 3) (pv 0)) (pv 2)) (fun _ _=>rfl)))) pa_nil))))))),?_⟩
 obtain ⟨tb,h1,h2⟩:=id hR
 have hns:(ns.map V.int).length=ns.length:=List.length_map ..
 walk_at "rd"
 refine ⟨_,.inl hS,?_⟩
 rw [hns]
 refine ⟨r,_,1,_,rfl,rfl,SqT.of h1,rfl,lo,rfl,by lia,?_⟩
 refine ⟨_,rfl,_,rfl,r,g,lo,tab,m,rfl,g2,g9,hR,hl,_,_,rfl,rfl,_,_,rfl,rfl,_,rfl,by lia,by lia,fun D hD=>?_⟩
 rw [show ((ns.length:Int)+(m:Int) - 1).toNat=ns.length+m - 1 by lia]
 refine comp_range (n:=ns.length+m - 1) (fun i acc Hx=>acc=((List.range i).map fun k:Nat=>ringAt ns (lo%(ns.length:Int)+(k:Int))).map V.int∧Hx=upd H D (.lst acc)) ⟨rfl,rfl⟩ ?_ ?_
 ·rintro i acc Hx hi ⟨rfl,rfl⟩
  have rz:=mod_nat (z:=lo%(ns.length:Int)+(i:Int)) n1
  walk_at "rd"
  refine ⟨by lia,?_⟩
  rw [Int.zero_add]
  refine ⟨a,_,_,_,rfl,rfl,(Same.new hD _).seq hS,getAtZ (by lia) rz.1,upd_same,?_,?_,by rw [upd_upd]⟩
  ·rw [List.length_map,List.length_map,List.length_range]
   exact small1000 (by lia)
  ·rw [range_succ_map,List.map_append]
   rfl
 ·rintro acc Hx ⟨rfl,rfl⟩
  refine ⟨r,D,g,lo,tab,m,ringE lo m ns,rfl,g2,g9,hR.same (Same.new hD _),hl,m1,SqL.of upd_same,ringE_lt g2 hb lo m,?_,fun p H' hN=>?_⟩
  ·unfold ringE
   rw [List.length_map,List.length_range]
   lia
  ·rw [led_ringE g lo tab ns m1] at hN
   exact q p H' ⟨(Same.new hD _).trans hN.1,(Same.new hD _).free hN.2.1,hN.2.2⟩
theorem sc_59:FnScope ["one","weight","table","number","told","there"] ["one","weight"] (defScope s_59):=⟨rfl,rfl,rfl,by decide +kernel,rfl,by decide +kernel,by decide +kernel⟩
theorem ok_59 (T:Txt K mg t) :Has P w K mg base 1 t.f_59 ["one","weight"] (spCounts):=by
 refine has_mk0 T.d_59 sc_59 (fun _ _ _ _ _ _ us hl=>match us,hl with | [_,_],_=>rfl) (fun vs H Q E h=>?_) (fun cdv A outer s H vs Q E hr h=>?_)
 ·obtain ⟨r,g,lo,tab,wt,rfl,g2,g9,hR,w0,w3,tl,q⟩:=h
  rfl
 obtain ⟨r,g,lo,tab,wt,rfl,g2,g9,hR,w0,w3,tl,q⟩:=h
 refine ⟨_,(pss_cons (ps_set (i:=2) sc_59.nd rfl (Or.inl rfl) (pe_ix ix_tup (pv 0) pe_int (fun _ _=>rfl)))
  (pss_cons (ps_for PassesOwn.never rfl (pi_enumT rfl T.z_enumerate (pa_cons (pv 2) pa_nil)) (pg_tup rfl (pgs_cons (pg_name (i:=3) sc_59.nd rfl (Or.inl rfl)) (pgs_cons (pg_name (i:=4) sc_59.nd rfl (Or.inl rfl)) pgs_nil))) (pss_cons (ps_set (i:=5) sc_59.nd rfl (Or.inl rfl) (pe_op op_mod (pe_op op_fdiv (pv 3) (pv 1)) (pe_ix ix_tup (pv 0) pe_int (fun _ _=>rfl))))
  (pss_one (ps_if (pt_cmpR op_ne (pv 4) (pe_ix ix_tup (pv 2) (pe_op op_sub (pv 3) (pe_op op_mul (pv 5) (pv 1))) (fun _ _=>rfl)) (nomark _)) (pss_one (ps_ret pe_bl)) pss_nil))))
  (pss_one (ps_ret pe_bl)))),?_⟩
 obtain ⟨tb,h1,h2⟩:=id hR
 walk_at "rd"
 refine ⟨r,_,2,_,rfl,rfl,SqT.of h1,rfl,?_⟩
 walk_at "rd"
 refine ⟨_,rfl,tb,_,rfl,SqT.of h2,?_⟩
 refine for_enumT (xs:=tab.map V.int) (fun i σ H1=>(∃ x3 x4 x5,σ=[some (.ref r),some (.int wt),some (.ref tb),x3,x4,x5])∧Same H H1∧∀ k,k<i→tab.getD k 0=tab.getD ((k:Int) - (k:Int) / wt%g*wt).toNat 0) ⟨⟨none,none,none,rfl⟩,Same.refl _,fun k hk=>absurd hk (Nat.not_lt_zero _)⟩ (fun i σ H1 _ z=>SqT.of (z.2.1 _ _ h2)) ?_ ?_
 ·rintro i x p2 σ H1 hx ⟨⟨x3,x4,x5,rfl⟩,e,hall⟩ hp2
  obtain ⟨n,hn,rfl⟩:=getInt hx
  have hi:i<tab.length:=(List.getElem?_eq_some_iff.mp hn).1
  have e2:Same H (upd H1 p2 (.tup [.int ((i:Nat):Int),.int n])):=e.trans (Same.new hp2 _)
  refine ⟨p2,_,rfl,SqT.of upd_same,rfl,_,_,rfl,_,_,rfl,rfl,?_⟩
  walk_at "rd"
  have ix:=cnt_ix (k:=(i:Int)) (w:=wt) (g:=g) (by lia) w0 g2
  have gA:=getAtZ (ns:=tab) ix.1 (by lia)
  have ng:n=tab.getD i 0:=by rw [List.getD_eq_getElem?_getD,hn];rfl
  refine ⟨w0,by lia,r,_,0,_,rfl,rfl,SqT.of (e2 _ _ h1),rfl,g,rfl,by lia,.inr ⟨by lia,by lia⟩,tb,_,_,_,rfl,rfl,SqT.of (e2 _ _ h2),gA,rfl,?_⟩
  by_cases hd:V.int n=V.int (tab.getD ((i:Int) - (i:Int) / wt%g*wt).toNat 0)
  ·rw [if_neg (fun z=>z hd)]
   refine ⟨⟨_,rfl⟩,e2,fun k hk=>?_⟩
   by_cases z:k=i
   ·subst z
    rw [←ng]
    exact V.int.inj hd
   ·exact hall k (by lia)
  ·rw [if_pos hd]
   have z:cntB g tab wt=true:=cntB_true.mpr ⟨i,hi,fun y=>hd (by rw [ng,y])⟩
   rw [z] at q
   exact q _ e2
 ·rintro σ H1 ⟨⟨x3,x4,x5,rfl⟩,e,hall⟩
  walk_at "rd"
  rw [List.length_map] at hall
  have z:cntB g tab wt=false:=by
   cases z:cntB g tab wt with
   | false=>rfl
   | true =>
    obtain ⟨k,hk,h⟩:=cntB_true.mp z
    exact absurd (hall k hk) h
  rw [z] at q
  exact q H1 e
theorem sc_48:FnScope ["one","found","weight","at"] ["one"] (defScope s_48):=⟨rfl,rfl,rfl,by decide +kernel,rfl,by decide +kernel,by decide +kernel⟩
theorem ok_48 (T:Txt K mg t) (G_61:Has P w K mg base 2 t.f_61 ["one"] (spPlaces)) (G_59:Has P w K mg base 1 t.f_59 ["one","weight"] (spCounts)):Has P w K mg base 3 t.f_48 ["one"] (spCounting):=by
 refine has_mk0 T.d_48 sc_48 (fun _ _ _ _ _ _ us hl=>match us,hl with | [_],_=>rfl) (fun vs H Q E h=>?_) (fun cdv A outer s H vs Q E hr h=>?_)
 ·obtain ⟨r,g,lo,tab,m,rfl,g2,g9,hR,hl,m1,m8,gm,q⟩:=h
  rfl
 obtain ⟨r,g,lo,tab,m,rfl,g2,g9,hR,hl,m1,m8,gm,q⟩:=h
 refine ⟨_,(pss_cons (ps_set (i:=1) sc_48.nd rfl (Or.inl rfl) (pe_lst pa_nil))
  (pss_cons (ps_set (i:=2) sc_48.nd rfl (Or.inl rfl) (pe_callB call_len_seq rfl T.z_len PySem.boot_len (pa_cons (pe_ix ix_tup (pv 0) pe_int (fun _ _=>rfl)) pa_nil)))
  (pss_cons (ps_for PassesOwn.never rfl (pi_range1 rfl T.z_range (pa_cons (pe_callH G_61 (hr.mono (by decide)) rfl T.m_61 passF (pa_cons (pv 0) pa_nil)) pa_nil)) (pg_name (i:=3) sc_48.nd rfl (Or.inl rfl)) (pss_cons (ps_set (i:=2) sc_48.nd rfl (Or.inl rfl) (pe_op op_fdiv (pv 2) (pe_ix ix_tup (pv 0) pe_int (fun _ _=>rfl))))
  (pss_one (ps_if (pt_val (pe_callH G_59 (hr.mono (by decide)) rfl T.m_59 passF (pa_cons (pv 0) (pa_cons (pv 2) pa_nil)))) (pss_one (ps_expr (pe_bm PySem.F.plainAttrs_list PySem.F.slot_list_append PySem.F.type_list_append mt_append (pv 1) (pa_cons (pe_op op_add (pe_ix ix_tup (pv 0) pe_int (fun _ _=>rfl)) (pv 3)) pa_nil)))) pss_nil))))
  (pss_one (ps_ret (pv 1)))))),?_⟩
 obtain ⟨tb,h1,h2⟩:=id hR
 walk_at "rd"
 refine ⟨Nat.zero_le _,fun p hp=>?_⟩
 have e0:=Same.new hp (.lst [])
 refine ⟨r,_,2,_,rfl,rfl,SqT.of (e0 _ _ h1),rfl,?_⟩
 walk_at "rd"
 refine ⟨_,.inr (SqT.of (e0 _ _ h2)),?_⟩
 rw [List.length_map]
 refine ⟨_,rfl,r,g,lo,tab,m,rfl,g2,g9,hR.same e0,hl,_,rfl,by lia,by lia,?_⟩
 refine for_range (n:=m) (fun i σ H1=>∃ x3,σ=[some (.ref r),some (.ref p),some (.int (g^(m - i))),x3]∧Same H H1∧H1 p=some (.lst ((((List.range i).filter fun j=>cntB g tab (g^(m - 1 - j))).map fun j:Nat=>lo+(j:Int)).map V.int))) ⟨none,by rw [hl,Nat.sub_zero],e0,upd_same⟩ ?_ ?_
 ·rintro i σ H1 hi ⟨x3,rfl,e,hp1⟩
  have dv:g^(m - i) / g=g^(m - 1 - i):=by
   rw [show m - i=(m - 1 - i)+1 by lia,Int.pow_succ,Int.mul_ediv_cancel _ (by lia)]
  have gp:=RW.pow_pos g2 (m - 1 - i)
  have gb:=pow_mono g2 (show m - 1 - i≤m by lia)
  walk_at "rd"
  refine ⟨r,_,0,_,rfl,rfl,SqT.of (e _ _ h1),rfl,?_⟩
  walk_at "rd"
  rw [dv]
  refine ⟨by lia,by lia,r,g,lo,tab,_,rfl,g2,g9,hR.same e,gp,by lia,by lia,fun H2 e2=>?_⟩
  have e3:=e.trans e2
  refine ⟨_,rfl,?_⟩
  cases hc:cntB g tab (g^(m - 1 - i)) with
  | true =>
   rw [if_pos rfl]
   refine ⟨.inl ⟨_,SqL.of (e2 _ _ hp1)⟩,r,_,1,_,rfl,rfl,SqT.of (e3 _ _ h1),rfl,lo,rfl,_,e2 _ _ hp1,?_,by rw [show m - (i+1)=m - 1 - i by lia],e3.into hp,?_⟩
   ·rw [List.length_map,List.length_map]
    have:=List.length_filter_le (fun j=>cntB g tab (g^(m - 1 - j))) (List.range i)
    rw [List.length_range] at this
    exact small1000 (by lia)
   ·rw [upd_same,List.range_succ,List.filter_append,List.map_append,List.map_append,Int.zero_add]
    simp [List.filter,hc]
  | false =>
   rw [if_neg (by decide)]
   refine ⟨by rw [show m - (i+1)=m - 1 - i by lia],e3,?_⟩
   rw [e2 _ _ hp1,List.range_succ,List.filter_append]
   simp [List.filter,hc]
 ·rintro σ H1 ⟨x3,rfl,e,hp1⟩
  walk_at "rd"
  exact q p H1 ⟨e,hp,hp1⟩
theorem sc_6:FnScope ["word","at"] ["word","at"] (defScope s_6):=⟨rfl,rfl,rfl,by decide +kernel,rfl,by decide +kernel,by decide +kernel⟩
theorem ok_6 (T:Txt K mg t) :Has P w K mg base 1 t.f_6 ["word","at"] (spSignOr K):=by
 refine has_mk0 T.d_6 sc_6 (fun _ _ _ _ _ _ us hl=>match us,hl with | [_,_],_=>rfl) (fun vs H Q E h=>?_) (fun cdv A outer s H vs Q E hr h=>?_)
 ·obtain ⟨a,v,z,rfl,hS,q⟩:=h
  rfl
 obtain ⟨a,v,z,rfl,hS,q⟩:=h
 refine ⟨_,(pss_cons (ps_if (PW.pt (pw_or (pt_cmpR op_lt (pv 1) pe_int (nomark _)) (pw_or1 (pt_cmpR op_ge (pv 1) (pe_callB call_len_seq rfl T.z_len PySem.boot_len (pa_cons (pv 0) pa_nil)) (nomark _))))) (pss_one (ps_ret pe_int)) pss_nil)
  (pss_one (ps_ret (pe_ix ix_list (pv 0) (pv 1) (fun _ _=>rfl))))),?_⟩
 have hlm:(v.map V.int).length=v.length:=List.length_map ..
 unfold sn at q
 walk_at "rd"
 by_cases h0:z<0
 ·rw [if_pos (.inl h0)] at q
  rw [if_pos h0]
  exact q
 rw [if_neg h0]
 refine ⟨_,.inl hS,?_⟩
 rw [hlm]
 by_cases h1:(v.length:Int)≤z
 ·rw [if_pos (.inr h1)] at q
  rw [if_pos h1]
  exact q
 rw [if_neg h1]
 rw [if_neg (by lia)] at q
 exact ⟨a,_,_,_,rfl,rfl,hS,getAtZ (by lia) (by lia),q⟩
theorem sc_42:FnScope ["one","low","many","ahead","table","number","word"] ["one","low","many"] (defScope s_42):=⟨rfl,rfl,rfl,by decide +kernel,rfl,by decide +kernel,by decide +kernel⟩
theorem ok_42 (T:Txt K mg t) (G_68:Has P w K mg base 4 t.f_68 ["signs","low","table"] (spRule t.c_57)) (G_17:Has P w K mg base 1 t.f_17 ["signs","many"] (spTLen)) (G_56:HasN P w K mg base 1 t.f_56 ["number","signs","many"] (spWord t.c_58)) (G_44:Has P w K mg base 5 t.f_44 ["one","word"] (spNext K t.c_62)) (G_6:Has P w K mg base 1 t.f_6 ["word","at"] (spSignOr K)) (G_61:Has P w K mg base 2 t.f_61 ["one"] (spPlaces)):Has P w K mg base 6 t.f_42 ["one","low","many"] (spByWin):=by
 refine has_mk0 T.d_42 sc_42 (fun _ _ _ _ _ _ us hl=>match us,hl with | [_,_,_],_=>rfl) (fun vs H Q E h=>?_) (fun cdv A outer s H vs Q E hr h=>?_)
 ·obtain ⟨r,g,lo,tab,m,low,M,rfl,ok,M1,gM,q⟩:=h
  rfl
 obtain ⟨r,g,lo,tab,m,low,M,rfl,ok,M1,gM,q⟩:=h
 refine ⟨_,(pss_cons (ps_set (i:=3) sc_42.nd rfl (Or.inr rfl) (pe_op op_sub (pe_ix ix_tup (pv 0) pe_int (fun _ _=>rfl)) (pv 1)))
  (pss_cons (ps_set (i:=4) sc_42.nd rfl (Or.inl rfl) (pe_lst pa_nil))
  (pss_cons (ps_for PassesOwn.never rfl (pi_range1 rfl T.z_range (pa_cons (pe_callH G_17 (hr.mono (by decide)) rfl T.m_17 passF (pa_cons (pe_ix ix_tup (pv 0) pe_int (fun _ _=>rfl)) (pa_cons (pv 2) pa_nil))) pa_nil)) (pg_name (i:=5) sc_42.nd rfl (Or.inl rfl)) (pss_cons (ps_set (i:=6) sc_42.nd rfl (Or.inr rfl) (pe_callN G_56 (hr.mono (by decide)) rfl T.m_56 passFN (pa_cons (pv 5) (pa_cons (pe_ix ix_tup (pv 0) pe_int (fun _ _=>rfl)) (pa_cons (pv 2) pa_nil)))))
  (pss_one (ps_expr (pe_bm PySem.F.plainAttrs_list PySem.F.slot_list_append PySem.F.type_list_append mt_append (pv 4) (pa_cons (pe_callH G_44 (hr.mono (by decide)) rfl T.m_44 passF (pa_cons (pv 0) (pa_cons (pe_comp (fv:=[(6,"word"),(3,"ahead")]) (cl:=[("word",_),("ahead",_)]) rfl (pi_range1 rfl T.z_range (pa_cons (pe_callH G_61 (hr.mono (by decide)) rfl T.m_61 passF (pa_cons (pv 0) pa_nil)) pa_nil)) (by with_unfolding_all rfl) (by decide +kernel) rfl (by decide +kernel) rfl ⟨(by with_unfolding_all rfl),⟨(by with_unfolding_all rfl),trivial⟩⟩ (by with_unfolding_all rfl) ⟨⟨rfl,rfl,(by with_unfolding_all rfl),rfl⟩,⟨⟨rfl,rfl,(by with_unfolding_all rfl),rfl⟩,trivial⟩⟩ (by decide) (fun _ _ _ _=>pf_nil) (fun _ _ _ _=>(pe_callH G_6 (hr.mono (by decide)) rfl T.m_6 passF (pa_cons (pv 1) (pa_cons (pe_op op_add (pv 2) (pv 0)) pa_nil))))) pa_nil))) pa_nil))))))
  (pss_one (ps_ret (pe_callH G_68 (hr.mono (by decide)) rfl T.m_68 passF (pa_cons (pe_ix ix_tup (pv 0) pe_int (fun _ _=>rfl)) (pa_cons (pv 1) (pa_cons (pv 4) pa_nil))))))))),?_⟩
 obtain ⟨tb,h1,h2⟩:=id ok.v
 have g2:=ok.g2
 have g9:=ok.g9
 have m8:=ok.m8
 have hl:=ok.len
 have gp:=RW.pow_pos g2 M
 have M8:=pow_le_eight g2 gM
 walk_at "rd"
 refine ⟨r,_,1,_,rfl,rfl,SqT.of h1,rfl,lo,rfl,Nat.zero_le _,fun p hp=>?_⟩
 have e0:=Same.new hp (.lst [])
 refine ⟨_,rfl,r,_,0,_,rfl,rfl,SqT.of (e0 _ _ h1),rfl,_,rfl,?_⟩
 refine ⟨g,_,rfl,g2,g9,by lia,fun _=>?_,fun z=>absurd z (by rw [Int.toNat_natCast];lia)⟩
 rw [Int.toNat_natCast]
 refine ⟨_,rfl,by lia,by lia,?_⟩
 refine for_range (n:=(g^M).toNat) (fun i σ H1=>∃ x5 x6,σ=[some (.ref r),some (.int low),some (.int ((M:Nat):Int)),some (.int (lo - low)),some (.ref p),x5,x6]∧Same H H1∧H1 p=some (.lst (((List.range i).map fun n:Nat=>tab.getD (num g (bwW (wordL g (n:Int) M) (lo - low) m)).toNat 0).map V.int))) ⟨none,none,rfl,e0,upd_same⟩ ?_ ?_
 ·rintro i σ H1 hi ⟨x5,x6,rfl,e,hp1⟩
  walk_at "rd"
  refine ⟨r,_,0,_,rfl,rfl,SqT.of (e _ _ h1),rfl,_,g,_,rfl,g2,g9,by lia,by lia,fun z=>absurd z (by rw [Int.toNat_natCast];lia),fun _ _ pw H2 hN2=>?_⟩
  rw [Int.toNat_natCast,Int.zero_add] at hN2
  have e2:=e.trans hN2.1
  have hp2:=hN2.1 _ _ hp1
  refine ⟨.inl ⟨_,SqL.of hp2⟩,?_⟩
  refine ⟨_,rfl,r,g,lo,tab,m,rfl,g2,g9,ok.v.same e2,hl,_,rfl,by lia,by lia,fun D hD=>?_⟩
  rw [Int.toNat_natCast]
  have hw2:H2 pw=some (.lst ((wordL g (i:Int) M).map V.int)):=hN2.2.2
  refine comp_range (n:=m) (fun j acc Hx=>acc=((List.range j).map fun k:Nat=>sn (wordL g (i:Int) M) (lo - low+(k:Int))).map V.int∧Hx=upd H2 D (.lst acc)) ⟨rfl,rfl⟩ ?_ ?_
  ·rintro j acc Hx hj ⟨rfl,rfl⟩
   walk_at "rd"
   rw [Int.zero_add]
   refine ⟨pw,_,_,rfl,SqL.of (Same.new hD _ _ _ hw2),upd_same,?_,?_,by rw [upd_upd]⟩
   ·rw [List.length_map,List.length_map,List.length_range]
    exact small1000 (by lia)
   ·rw [range_succ_map,List.map_append]
    rfl
  ·rintro acc Hx ⟨rfl,rfl⟩
   have en:=Same.new hD (.lst ((bwW (wordL g (i:Int) M) (lo - low) m).map V.int))
   have bb:=bwW_lt g2 (wordL_lt g2 (i:Int) M) (lo - low) m
   have bl:=badLen_ints bb
   rw [bwW_len] at bl
   refine ⟨r,D,g,lo,tab,m,(bwW (wordL g (i:Int) M) (lo - low) m).map V.int,rfl,g2,g9,(ok.v.same e2).same en,hl,SqL.of upd_same,kd_ints,?_⟩
   rw [bl]
   intro ms hms H4 e4
   have:=ints_inj hms
   subst this
   have e24:=en.trans e4
   refine ⟨_,e24 _ _ hp2,?_,(e2.trans e24).into hp,?_⟩
   ·rw [List.length_map,List.length_map,List.length_range]
    exact small1000 (by lia)
   ·rw [upd_same,range_succ_map,List.map_append]
    rfl
 ·rintro σ H1 ⟨x5,x6,rfl,e,hp1⟩
  walk_at "rd"
  refine ⟨r,_,0,_,rfl,rfl,SqT.of (e _ _ h1),rfl,?_⟩
  exact rule_call (tab:=bwT g lo tab m low M) g2 g9 M1 (bwT_len g2 _ _ _ _ _) gM (bwT_lt g2 _ ok.tb _ _ _) (.inl hp1) fun r' H' e' hR=>q r' H' (e.trans e') (ok.bw M1 gM hR)
theorem sc_60:FnScope ["one","found"] ["one"] (defScope s_60):=⟨rfl,rfl,rfl,by decide +kernel,rfl,by decide +kernel,by decide +kernel⟩
theorem ok_60 (T:Txt K mg t) (G_48:Has P w K mg base 3 t.f_48 ["one"] (spCounting)) (G_42:Has P w K mg base 6 t.f_42 ["one","low","many"] (spByWin)):Has P w K mg base 7 t.f_60 ["one"] (spNarrow):=by
 refine has_mk0 T.d_60 sc_60 (fun _ _ _ _ _ _ us hl=>match us,hl with | [_],_=>rfl) (fun vs H Q E h=>?_) (fun cdv A outer s H vs Q E hr h=>?_)
 ·obtain ⟨r,g,lo,tab,m,rfl,ok,q⟩:=h
  rfl
 obtain ⟨r,g,lo,tab,m,rfl,ok,q⟩:=h
 refine ⟨_,(pss_cons (ps_set (i:=1) sc_60.nd rfl (Or.inl rfl) (pe_callH G_48 (hr.mono (by decide)) rfl T.m_48 passF (pa_cons (pv 0) pa_nil)))
  (pss_cons (ps_if (pt_cmpR op_eq (pe_callB call_len_seq rfl T.z_len PySem.boot_len (pa_cons (pv 1) pa_nil)) pe_int (nomark _)) (pss_one (ps_ret (pe_callH G_42 (hr.mono (by decide)) rfl T.m_42 passF (pa_cons (pv 0) (pa_consC (pa_consC pa_nil)))))) pss_nil)
  (pss_one (ps_ret (pe_callH G_42 (hr.mono (by decide)) rfl T.m_42 passF (pa_cons (pv 0) (pa_cons (pe_ix ix_list (pv 1) pe_int (fun _ _=>rfl)) (pa_cons (pe_op op_add (pe_op op_sub (pe_ix ix_list (pv 1) (pe_un un_neg pe_int) (fun _ _=>rfl)) (pe_ix ix_list (pv 1) pe_int (fun _ _=>rfl))) pe_int) pa_nil)))))))),?_⟩
 have g2:=ok.g2
 have g9:=ok.g9
 have m1:=ok.m1
 have m8:=ok.m8
 have sz:=ok.sz
 walk_at "rd"
 refine ⟨r,g,lo,tab,m,rfl,g2,g9,ok.v,ok.len,m1,m8,sz,fun p H1 hN1=>?_⟩
 have hcl:((countL g lo tab m).map V.int).length=(countL g lo tab m).length:=List.length_map ..
 walk_at "rd"
 refine ⟨_,.inl (SqL.of hN1.2.2),?_⟩
 rw [hcl]
 by_cases hc:countL g lo tab m=[]
 ·rw [if_pos (by rw [hc];rfl)]
  have g1:g^1=g:=by rw [Int.pow_succ,Int.pow_zero,Int.one_mul]
  exact ⟨r,g,lo,tab,m,0,1,rfl,ok.same hN1.1,Nat.le_refl _,by lia,fun r' H' e' ok'=>q 0 1 (narW_nil hc) r' H' (hN1.1.trans e') ok'⟩
 ·obtain ⟨M,hM,hMm,hW⟩:=narW_some hc
  have hp0:0<(countL g lo tab m).length:=List.length_pos_iff.mpr hc
  rw [if_neg (by lia)]
  have gM:=pow_mono g2 hMm
  refine ⟨p,_,0,_,rfl,rfl,SqL.of hN1.2.2,getAtZ (by decide) (by show 0<_;lia),p,_,_,_,rfl,rfl,SqL.of hN1.2.2,atI_lastI hp0,p,_,0,_,rfl,rfl,SqL.of hN1.2.2,getAtZ (by decide) (by show 0<_;lia),_,rfl,_,rfl,?_⟩
  refine ⟨r,g,lo,tab,m,(countL g lo tab m).getD 0 0,M,?_,ok.same hN1.1,hW.one,by lia,fun r' H' e' ok'=>q _ M hW r' H' (hN1.1.trans e') ok'⟩
  rw [hM]
  rfl
theorem sc_55:FnScope ["one","low","high","place"] ["one","low","high"] (defScope s_55):=⟨rfl,rfl,rfl,by decide +kernel,rfl,by decide +kernel,by decide +kernel⟩
theorem ok_55 (T:Txt K mg t) (G_48:Has P w K mg base 3 t.f_48 ["one"] (spCounting)) (G_42:Has P w K mg base 6 t.f_42 ["one","low","many"] (spByWin)) (G_17:Has P w K mg base 1 t.f_17 ["signs","many"] (spTLen)):Has P w K mg base 7 t.f_55 ["one","low","high"] (spWidened t.c_46 t.c_51):=by
 refine has_mkX T.d_55 sc_55 (fun _ _ _ _ _ _ us hl=>match us,hl with | [_,_,_],_=>rfl) (fun vs H Q E h=>?_) (fun cdv A outer s H vs Q E hr h=>?_)
 ·obtain ⟨r,g,lo,tab,m,low,high,rfl,ok,hout,hwide,hok⟩:=h
  rfl
 obtain ⟨r,g,lo,tab,m,low,high,rfl,ok,hout,hwide,hok⟩:=h
 refine ⟨_,(pss_cons (ps_if (pt_cmpR op_gt (pv 1) (pv 2) (nomark _)) (pss_one (ps_raise rfl T.x_46 rfl T.m_46 raises_body (pa_cons pe_str pa_nil))) pss_nil)
  (pss_cons (ps_for PassesOwn.leaving rfl (pi_list (pe_callH G_48 (hr.mono (by decide)) rfl T.m_48 passF (pa_cons (pv 0) pa_nil))) (pg_name (i:=3) sc_55.nd rfl (Or.inl rfl)) (pss_one (ps_if (PW.pt (pw_or (pt_cmpR op_lt (pv 3) (pv 1) (nomark _)) (pw_or1 (pt_cmpR op_gt (pv 3) (pv 2) (nomark _))))) (pss_one (ps_raise rfl T.x_46 rfl T.m_46 raises_body (pa_cons pe_str pa_nil))) pss_nil)))
  (pss_cons (ps_if (pt_cmpR op_gt (pe_callH G_17 (hr.mono (by decide)) rfl T.m_17 passF (pa_cons (pe_ix ix_tup (pv 0) pe_int (fun _ _=>rfl)) (pa_cons (pe_op op_add (pe_op op_sub (pv 2) (pv 1)) pe_int) pa_nil))) (pe_constE rfl T.g_LONGEST_TABLE) (nomark _)) (pss_one (ps_raise rfl T.x_51 rfl T.m_51 raises_body (pa_cons pe_str pa_nil))) pss_nil)
  (pss_one (ps_ret (pe_callH G_42 (hr.mono (by decide)) rfl T.m_42 passF (pa_cons (pv 0) (pa_cons (pv 1) (pa_cons (pe_op op_add (pe_op op_sub (pv 2) (pv 1)) pe_int) pa_nil))))))))),?_⟩
 obtain ⟨tb,h1,h2⟩:=id ok.v
 have g2:=ok.g2
 have g9:=ok.g9
 have m1:=ok.m1
 have m8:=ok.m8
 walk_at "rd"
 by_cases hlh:high<low
 ·rw [if_pos hlh]
  exact ⟨by decide,hout (.inl hlh) _ (Same.refl _)⟩
 rw [if_neg hlh]
 refine ⟨_,rfl,r,g,lo,tab,m,rfl,g2,g9,ok.v,ok.len,m1,m8,ok.sz,fun p H1 hN1=>?_⟩
 refine ⟨p,rfl,⟨_,SqL.of hN1.2.2⟩,?_⟩
 refine for_list (xs:=(countL g lo tab m).map V.int) (fun i σ H2=>(∃ x3,σ=[some (.ref r),some (.int low),some (.int high),x3])∧H2=H1∧∀ z∈(countL g lo tab m).take i,low≤z∧z≤high) ⟨⟨none,rfl⟩,rfl,fun z hz=>absurd hz (by simp)⟩ (fun i σ H2 _ z=>by rw [z.2.1];exact SqL.of hN1.2.2) ?_ ?_
 ·rintro i x σ H2 hx ⟨⟨x3,rfl⟩,rfl,hall⟩
  obtain ⟨n,hn,rfl⟩:=getInt hx
  have nm:=List.mem_of_getElem? hn
  walk_at "rd"
  by_cases c1:n<low
  ·rw [if_pos c1]
   exact ⟨by decide,hout (.inr ⟨n,nm,.inl c1⟩) _ hN1.1⟩
  rw [if_neg c1]
  by_cases c2:high<n
  ·rw [if_pos c2]
   exact ⟨by decide,hout (.inr ⟨n,nm,.inr c2⟩) _ hN1.1⟩
  rw [if_neg c2]
  refine ⟨⟨_,rfl⟩,fun z hz=>?_⟩
  rw [List.take_succ,hn] at hz
  rcases List.mem_append.mp hz with y | y
  ·exact hall z y
  ·have:z=n:=by simpa using y
   lia
 ·rintro σ H2 ⟨⟨x3,rfl⟩,rfl,hall⟩
  rw [List.length_map,List.take_length] at hall
  have nout:¬ outW g lo tab m low high:=by
   rintro (z | ⟨z,hz,y⟩)
   ·exact hlh z
   ·have:=hall z hz
    lia
  walk_at "rd"
  refine ⟨r,_,0,_,rfl,rfl,SqT.of (hN1.1 _ _ h1),rfl,g,_,rfl,g2,g9,by lia,fun hle=>?_,fun hgt rr hrr=>?_⟩
  ·refine ⟨_,rfl,?_⟩
   rw [if_neg (by lia)]
   exact ⟨r,g,lo,tab,m,low,(high - low+1).toNat,by rw [show (((high - low+1).toNat:Nat):Int)=high - low+1 by lia],ok.same hN1.1,by lia,hle,fun r' H' e' ok'=>hok nout hle r' H' (hN1.1.trans e') ok'⟩
  ·refine ⟨_,rfl,?_⟩
   rw [if_pos hrr]
   exact ⟨by decide,hwide nout hgt _ hN1.1⟩
theorem sc_64:FnScope ["one","least"] ["one"] (defScope s_64):=⟨rfl,rfl,rfl,by decide +kernel,rfl,by decide +kernel,by decide +kernel⟩
theorem ok_64 (T:Txt K mg t) (G_60:Has P w K mg base 7 t.f_60 ["one"] (spNarrow)) (G_61:Has P w K mg base 2 t.f_61 ["one"] (spPlaces)) (G_55:Has P w K mg base 7 t.f_55 ["one","low","high"] (spWidened t.c_46 t.c_51)) (G_65:Has P w K mg base 1 t.f_65 ["one"] (spHeads)):Has P w K mg base 8 t.f_64 ["one"] (spFrame t.c_51):=by
 refine has_mkX T.d_64 sc_64 (fun _ _ _ _ _ _ us hl=>match us,hl with | [_],_=>rfl) (fun vs H Q E h=>?_) (fun cdv A outer s H vs Q E hr h=>?_)
 ·obtain ⟨r,g,lo,tab,m,lf,tf,mf,rfl,ok,fw,hok,hex⟩:=h
  rfl
 obtain ⟨r,g,lo,tab,m,lf,tf,mf,rfl,ok,fw,hok,hex⟩:=h
 refine ⟨_,(pss_cons (ps_set (i:=1) sc_64.nd rfl (Or.inl rfl) (pe_callH G_60 (hr.mono (by decide)) rfl T.m_60 passF (pa_cons (pv 0) pa_nil)))
  (pss_cons (ps_if (pt_cmpR op_eq (pe_callH G_61 (hr.mono (by decide)) rfl T.m_61 passF (pa_cons (pv 1) pa_nil)) pe_int (nomark _)) (pss_one (ps_ret (pe_callH G_55 (hr.mono (by decide)) rfl T.m_55 passes_body (pa_cons (pv 1) (pa_cons (pe_ix ix_tup (pv 1) pe_int (fun _ _=>rfl)) (pa_cons (pe_op op_add (pe_ix ix_tup (pv 1) pe_int (fun _ _=>rfl)) pe_int) pa_nil)))))) pss_nil)
  (pss_cons (ps_if (pt_cmpR op_gt (pe_callH G_65 (hr.mono (by decide)) rfl T.m_65 passF (pa_cons (pv 1) pa_nil)) (pe_constE rfl T.g_MOST_NODES) (nomark _)) (pss_one (ps_raise rfl T.x_51 rfl T.m_51 raises_body (pa_cons pe_str pa_nil))) pss_nil)
  (pss_one (ps_ret (pv 1)))))),?_⟩
 have g2:=ok.g2
 have g9:=ok.g9
 refine hide fun N hN=>?_
 walk_at "rd"
 refine ⟨r,g,lo,tab,m,rfl,ok,fun low M hW r1 H1 e1 ok1=>hN _ _ ?_⟩
 clear hN N
 walk_at "rd"
 refine ⟨r1,g,low,_,M,rfl,g2,g9,ok1.v,ok1.len,rfl,?_⟩
 obtain ⟨low',M',hW',elf,hc⟩:=id fw
 obtain ⟨rfl,rfl⟩:=nar_uniq g2 ok.len hW hW'
 subst elf
 obtain ⟨tb,h1,h2⟩:=id ok1.v
 rcases hc with ⟨rfl,rfl,rfl⟩ | ⟨hM,rfl,rfl⟩
 ·rw [if_pos (show V.int ((1:Nat):Int)=V.int 1 from rfl)]
  have g1:g^(2 - 1)=g:=by show g^(0+1)=g;rw [Int.pow_succ,Int.pow_zero,Int.one_mul]
  have e2:(lf+1 - lf+1).toNat=2:=by lia
  refine ⟨r1,_,1,_,rfl,rfl,SqT.of h1,rfl,r1,_,1,_,rfl,rfl,SqT.of h1,rfl,lf,rfl,?_⟩
  refine ⟨r1,g,lf,_,1,lf,lf+1,rfl,ok1,fun ho=>?_,fun _ hw=>?_,fun _ _ r2 H2 f2 ok2=>?_⟩
  ·exfalso
   rcases ho with z | ⟨z,hz,y⟩
   ·lia
   ·unfold countL at hz
    obtain ⟨j,hj,rfl⟩:=List.mem_map.mp hz
    have:=List.mem_range.mp (List.mem_filter.mp hj).1
    lia
  ·exfalso
   rw [e2] at hw
   have:g^2≤9*9:=by
    rw [show (2:Nat)=(2 - 1)+1 from rfl,Int.pow_succ,g1]
    exact Int.mul_le_mul g9 g9 (by lia) (by lia)
   lia
  ·rw [e2] at ok2
   exact hok (by lia) r2 H2 (e1.trans f2) ok2
 ·rw [if_neg (fun z=>by have:=V.int.inj z;lia)]
  refine ⟨r1,g,lf,_,mf,rfl,ok1,_,rfl,?_⟩
  rw [(heads_is g2 ok1.len ok1.m1).1]
  by_cases h9:9<g^(mf - 1)
  ·rw [if_pos h9]
   exact ⟨by decide,hex h9 _ e1⟩
  ·rw [if_neg h9]
   exact hok (by lia) r1 H1 e1 ok1
theorem sc_72:FnScope ["one"] ["one"] (defScope s_72):=⟨rfl,rfl,rfl,by decide +kernel,rfl,by decide +kernel,by decide +kernel⟩
theorem ok_72 (T:Txt K mg t) (G_35:Has P w K mg base 1 t.f_35 ["signs","length"] (spPlacesFor)):Has P w K mg base 2 t.f_61 ["one"] (spPlacesL):=by
 refine has_mk0 T.d_61 sc_72 (fun _ _ _ _ _ _ us hl=>match us,hl with | [_],_=>rfl) (fun vs H Q E h=>?_) (fun cdv A outer s H vs Q E hr h=>?_)
 ·obtain ⟨r,g,lo,tab,m,rfl,g2,g9,⟨tb,h1,h2⟩,hl,q⟩:=h
  rfl
 obtain ⟨r,g,lo,tab,m,rfl,g2,g9,⟨tb,h1,h2⟩,hl,q⟩:=h
 refine ⟨_,(pss_one (ps_ret (pe_callH G_35 (hr.mono (by decide)) rfl T.m_35 passF (pa_cons (pe_ix ix_tup (pv 0) pe_int (fun _ _=>rfl)) (pa_cons (pe_callB call_len_seq rfl T.z_len PySem.boot_len (pa_cons (pe_ix ix_tup (pv 0) pe_int (fun _ _=>rfl)) pa_nil)) pa_nil))))),?_⟩
 walk_at "rd"
 refine ⟨r,_,0,.int g,rfl,rfl,SqT.of h1,atI_nat rfl,r,_,2,.ref tb,rfl,rfl,SqT.of h1,atI_nat rfl,?_⟩
 walk_at "rd"
 refine ⟨_,.inl (SqL.of h2),g,_,rfl,g2,g9,fun m' e=>?_,fun z=>?_⟩
 ·rw [List.length_map,hl] at e
  rw [←pow_inj g2 e]
  exact q
 ·exact absurd (by rw [List.length_map,hl]) (z m)
theorem sc_70:FnScope ["one","row","signs","table","short","number","told","at","sign"] ["one","row"] (defScope s_70):=⟨rfl,rfl,rfl,by decide +kernel,rfl,by decide +kernel,by decide +kernel⟩
theorem ok_70 (T:Txt K mg t) (G_72:Has P w K mg base 2 t.f_61 ["one"] (spPlacesL)):Has P w K mg base 3 t.f_67 ["one","row"] (spLeadL K):=by
 refine has_mk0 T.d_67 sc_70 (fun _ _ _ _ _ _ us hl=>match us,hl with | [_,_],_=>rfl) (fun vs H Q E h=>?_) (fun cdv A outer s H vs Q E hr h=>?_)
 ·obtain ⟨r,a,g,lo,tab,m,ns,rfl,g2,g9,hR,hl,m1,hS,hb,hn,q⟩:=h
  rfl
 obtain ⟨r,a,g,lo,tab,m,ns,rfl,g2,g9,hR,hl,m1,hS,hb,hn,q⟩:=h
 refine ⟨_,(pss_cons (ps_set (i:=2) sc_70.nd rfl (Or.inl rfl) (pe_ix ix_tup (pv 0) pe_int (fun _ _=>rfl)))
  (pss_cons (ps_set (i:=3) sc_70.nd rfl (Or.inl rfl) (pe_ix ix_tup (pv 0) pe_int (fun _ _=>rfl)))
  (pss_cons (ps_set (i:=4) sc_70.nd rfl (Or.inl rfl) (pe_op op_sub (pe_callH G_72 (hr.mono (by decide)) rfl T.m_61 passF (pa_cons (pv 0) pa_nil)) pe_int))
  (pss_cons (ps_set (i:=5) sc_70.nd rfl (Or.inl rfl) pe_int)
  (pss_cons (ps_set (i:=6) sc_70.nd rfl (Or.inl rfl) (pe_lst pa_nil))
  (pss_cons (ps_for PassesOwn.never rfl (pi_enum rfl T.z_enumerate (pa_cons (pv 1) pa_nil)) (pg_tup rfl (pgs_cons (pg_name (i:=7) sc_70.nd rfl (Or.inl rfl)) (pgs_cons (pg_name (i:=8) sc_70.nd rfl (Or.inl rfl)) pgs_nil))) (pss_cons (ps_set (i:=5) sc_70.nd rfl (Or.inl rfl) (pe_op op_mod (pe_op op_add (pe_op op_mul (pv 5) (pv 2)) (pv 8)) (pe_callB call_len_seq rfl T.z_len PySem.boot_len (pa_cons (pv 3) pa_nil))))
  (pss_one (ps_if (pt_cmpR op_ge (pv 7) (pv 4) (nomark _)) (pss_one (ps_expr (pe_bm PySem.F.plainAttrs_list PySem.F.slot_list_append PySem.F.type_list_append mt_append (pv 6) (pa_cons (pe_ix ix_list (pv 3) (pv 5) (fun _ _=>rfl)) pa_nil)))) pss_nil))))
  (pss_one (ps_ret (pv 6))))))))),?_⟩
 obtain ⟨tb,h1,h2⟩:=id hR
 walk_at "rd"
 refine ⟨r,_,0,_,rfl,rfl,SqT.of h1,rfl,?_⟩
 walk_at "rd"
 refine ⟨r,_,2,_,rfl,rfl,SqT.of h1,rfl,?_⟩
 walk_at "rd"
 refine ⟨r,g,lo,tab,m,rfl,g2,g9,hR,hl,?_⟩
 walk_at "rd"
 refine ⟨Nat.zero_le _,fun p hp=>?_⟩
 have gp:=RW.pow_pos g2 m
 refine ⟨_,rfl,a,_,rfl,(Same.new hp _).seq hS,?_⟩
 refine for_enum (xs:=ns.map V.int) (fun i σ H1=>(∃ x7 x8,σ=[some (.ref r),some (.ref a),some (.int g),some (.ref tb),some (.int ((m:Int) - 1)),some (.int (num g (ns.take i)%g^m)),some (.ref p),x7,x8])∧Same H H1∧H1 p=some (.lst (((List.range (i+1 - m)).map (winS g tab m ns)).map V.int))) ⟨⟨none,none,by rw [List.take_zero];rfl⟩,Same.new hp _,by rw [upd_same,show 0+1 - m=0 by lia];rfl⟩ (fun i σ H1 _ z=>z.2.1.seq hS) ?_ ?_
 ·rintro i x p2 σ H1 hx ⟨⟨x7,x8,rfl⟩,e,hp1⟩ hp2
  obtain ⟨n,hn1,rfl⟩:=getInt hx
  have hi:i<ns.length:=(List.getElem?_eq_some_iff.mp hn1).1
  have e2:Same H (upd H1 p2 (.tup [.int ((i:Nat):Int),.int n])):=e.trans (Same.new hp2 _)
  have hp3:=Same.new hp2 (.tup [.int ((i:Nat):Int),.int n]) _ _ hp1
  refine ⟨p2,_,rfl,SqT.of upd_same,rfl,_,_,rfl,_,_,rfl,rfl,?_⟩
  walk_at "rd"
  have htl:((tab.map V.int).length:Int)=g^m:=by rw [List.length_map,hl]
  have hst:(num g (ns.take i)%g^m*g+n)%g^m=num g (ns.take (i+1))%g^m:=by rw [mod_step,num_take hn1]
  refine ⟨.inr ⟨by lia,by lia⟩,_,.inl (SqL.of (e2 _ _ h2)),by lia,?_⟩
  rw [htl,hst]
  by_cases hge:(m:Int) - 1≤(i:Int)
  ·rw [if_pos hge]
   have hw:=num_win g2 hb (k:=i+1 - m) (m:=m) (by lia)
   rw [show i+1 - m+m=i+1 by lia] at hw
   have wi:=win_in g2 hb hl (k:=i+1 - m) (by lia)
   rw [hw]
   refine ⟨.inl ⟨_,SqL.of hp3⟩,tb,_,_,_,rfl,rfl,SqL.of (e2 _ _ h2),getAtZ wi.1 wi.2,_,hp3,?_,rfl,⟨_,rfl⟩,e2.into hp,?_⟩
   ·rw [List.length_map,List.length_map,List.length_range]
    exact small1000 (by lia)
   ·rw [upd_same,show i+1+1 - m=(i+1 - m)+1 by lia,range_succ_map,List.map_append]
    rfl
  ·rw [if_neg hge]
   refine ⟨rfl,⟨_,rfl⟩,e2,?_⟩
   rw [hp3,show i+1 - m=0 by lia,show i+1+1 - m=0 by lia]
 ·rintro σ H1 ⟨⟨x7,x8,rfl⟩,e,hp1⟩
  walk_at "rd"
  rw [List.length_map] at hp1
  exact q p H1 ⟨e,hp,hp1⟩
theorem sc_71:FnScope ["one","ring","many","first"] ["one","ring"] (defScope s_71):=⟨rfl,rfl,rfl,by decide +kernel,rfl,by decide +kernel,by decide +kernel⟩
theorem ok_71 (T:Txt K mg t) (G_70:Has P w K mg base 3 t.f_67 ["one","row"] (spLeadL K)) (G_72:Has P w K mg base 2 t.f_61 ["one"] (spPlacesL)):Has P w K mg base 4 t.f_43 ["one","ring"] (spLeadRingL K):=by
 refine has_mk0 T.d_43 sc_71 (fun _ _ _ _ _ _ us hl=>match us,hl with | [_,_],_=>rfl) (fun vs H Q E h=>?_) (fun cdv A outer s H vs Q E hr h=>?_)
 ·obtain ⟨r,a,g,lo,tab,m,ns,rfl,g2,g9,hR,hl,m1,m8,hS,hb,n1,n8,q⟩:=h
  rfl
 obtain ⟨r,a,g,lo,tab,m,ns,rfl,g2,g9,hR,hl,m1,m8,hS,hb,n1,n8,q⟩:=h
 refine ⟨_,(pss_cons (ps_set (i:=2) sc_71.nd rfl (Or.inr rfl) (pe_callB call_len_seq rfl T.z_len PySem.boot_len (pa_cons (pv 1) pa_nil)))
  (pss_cons (ps_set (i:=3) sc_71.nd rfl (Or.inr rfl) (pe_op op_mod (pe_ix ix_tup (pv 0) pe_int (fun _ _=>rfl)) (pv 2)))
  (pss_one (ps_ret (pe_callH G_70 (hr.mono (by decide)) rfl T.m_67 passF (pa_cons (pv 0) (pa_cons (pe_comp (fv:=[(1,"ring"),(2,"many"),(3,"first")]) (cl:=[("ring",_),("many",_),("first",_)]) rfl (pi_range1 rfl T.z_range (pa_cons (pe_op op_sub (pe_op op_add (pv 2) (pe_callH G_72 (hr.mono (by decide)) rfl T.m_61 passF (pa_cons (pv 0) pa_nil))) pe_int) pa_nil)) (by with_unfolding_all rfl) (by decide +kernel) rfl (by decide +kernel) rfl ⟨(by with_unfolding_all rfl),⟨(by with_unfolding_all rfl),⟨(by with_unfolding_all rfl),trivial⟩⟩⟩ (by with_unfolding_all rfl) ⟨⟨rfl,rfl,(by with_unfolding_all rfl),rfl⟩,⟨⟨rfl,rfl,(by with_unfolding_all rfl),rfl⟩,⟨⟨rfl,rfl,(by with_unfolding_all rfl),rfl⟩,trivial⟩⟩⟩ (by decide) (fun _ _ _ _=>pf_nil) (fun _ _ _ _=>(pe_ix (ix_listK (K:=K) rfl) (pv 1) (pe_op op_mod (pe_op op_add (pv 3) (pv 0)) (pv 2)) (fun _ _=>rfl)))) pa_nil))))))),?_⟩
 obtain ⟨tb,h1,h2⟩:=id hR
 have hns:(ns.map V.int).length=ns.length:=List.length_map ..
 walk_at "rd"
 refine ⟨_,.inl hS,?_⟩
 rw [hns]
 refine ⟨r,_,1,_,rfl,rfl,SqT.of h1,rfl,lo,rfl,by lia,?_⟩
 refine ⟨_,rfl,_,rfl,r,g,lo,tab,m,rfl,g2,g9,hR,hl,_,_,rfl,rfl,_,_,rfl,rfl,_,rfl,by lia,by lia,fun D hD=>?_⟩
 rw [show ((ns.length:Int)+(m:Int) - 1).toNat=ns.length+m - 1 by lia]
 refine comp_range (n:=ns.length+m - 1) (fun i acc Hx=>acc=((List.range i).map fun k:Nat=>ringAt ns (lo%(ns.length:Int)+(k:Int))).map V.int∧Hx=upd H D (.lst acc)) ⟨rfl,rfl⟩ ?_ ?_
 ·rintro i acc Hx hi ⟨rfl,rfl⟩
  have rz:=mod_nat (z:=lo%(ns.length:Int)+(i:Int)) n1
  walk_at "rd"
  refine ⟨by lia,?_⟩
  rw [Int.zero_add]
  refine ⟨a,_,_,_,rfl,rfl,(Same.new hD _).seq hS,getAtZ (by lia) rz.1,upd_same,?_,?_,by rw [upd_upd]⟩
  ·rw [List.length_map,List.length_map,List.length_range]
   exact small1000 (by lia)
  ·rw [range_succ_map,List.map_append]
   rfl
 ·rintro acc Hx ⟨rfl,rfl⟩
  refine ⟨r,D,g,lo,tab,m,ringE lo m ns,rfl,g2,g9,hR.same (Same.new hD _),hl,m1,SqL.of upd_same,ringE_lt g2 hb lo m,?_,fun p H' hN=>?_⟩
  ·unfold ringE
   rw [List.length_map,List.length_range]
   lia
  ·rw [led_ringE g lo tab ns m1] at hN
   exact q p H' ⟨(Same.new hD _).trans hN.1,(Same.new hD _).free hN.2.1,hN.2.2⟩
theorem sc_66:FnScope ["signs","weights","ring"] ["signs","weights","ring"] (defScope s_66):=⟨rfl,rfl,rfl,by decide +kernel,rfl,by decide +kernel,by decide +kernel⟩
theorem ok_66 (T:Txt K mg t) (G_71:Has P w K mg base 4 t.f_43 ["one","ring"] (spLeadRingL K)):Has P w K mg base 5 t.f_66 ["signs","weights","ring"] (spWeigh K):=by
 refine has_mk0 T.d_66 sc_66 (fun _ _ _ _ _ _ us hl=>match us,hl with | [_,_,_],_=>rfl) (fun vs H Q E h=>?_) (fun cdv A outer s H vs Q E hr h=>?_)
 ·obtain ⟨w',a,g,tab,m,ns,rfl,g2,g9,hw,hl,m1,m8,hS,hb,n1,n8,q⟩:=h
  rfl
 obtain ⟨w',a,g,tab,m,ns,rfl,g2,g9,hw,hl,m1,m8,hS,hb,n1,n8,q⟩:=h
 refine ⟨_,(pss_one (ps_ret (pe_callB (call_sum_of rfl) rfl T.z_sum PyProof.Rows.boot_sum (pa_cons (pe_callH G_71 (hr.mono (by decide)) rfl T.m_43 passF (pa_cons (pe_tup (pa_cons (pv 0) (pa_consC (pa_cons (pv 1) pa_nil)))) (pa_cons (pv 2) pa_nil))) pa_nil)))),?_⟩
 walk_at "rd"
 refine ⟨by decide,fun p hp=>?_⟩
 have e1:=Same.new hp (.tup [.int g,.int 0,.ref w'])
 exact ⟨p,a,g,0,tab,m,ns,rfl,g2,g9,⟨w',upd_same,e1 _ _ hw⟩,hl,m1,m8,e1.seq hS,hb,n1,n8,fun p2 H2 n2=>⟨p2,rfl,ringL g 0 tab m ns,SqL.of n2.2.2,q _ (e1.trans n2.1)⟩⟩
theorem sc_23:FnScope ["framed","weights"] ["framed","weights"] (defScope s_23):=⟨rfl,rfl,rfl,by decide +kernel,rfl,by decide +kernel,by decide +kernel⟩
theorem ok_23 (T:Txt K mg t) (G_61:Has P w K mg base 2 t.f_61 ["one"] (spPlaces)) (G_35:Has P w K mg base 1 t.f_35 ["signs","length"] (spPlacesFor)):Has P w K mg base 3 t.f_23 ["framed","weights"] (spGPlaces):=by
 refine has_mk0 T.d_23 sc_23 (fun _ _ _ _ _ _ us hl=>match us,hl with | [_,_],_=>rfl) (fun vs H Q E h=>?_) (fun cdv A outer s H vs Q E hr h=>?_)
 ·obtain ⟨r,w',g,lo,tab,m,mw,xs,rfl,ok,hw,wl,q⟩:=h
  rfl
 obtain ⟨r,w',g,lo,tab,m,mw,xs,rfl,ok,hw,wl,q⟩:=h
 refine ⟨_,(pss_one (ps_ret (pe_op op_sub (pe_op op_add (pe_callH G_61 (hr.mono (by decide)) rfl T.m_61 passF (pa_cons (pv 0) pa_nil)) (pe_callH G_35 (hr.mono (by decide)) rfl T.m_35 passF (pa_cons (pe_ix ix_tup (pv 0) pe_int (fun _ _=>rfl)) (pa_cons (pe_callB call_len_seq rfl T.z_len PySem.boot_len (pa_cons (pv 1) pa_nil)) pa_nil)))) pe_int))),?_⟩
 obtain ⟨tb,h1,h2⟩:=id ok.v
 have m1:=ok.m1
 walk_at "rd"
 refine ⟨r,g,lo,tab,m,rfl,ok.g2,ok.g9,ok.v,ok.len,?_⟩
 refine ⟨r,_,0,_,rfl,rfl,SqT.of h1,rfl,_,.inl (SqL.of hw),g,_,rfl,ok.g2,ok.g9,fun mw' hm=>⟨_,rfl,_,rfl,?_⟩,fun hn=>absurd wl (hn mw)⟩
 have:=pow_inj ok.g2 (wl.symm.trans hm)
 rw [←this,show (m:Int)+(mw:Int) - 1=((m+mw - 1:Nat):Int) by lia]
 exact q
theorem sc_34:FnScope ["framed","weights"] ["framed","weights"] (defScope s_34):=⟨rfl,rfl,rfl,by decide +kernel,rfl,by decide +kernel,by decide +kernel⟩
theorem ok_34 (T:Txt K mg t) (G_65:Has P w K mg base 1 t.f_65 ["one"] (spHeads)):Has P w K mg base 2 t.f_34 ["framed","weights"] (spManyG):=by
 refine has_mk0 T.d_34 sc_34 (fun _ _ _ _ _ _ us hl=>match us,hl with | [_,_],_=>rfl) (fun vs H Q E h=>?_) (fun cdv A outer s H vs Q E hr h=>?_)
 ·obtain ⟨r,w',g,lo,tab,m,xs,rfl,ok,hw,q⟩:=h
  rfl
 obtain ⟨r,w',g,lo,tab,m,xs,rfl,ok,hw,q⟩:=h
 refine ⟨_,(pss_one (ps_ret (pe_op op_mul (pe_callH G_65 (hr.mono (by decide)) rfl T.m_65 passF (pa_cons (pv 0) pa_nil)) (pe_callB call_len_seq rfl T.z_len PySem.boot_len (pa_cons (pv 1) pa_nil))))),?_⟩
 walk_at "rd"
 have hd:=heads_is ok.g2 ok.len ok.m1
 have hle:tab.length / g.toNat≤tab.length:=Nat.div_le_self ..
 have sz:=ok.sz
 have tl:=ok.len
 refine ⟨r,g,lo,tab,m,rfl,ok,_,.inl (SqL.of hw),_,rfl,?_⟩
 rw [←hd.1] at q
 obtain ⟨h,hh⟩:∃ h,h=tab.length / g.toNat:=⟨_,rfl⟩
 rw [←hh] at q hle ⊢
 exact ⟨.inl ⟨by lia,by lia⟩,q⟩
theorem sc_49:FnScope ["framed","weights","signs","many","gains","number","come"] ["framed","weights"] (defScope s_49):=⟨rfl,rfl,rfl,by decide +kernel,rfl,by decide +kernel,by decide +kernel⟩
theorem ok_49 (T:Txt K mg t) (G_23:Has P w K mg base 3 t.f_23 ["framed","weights"] (spGPlaces)) (G_34:Has P w K mg base 2 t.f_34 ["framed","weights"] (spManyG)) (G_45:Has P w K mg base 4 t.f_45 ["word","signs"] (spNumber K t.c_62)) (G_67:Has P w K mg base 3 t.f_67 ["one","row"] (spLead K)) (G_56:HasN P w K mg base 1 t.f_56 ["number","signs","many"] (spWord t.c_58)) (G_65:Has P w K mg base 1 t.f_65 ["one"] (spHeads)):Has P w K mg base 5 t.f_49 ["framed","weights"] (spGains):=by
 refine has_mk0 T.d_49 sc_49 (fun _ _ _ _ _ _ us hl=>match us,hl with | [_,_],_=>rfl) (fun vs H Q E h=>?_) (fun cdv A outer s H vs Q E hr h=>?_)
 ·obtain ⟨r,w',g,lo,tab,m,mw,ws,rfl,ok,hw,wl,w1,h729,q⟩:=h
  rfl
 obtain ⟨r,w',g,lo,tab,m,mw,ws,rfl,ok,hw,wl,w1,h729,q⟩:=h
 refine ⟨_,(pss_cons (ps_set (i:=2) sc_49.nd rfl (Or.inl rfl) (pe_ix ix_tup (pv 0) pe_int (fun _ _=>rfl)))
  (pss_cons (ps_set (i:=3) sc_49.nd rfl (Or.inl rfl) (pe_callH G_23 (hr.mono (by decide)) rfl T.m_23 passF (pa_cons (pv 0) (pa_cons (pv 1) pa_nil))))
  (pss_cons (ps_set (i:=4) sc_49.nd rfl (Or.inl rfl) (pe_lst pa_nil))
  (pss_cons (ps_for PassesOwn.never rfl (pi_range1 rfl T.z_range (pa_cons (pe_callH G_34 (hr.mono (by decide)) rfl T.m_34 passF (pa_cons (pv 0) (pa_cons (pv 1) pa_nil))) pa_nil)) (pg_name (i:=5) sc_49.nd rfl (Or.inl rfl)) (pss_cons (ps_set (i:=6) sc_49.nd rfl (Or.inl rfl) (pe_callH G_45 (hr.mono (by decide)) rfl T.m_45 passF (pa_cons (pe_callH G_67 (hr.mono (by decide)) rfl T.m_67 passF (pa_cons (pv 0) (pa_cons (pe_callN G_56 (hr.mono (by decide)) rfl T.m_56 passFN (pa_cons (pv 5) (pa_cons (pv 2) (pa_cons (pv 3) pa_nil)))) pa_nil))) (pa_cons (pv 2) pa_nil))))
  (pss_one (ps_expr (pe_bm PySem.F.plainAttrs_list PySem.F.slot_list_append PySem.F.type_list_append mt_append (pv 4) (pa_cons (pe_op op_sub (pe_ix ix_list (pv 1) (pv 6) (fun _ _=>rfl)) (pe_ix ix_list (pv 1) (pe_op op_fdiv (pv 5) (pe_callH G_65 (hr.mono (by decide)) rfl T.m_65 passF (pa_cons (pv 0) pa_nil))) (fun _ _=>rfl))) pa_nil))))))
  (pss_one (ps_ret (pv 4))))))),?_⟩
 obtain ⟨tb,h1,h2⟩:=id ok.v
 have g2:=ok.g2
 have g9:=ok.g9
 have m1:=ok.m1
 have m8:=ok.m8
 have hlm:(ws.map V.int).length=ws.length:=List.length_map ..
 have hd:=heads_is g2 ok.len m1
 have gp:=RW.pow_pos g2 (m - 1)
 have wp:=RW.pow_pos g2 mw
 refine hide fun N hN=>?_
 walk_at "rd"
 refine ⟨r,_,0,_,rfl,rfl,SqT.of h1,rfl,hN _ _ ?_⟩
 clear hN N
 refine hide fun N hN=>?_
 walk_at "rd"
 refine ⟨r,w',g,lo,tab,m,mw,_,rfl,ok,hw,by rw [hlm];exact wl,hN _ _ ?_⟩
 clear hN N
 refine hide fun N hN=>?_
 walk_at "rd"
 refine ⟨Nat.zero_le _,fun p hp=>hN _ _ ?_⟩
 clear hN N
 have hG:((g^(m - 1)).toNat:Int)=g^(m - 1):=by lia
 have tot:g^(m - 1)*(ws.length:Int)=g^(m+mw - 1):=by rw [wl,←Int.pow_add,show m - 1+mw=m+mw - 1 by lia]
 have mw9:mw≤10:=by
  by_cases z:mw≤10
  ·exact z
  ·exfalso
   have a:=pow_mono g2 (show 10≤m+mw - 1 by lia)
   have b:1024≤g^10:=by
    obtain z | z | z | z | z | z | z | z:g=2∨g=3∨g=4∨g=5∨g=6∨g=7∨g=8∨g=9:=by lia
    all_goals rw [z];decide
   lia
 have hw0:H w'=some (.lst (ws.map V.int)):=hw
 have wl2:(((g^(m - 1)).toNat*ws.length:Nat):Int)=g^(m - 1)*(ws.length:Int):=by rw [Int.natCast_mul,hG]
 refine cut (fun σ HX=>(∃ x5 x6,σ=[some (.ref r),some (.ref w'),some (.int g),some (.int ((m+mw - 1:Nat):Int)),some (.ref p),x5,x6])∧Same H HX∧HX p=some (.lst ((gainL g tab m ws mw).map V.int))) (fun N hN=>?_) ?_
 ·refine ⟨_,rfl,_,rfl,r,w',g,lo,tab,m,_,rfl,ok.same (Same.new hp _),Same.new hp _ _ _ hw,_,rfl,?_,?_,?_⟩
  ·rw [hlm];lia
  ·rw [hlm];lia
  rw [hlm,←wl2,Int.toNat_natCast]
  refine for_range (n:=(g^(m - 1)).toNat*ws.length) (fun i σ HX=>(∃ x5 x6,σ=[some (.ref r),some (.ref w'),some (.int g),some (.int ((m+mw - 1:Nat):Int)),some (.ref p),x5,x6])∧Same H HX∧HX p=some (.lst (((List.range i).map fun n:Nat=>ws.getD (num g (ledL g tab m (wordL g (n:Int) (m+mw - 1)))).toNat 0 - ws.getD (n / (g^(m - 1)).toNat) 0).map V.int))) ⟨⟨none,none,rfl⟩,Same.new hp _,upd_same⟩ ?_ fun σ HX z=>hN _ _ z
  rintro i σ HX hi ⟨⟨x5,x6,rfl⟩,eX,hpX⟩
  have wlen:=wordL_len g (i:Int) (m+mw - 1)
  have wlt:=wordL_lt g2 (i:Int) (m+mw - 1)
  have ll:=ledL_len g tab m (wordL g (i:Int) (m+mw - 1))
  have llt:=ledL_lt g2 ok.tb m (wordL g (i:Int) (m+mw - 1))
  have nb:=num_lt g2 llt
  rw [ll,wlen,show m+mw - 1+1 - m=mw by lia,←wl] at nb
  refine hide fun N2 hN2=>?_
  walk_at "rd"
  rw [Int.zero_add]
  refine ⟨(i:Int),g,_,rfl,g2,g9,by lia,by lia,fun hb=>?_,fun _ _ pw H3 n3=>?_⟩
  ·rw [Int.toNat_natCast] at hb
   lia
  rw [Int.toNat_natCast] at n3
  have e3:=eX.trans n3.1
  refine ⟨r,pw,g,lo,tab,m,wordL g (i:Int) (m+mw - 1),rfl,g2,g9,ok.v.same e3,ok.len,m1,SqL.of n3.2.2,wlt,by lia,fun p4 H4 n4=>?_⟩
  refine ⟨p4,_,g,rfl,g2,g9,SqL.of n4.2.2,kd_ints,?_⟩
  rw [badIx_ints llt]
  intro ms hms H5 e5
  have:=ints_inj hms
  subst this
  refine hN2 _ _ ?_
  clear hN2 N2
  have e5':=(n3.1.trans n4.1).trans e5
  have e55:=eX.trans e5'
  walk_at "rd"
  have ed:(i:Int) / g^(m - 1)=((i / (g^(m - 1)).toNat:Nat):Int):=by rw [Int.natCast_ediv,hG]
  have dl:i / (g^(m - 1)).toNat<ws.length:=Nat.div_lt_of_lt_mul hi
  have hsm:=pow_mono g2 (show m - 1≤m by lia)
  have sz:=ok.sz
  refine ⟨.inl ⟨_,SqL.of (e5' _ _ hpX)⟩,w',_,_,_,rfl,rfl,SqL.of (e55 _ _ hw),getAtZ nb.1 (by lia),r,g,lo,tab,m,rfl,ok.same e55,_,rfl,?_⟩
  rw [hd.1,ed]
  refine ⟨gp,by lia,w',_,_,_,rfl,rfl,SqL.of (e55 _ _ hw),getAt dl,_,rfl,_,rfl,_,e5' _ _ hpX,?_,⟨_,rfl⟩,e55.into hp,?_⟩
  ·rw [List.length_map,List.length_map,List.length_range]
   exact small1000 (by lia)
  ·rw [upd_same,range_succ_map,List.map_append]
   rfl
 rintro σ HX ⟨⟨x5,x6,rfl⟩,eX,hpX⟩
 walk_at "rd"
 exact q p _ ⟨eX,hp,hpX⟩
theorem sc_22:FnScope ["signs","gains","found","number","gain"] ["signs","gains","found"] (defScope s_22):=⟨rfl,rfl,rfl,by decide +kernel,rfl,by decide +kernel,by decide +kernel⟩
theorem ok_22 (T:Txt K mg t) :Has P w K mg base 1 t.f_22 ["signs","gains","found"] (spFirstWrong):=by
 refine has_mk0 T.d_22 sc_22 (fun _ _ _ _ _ _ us hl=>match us,hl with | [_,_,_],_=>rfl) (fun vs H Q E h=>?_) (fun cdv A outer s H vs Q E hr h=>?_)
 ·obtain ⟨p,q',g,gs,fs,rfl,g2,g9,hp,hq,f1,gf,gl2,hok,hbad⟩:=h
  rfl
 obtain ⟨p,q',g,gs,fs,rfl,g2,g9,hp,hq,f1,gf,gl2,hok,hbad⟩:=h
 refine ⟨_,(pss_cons (ps_for PassesOwn.never rfl (pi_enum rfl T.z_enumerate (pa_cons (pv 1) pa_nil)) (pg_tup rfl (pgs_cons (pg_name (i:=3) sc_22.nd rfl (Or.inl rfl)) (pgs_cons (pg_name (i:=4) sc_22.nd rfl (Or.inl rfl)) pgs_nil))) (pss_one (ps_if (pt_cmpR op_ne (pv 4) (pe_op op_sub (pe_ix ix_list (pv 2) (pe_op op_fdiv (pv 3) (pv 0)) (fun _ _=>rfl)) (pe_ix ix_list (pv 2) (pe_op op_mod (pv 3) (pe_callB call_len_seq rfl T.z_len PySem.boot_len (pa_cons (pv 2) pa_nil))) (fun _ _=>rfl))) (nomark _)) (pss_one (ps_ret (pv 3))) pss_nil)))
  (pss_one (ps_ret pe_non))),?_⟩
 have gn:((g.toNat:Nat):Int)=g:=by lia
 refine cut (fun σ HX=>(∃ x3 x4,σ=[some (.int g),some (.ref p),some (.ref q'),x3,x4])∧Same H HX∧rightW g.toNat gs fs) (fun N hN=>?_) ?_
 ·refine ⟨_,rfl,p,_,rfl,SqL.of hp,?_⟩
  refine for_enum (xs:=gs.map V.int) (fun i σ HX=>(∃ x3 x4,σ=[some (.int g),some (.ref p),some (.ref q'),x3,x4])∧Same H HX∧∀ k,k<i→¬ wrongW g.toNat gs fs k) ⟨⟨none,none,rfl⟩,Same.refl _,fun k hk=>absurd hk (Nat.not_lt_zero _)⟩ (fun i σ HX _ z=>SqL.of (z.2.1 _ _ hp)) ?_ ?_
  ·rintro i y p2 σ HX hy ⟨⟨x3,x4,rfl⟩,eX,inv⟩ hp2
   obtain ⟨v,hv,rfl⟩:=getInt hy
   have il:=(List.getElem?_eq_some_iff.mp hv).1
   have e2:=eX.trans (Same.new hp2 (.tup [.int ((i:Nat):Int),.int v]))
   refine ⟨p2,_,rfl,SqT.of upd_same,rfl,_,_,rfl,_,_,rfl,rfl,?_⟩
   generalize upd HX p2 (.tup [.int ((i:Nat):Int),.int v])=HT at e2 ⊢
   have ei:(i:Int) / g=((i / g.toNat:Nat):Int):=by rw [Int.natCast_ediv,gn]
   have flm:(fs.map V.int).length=fs.length:=List.length_map ..
   have em:(i:Int)%((fs.map V.int).length:Int)=((i%fs.length:Nat):Int):=by rw [flm,Int.natCast_emod]
   have d1:i / g.toNat<fs.length:=Nat.div_lt_of_lt_mul (by rw [Nat.mul_comm];lia)
   have d2:=Nat.mod_lt i f1
   have hqT:=e2 _ _ hq
   have gv:gs.getD i 0=v:=by rw [List.getD_eq_getElem?_getD,hv];rfl
   walk_at "rd"
   rw [ei]
   refine ⟨by lia,by lia,q',_,_,_,rfl,rfl,SqL.of hqT,getAt d1,_,.inl (SqL.of hqT),by lia,?_⟩
   rw [em]
   refine ⟨q',_,_,_,rfl,rfl,SqL.of hqT,getAt d2,_,rfl,_,rfl,?_⟩
   by_cases z:v=fs.getD (i / g.toNat) 0 - fs.getD (i%fs.length) 0
   ·rw [if_neg (fun y=>y z)]
    refine ⟨⟨_,rfl⟩,e2,fun k hk=>?_⟩
    by_cases y:k=i
    ·subst y
     unfold wrongW
     rw [gv]
     exact fun w=>w z
    ·exact inv k (by lia)
   ·rw [if_pos z]
    exact hbad i il (by unfold wrongW;rw [gv];exact z) inv _ e2
  ·rintro σ HX ⟨⟨x3,x4,rfl⟩,eX,inv⟩
   rw [List.length_map] at inv
   exact hN _ _ ⟨⟨_,_,rfl⟩,eX,inv⟩
 rintro σ HX ⟨⟨x3,x4,rfl⟩,eX,inv⟩
 walk_at "rd"
 exact hok inv _ eX
theorem sc_9:FnScope ["one","weights","ring"] ["one","weights","ring"] (defScope s_9):=⟨rfl,rfl,rfl,by decide +kernel,rfl,by decide +kernel,by decide +kernel⟩
theorem ok_9 (T:Txt K mg t) (G_66:Has P w K mg base 5 t.f_66 ["signs","weights","ring"] (spWeigh K)) (G_43:Has P w K mg base 4 t.f_43 ["one","ring"] (spLeadRing K)):Has P w K mg base 6 t.f_9 ["one","weights","ring"] (spChgTot K):=by
 refine has_mk0 T.d_9 sc_9 (fun _ _ _ _ _ _ us hl=>match us,hl with | [_,_,_],_=>rfl) (fun vs H Q E h=>?_) (fun cdv A outer s H vs Q E hr h=>?_)
 ·obtain ⟨r,b,a,g,lo,tab,ws,ring,m,mw,rfl,ok,hb,wl,w1,w8,hS,rb,n1,n8,q⟩:=h
  rfl
 obtain ⟨r,b,a,g,lo,tab,ws,ring,m,mw,rfl,ok,hb,wl,w1,w8,hS,rb,n1,n8,q⟩:=h
 refine ⟨_,(pss_one (ps_ret (pe_cmpR op_ne (pe_callH G_66 (hr.mono (by decide)) rfl T.m_66 passF (pa_cons (pe_ix ix_tup (pv 0) pe_int (fun _ _=>rfl)) (pa_cons (pv 1) (pa_cons (pv 2) pa_nil)))) (pe_callH G_66 (hr.mono (by decide)) rfl T.m_66 passF (pa_cons (pe_ix ix_tup (pv 0) pe_int (fun _ _=>rfl)) (pa_cons (pv 1) (pa_cons (pe_callH G_43 (hr.mono (by decide)) rfl T.m_43 passF (pa_cons (pv 0) (pa_cons (pv 2) pa_nil))) pa_nil)))) (nomark _)))),?_⟩
 obtain ⟨tb,h1,h2⟩:=id ok.v
 walk_at "rd"
 refine ⟨r,_,0,_,rfl,rfl,SqT.of h1,rfl,b,a,g,ws,mw,ring,rfl,ok.g2,ok.g9,hb,wl,w1,w8,hS,rb,n1,n8,fun H1 e1=>?_⟩
 refine ⟨r,_,0,_,rfl,rfl,SqT.of (e1 _ _ h1),rfl,r,a,g,lo,tab,m,ring,rfl,ok.g2,ok.g9,ok.v.same e1,ok.len,ok.m1,ok.m8,e1.seq hS,rb,n1,n8,fun p H2 n2=>?_⟩
 refine ⟨b,p,g,ws,mw,_,rfl,ok.g2,ok.g9,(e1.trans n2.1) _ _ hb,wl,w1,w8,SqL.of n2.2.2,ringL_lt ok.g2 lo ok.tb m ring,by rw [ringL_len];exact n1,by rw [ringL_len];exact n8,fun H3 e3=>⟨rfl,?_⟩⟩
 refine q _ _ ((e1.trans n2.1).trans e3) ?_
 rw [Bool.not_eq_true',decide_eq_false_iff_not]
 exact ⟨fun y z=>y (by rw [z]),fun y z=>y (V.int.inj z)⟩
theorem sc_0:FnScope ["self","weights","flows"] ["self","weights","flows"] (defScope s_0):=⟨rfl,rfl,rfl,by decide +kernel,rfl,by decide +kernel,by decide +kernel⟩
theorem ok_0 (T:Txt K mg t) :Has P w K mg base 1 t.f_0 ["self","weights","flows"] (spIni t.c_10 "weights" "flows"):=by
 refine has_mk0 T.d_0 sc_0 (fun _ _ _ _ _ _ us hl=>match us,hl with | [_,_,_],_=>rfl) (fun vs H Q E h=>?_) (fun cdv A outer s H vs Q E hr h=>?_)
 ·obtain ⟨x,dx,a,b,xs,ys,rfl,hx,ha,hb,q⟩:=h
  rfl
 obtain ⟨x,dx,a,b,xs,ys,rfl,hx,ha,hb,q⟩:=h
 refine ⟨_,(pss_cons (ps_fld (pv 0) (pe_callTy call_list_of rfl T.z_list PyProof.Rows.boot_list (pa_cons (pv 1) pa_nil)) rfl)
  (pss_one (ps_fld (pv 0) (pe_callTy call_list_of rfl T.z_list PyProof.Rows.boot_list (pa_cons (pv 2) pa_nil)) rfl))),?_⟩
 have ne:∀ {y:Addr} {zs:List V},H y=some (.lst zs)→y≠x:=fun h e=>by rw [e,hx] at h;cases h
 walk_at "rd"
 refine ⟨_,rfl,a,rfl,_,.inl (SqL.of ha),fun l hl=>?_⟩
 have f1:=Same.new hl (.lst (xs.map V.int))
 refine ⟨_,rfl,x,_,dx,[],rfl,f1 _ _ hx,T.th_10.cl,T.na_KeepingPaper_weights,by decide,?_⟩
 have lx:l≠x:=fun e=>by rw [e,hx] at hl;cases hl
 obtain ⟨H1,hH1⟩:∃ H1,H1=upd (upd H l (.lst (xs.map V.int))) x (.ins t.c_10 dx (putF "weights" (.ref l) [])):=⟨_,rfl⟩
 have b1:H1 b=some (.lst (ys.map V.int)):=by rw [hH1,upd_ne (ne hb)];exact f1 _ _ hb
 have l1:H1 l=some (.lst (xs.map V.int)):=by rw [hH1,upd_ne lx];exact upd_same
 have x1:H1 x=some (.ins t.c_10 dx [("weights",.ref l)]):=by rw [hH1];exact upd_same
 have s1:∀ H2,Same H2 H→H2 x=none→Same H2 H1:=fun H2 e n=>by rw [hH1];exact (e.trans f1).into n
 rw [←hH1]
 refine ⟨_,rfl,b,rfl,_,.inl (SqL.of b1),fun l2 hl2=>?_⟩
 have f2:=Same.new hl2 (.lst (ys.map V.int))
 have l2x:l2≠x:=fun e=>by rw [e,x1] at hl2;cases hl2
 refine ⟨_,rfl,x,_,dx,_,rfl,f2 _ _ x1,T.th_10.cl,T.na_KeepingPaper_flows,(by show 1<1000;decide),?_⟩
 have free2:H l2=none:=by
  cases z:H l2 with
  | none=>rfl
  | some o =>
   have:=f1 _ _ z
   rw [hH1,upd_ne l2x,this] at hl2
   cases hl2
 refine q _ (fun H2 e n=>((s1 H2 e n).trans f2).into n) ⟨dx,l,l2,upd_same,?_,?_,hl,free2⟩
 ·rw [upd_ne lx];exact f2 _ _ l1
 ·rw [upd_ne l2x];exact upd_same
theorem sc_4:FnScope ["self"] ["self"] (defScope s_4):=⟨rfl,rfl,rfl,by decide +kernel,rfl,by decide +kernel,by decide +kernel⟩
theorem ok_4 (T:Txt K mg t) :Has P w K mg base 1 t.f_4 ["self"] (spTld t.c_10 "weights" "flows"):=by
 refine has_mk0 T.d_4 sc_4 (fun _ _ _ _ _ _ us hl=>match us,hl with | [_],_=>rfl) (fun vs H Q E h=>?_) (fun cdv A outer s H vs Q E hr h=>?_)
 ·obtain ⟨x,xs,ys,rfl,pv',q⟩:=h
  rfl
 obtain ⟨x,xs,ys,rfl,pv',q⟩:=h
 refine ⟨_,(pss_one (ps_ret (pe_tup (pa_cons (pe_callTy call_list_of rfl T.z_list PyProof.Rows.boot_list (pa_cons (pe_fld (pv 0) rfl) pa_nil)) (pa_cons (pe_callTy call_list_of rfl T.z_list PyProof.Rows.boot_list (pa_cons (pe_fld (pv 0) rfl) pa_nil)) pa_nil))))),?_⟩
 obtain ⟨dx,p,q',hx,hp,hq⟩:=pv'
 walk_at "rd"
 refine ⟨_,rfl,x,_,dx,_,.ref p,rfl,hx,T.th_10.cl,T.na_KeepingPaper_weights,rfl,p,rfl,_,.inl (SqL.of hp),fun l hl=>?_⟩
 have f1:=Same.new hl (.lst (xs.map V.int))
 refine ⟨_,rfl,x,_,dx,_,.ref q',rfl,f1 _ _ hx,T.th_10.cl,T.na_KeepingPaper_flows,rfl,q',rfl,_,.inl (SqL.of (f1 _ _ hq)),fun l2 hl2=>?_⟩
 have f2:=Same.new hl2 (.lst (ys.map V.int))
 refine ⟨by decide,fun tt ht=>?_⟩
 have f3:=Same.new ht (.tup [.ref l,.ref l2])
 exact q tt l l2 _ ((f1.trans f2).trans f3) upd_same ((f2.trans f3) _ _ upd_same) (f3 _ _ upd_same) hl (f1.free hl2) fun e=>by rw [←e,upd_same] at hl2;cases hl2
theorem sc_2:FnScope ["self","one","framed","signs"] ["self","one"] (defScope s_2):=⟨rfl,rfl,rfl,by decide +kernel,rfl,by decide +kernel,by decide +kernel⟩
theorem ok_2 (T:Txt K mg t) (G_64:Has P w K mg base 8 t.f_64 ["one"] (spFrame t.c_51)) (G_35:Has P w K mg base 1 t.f_35 ["signs","length"] (spPlacesFor)) (G_34:Has P w K mg base 2 t.f_34 ["framed","weights"] (spManyG)) (G_22:Has P w K mg base 1 t.f_22 ["signs","gains","found"] (spFirstWrong)) (G_49:Has P w K mg base 5 t.f_49 ["framed","weights"] (spGains)):Has P w K mg base 9 t.f_2 ["self","one"] (spHldK t.c_51 t.c_10):=by
 refine has_mkX T.d_2 sc_2 (fun _ _ _ _ _ _ us hl=>match us,hl with | [_,_],_=>rfl) (fun vs H Q E h=>?_) (fun cdv A outer s H vs Q E hr h=>?_)
 ·obtain ⟨x,r,g,lo,tab,m,lf,tf,mf,ws,fl,rfl,pv',ok,fw,hbig,hsm⟩:=h
  rfl
 obtain ⟨x,r,g,lo,tab,m,lf,tf,mf,ws,fl,rfl,pv',ok,fw,hbig,hsm⟩:=h
 refine ⟨_,(pss_cons (ps_set (i:=2) sc_2.nd rfl (Or.inl rfl) (pe_callH G_64 (hr.mono (by decide)) rfl T.m_64 passes_body (pa_cons (pv 1) pa_nil)))
  (pss_cons (ps_set (i:=3) sc_2.nd rfl (Or.inl rfl) (pe_ix ix_tup (pv 2) pe_int (fun _ _=>rfl)))
  (pss_cons (ps_if (pt_cmpR op_eq (pe_callH G_35 (hr.mono (by decide)) rfl T.m_35 passF (pa_cons (pv 3) (pa_cons (pe_callB call_len_seq rfl T.z_len PySem.boot_len (pa_cons (pe_fld (pv 0) rfl) pa_nil)) pa_nil))) pe_int (nomark _)) (pss_one (ps_ret pe_bl)) pss_nil)
  (pss_cons (ps_if (pt_cmpR op_ne (pe_op op_mul (pe_callB call_len_seq rfl T.z_len PySem.boot_len (pa_cons (pe_fld (pv 0) rfl) pa_nil)) (pv 3)) (pe_callH G_34 (hr.mono (by decide)) rfl T.m_34 passF (pa_cons (pv 2) (pa_cons (pe_fld (pv 0) rfl) pa_nil))) (nomark _)) (pss_one (ps_ret pe_bl)) pss_nil)
  (pss_one (ps_ret (pe_cmpR op_isN (pe_callH G_22 (hr.mono (by decide)) rfl T.m_22 passF (pa_cons (pv 3) (pa_cons (pe_callH G_49 (hr.mono (by decide)) rfl T.m_49 passF (pa_cons (pv 2) (pa_cons (pe_fld (pv 0) rfl) pa_nil))) (pa_cons (pe_fld (pv 0) rfl) pa_nil)))) pe_non (nomark _)))))))),?_⟩
 have g2:=ok.g2
 have g9:=ok.g9
 have mf2:=fw.two
 refine hide fun N hN=>?_
 walk_at "rd"
 refine ⟨r,g,lo,tab,m,lf,tf,mf,rfl,ok,fw,fun s9 r' H1 e1 ok1=>hN _ _ ?_,fun s9=>hbig s9⟩
 clear hN N
 obtain ⟨⟨w1,fl1,hm⟩,q⟩:=hsm s9
 obtain ⟨dx,p,q',hx,hp,hq⟩:=pv'.same e1
 obtain ⟨tb',r1,r2⟩:=id ok1.v
 have hfalse:¬ HeldP g tf mf ws fl→∀ H',Same H1 H'→Q (.bl false) H':=fun nh H' e=>q false H' (e1.trans e) ⟨fun z=>Bool.noConfusion z,fun z=>absurd z nh⟩
 refine hide fun N hN=>?_
 walk_at "rd"
 refine ⟨r',_,0,_,rfl,rfl,SqT.of r1,rfl,hN _ _ ?_⟩
 clear hN N
 refine cut (fun σ HX=>σ=[some (.ref x),some (.ref r),some (.ref r'),some (.int g)]∧HX=H1∧∃ mw:Nat,1≤mw∧(ws.length:Int)=g^mw) (fun N hN=>?_) ?_
 ·walk_at "rd"
  refine ⟨_,rfl,x,_,dx,_,.ref p,rfl,hx,T.th_10.cl,T.na_KeepingPaper_weights,rfl,p,rfl,_,.inl (SqL.of hp),?_⟩
  rw [List.length_map]
  refine ⟨g,_,rfl,g2,g9,fun mw hw=>⟨rfl,?_⟩,fun nw=>⟨rfl,?_⟩⟩
  ·by_cases y:mw=0
   ·rw [y,if_pos (show V.int ((0:Nat):Int)=V.int 0 from rfl)]
    refine hfalse (fun ⟨mw',m1,wl',_⟩=>?_) _ (Same.refl _)
    have:=pow_inj g2 (hw.symm.trans wl')
    lia
   ·rw [if_neg (fun z=>y (by have:=V.int.inj z;lia))]
    exact hN _ _ ⟨rfl,rfl,mw,by lia,hw⟩
  ·rw [if_pos rfl]
   exact hfalse (fun ⟨mw',m1,wl',_⟩=>nw mw' wl') _ (Same.refl _)
 rintro σ HX ⟨rfl,rfl,mw,mw1,wl⟩
 have s7:=hm ⟨mw,wl⟩
 refine cut (fun σ HY=>σ=[some (.ref x),some (.ref r),some (.ref r'),some (.int g)]∧HY=HX∧(fl.length:Int)*g=g^(mf - 1)*(ws.length:Int)) (fun N hN=>?_) ?_
 ·walk_at "rd"
  refine ⟨_,rfl,x,_,dx,_,.ref q',rfl,hx,T.th_10.cl,T.na_KeepingPaper_flows,rfl,q',rfl,_,.inl (SqL.of hq),.inr ⟨by lia,by lia⟩,?_⟩
  refine ⟨_,rfl,x,_,dx,_,.ref p,rfl,hx,T.th_10.cl,T.na_KeepingPaper_weights,rfl,r',p,g,lf,tf,mf,_,rfl,ok1,hp,rfl,?_⟩
  rw [List.length_map,List.length_map]
  by_cases y:(fl.length:Int)*g=g^(mf - 1)*(ws.length:Int)
  ·rw [y,if_neg (fun z=>z rfl)]
   exact hN _ _ ⟨rfl,rfl,y⟩
  ·rw [if_pos (fun z=>y (V.int.inj z))]
   exact hfalse (fun ⟨mw',m1,wl',h,_⟩=>y h) _ (Same.refl _)
 rintro σ HY ⟨rfl,rfl,hfl⟩
 have gp:=RW.pow_pos g2 (mf - 1)
 have gn:((g.toNat:Nat):Int)=g:=by lia
 have gl:=gainL_len g tf mf ws mw
 have gl2:(((gainL g tf mf ws mw).length:Nat):Int)=g^(mf - 1)*(ws.length:Int):=by rw [gl,Int.natCast_mul,Int.toNat_of_nonneg (by lia)]
 have wp:=RW.pow_pos g2 mw
 have gfl:(gainL g tf mf ws mw).length=fl.length*g.toNat:=by
  have:((fl.length*g.toNat:Nat):Int)=(fl.length:Int)*g:=by rw [Int.natCast_mul,gn]
  lia
 have fl1':1≤fl.length:=by
  refine Nat.pos_of_ne_zero fun z=>?_
  rw [z] at hfl
  have:=Int.mul_pos gp (show (0:Int)<(ws.length:Int) by lia)
  lia
 walk_at "rd"
 refine ⟨_,rfl,x,_,dx,_,.ref p,rfl,hx,T.th_10.cl,T.na_KeepingPaper_weights,rfl,r',p,g,lf,tf,mf,mw,ws,rfl,ok1,hp,wl,mw1,s7,fun pg H2 n2=>?_⟩
 refine ⟨_,rfl,x,_,dx,_,.ref q',rfl,n2.1 _ _ hx,T.th_10.cl,T.na_KeepingPaper_flows,rfl,pg,q',g,_,fl,rfl,g2,g9,n2.2.2,n2.1 _ _ hq,fl1',gfl,by lia,fun hr H3 e3=>?_,fun n hn hw _ H3 e3=>?_⟩
 ·dsimp only
  rw [decide_eq_true rfl]
  exact q true _ ((e1.trans n2.1).trans e3) ⟨fun _=>⟨mw,mw1,wl,hfl,hr⟩,fun _=>rfl⟩
 ·dsimp only
  rw [decide_eq_false (by intro z;cases z)]
  refine q false _ ((e1.trans n2.1).trans e3) ⟨fun z=>Bool.noConfusion z,fun ⟨mw',m1',wl',_,hr'⟩=>?_⟩
  have:mw=mw':=pow_inj g2 (wl.symm.trans wl')
  subst this
  exact absurd hw (hr' n hn)
theorem sc_1:FnScope ["self","weights","ring"] ["self","weights","ring"] (defScope s_1):=⟨rfl,rfl,rfl,by decide +kernel,rfl,by decide +kernel,by decide +kernel⟩
theorem ok_1 (T:Txt K mg t) :Has P w K mg base 1 t.f_1 ["self","weights","ring"] (spIni t.c_18 "weights" "ring"):=by
 refine has_mk0 T.d_1 sc_1 (fun _ _ _ _ _ _ us hl=>match us,hl with | [_,_,_],_=>rfl) (fun vs H Q E h=>?_) (fun cdv A outer s H vs Q E hr h=>?_)
 ·obtain ⟨x,dx,a,b,xs,ys,rfl,hx,ha,hb,q⟩:=h
  rfl
 obtain ⟨x,dx,a,b,xs,ys,rfl,hx,ha,hb,q⟩:=h
 refine ⟨_,(pss_cons (ps_fld (pv 0) (pe_callTy call_list_of rfl T.z_list PyProof.Rows.boot_list (pa_cons (pv 1) pa_nil)) rfl)
  (pss_one (ps_fld (pv 0) (pe_callTy call_list_of rfl T.z_list PyProof.Rows.boot_list (pa_cons (pv 2) pa_nil)) rfl))),?_⟩
 have ne:∀ {y:Addr} {zs:List V},H y=some (.lst zs)→y≠x:=fun h e=>by rw [e,hx] at h;cases h
 walk_at "rd"
 refine ⟨_,rfl,a,rfl,_,.inl (SqL.of ha),fun l hl=>?_⟩
 have f1:=Same.new hl (.lst (xs.map V.int))
 refine ⟨_,rfl,x,_,dx,[],rfl,f1 _ _ hx,T.th_18.cl,T.na_ChangePaper_weights,by decide,?_⟩
 have lx:l≠x:=fun e=>by rw [e,hx] at hl;cases hl
 obtain ⟨H1,hH1⟩:∃ H1,H1=upd (upd H l (.lst (xs.map V.int))) x (.ins t.c_18 dx (putF "weights" (.ref l) [])):=⟨_,rfl⟩
 have b1:H1 b=some (.lst (ys.map V.int)):=by rw [hH1,upd_ne (ne hb)];exact f1 _ _ hb
 have l1:H1 l=some (.lst (xs.map V.int)):=by rw [hH1,upd_ne lx];exact upd_same
 have x1:H1 x=some (.ins t.c_18 dx [("weights",.ref l)]):=by rw [hH1];exact upd_same
 have s1:∀ H2,Same H2 H→H2 x=none→Same H2 H1:=fun H2 e n=>by rw [hH1];exact (e.trans f1).into n
 rw [←hH1]
 refine ⟨_,rfl,b,rfl,_,.inl (SqL.of b1),fun l2 hl2=>?_⟩
 have f2:=Same.new hl2 (.lst (ys.map V.int))
 have l2x:l2≠x:=fun e=>by rw [e,x1] at hl2;cases hl2
 refine ⟨_,rfl,x,_,dx,_,rfl,f2 _ _ x1,T.th_18.cl,T.na_ChangePaper_ring,(by show 1<1000;decide),?_⟩
 have free2:H l2=none:=by
  cases z:H l2 with
  | none=>rfl
  | some o =>
   have:=f1 _ _ z
   rw [hH1,upd_ne l2x,this] at hl2
   cases hl2
 refine q _ (fun H2 e n=>((s1 H2 e n).trans f2).into n) ⟨dx,l,l2,upd_same,?_,?_,hl,free2⟩
 ·rw [upd_ne lx];exact f2 _ _ l1
 ·rw [upd_ne l2x];exact upd_same
theorem sc_5:FnScope ["self"] ["self"] (defScope s_5):=⟨rfl,rfl,rfl,by decide +kernel,rfl,by decide +kernel,by decide +kernel⟩
theorem ok_5 (T:Txt K mg t) :Has P w K mg base 1 t.f_5 ["self"] (spTld t.c_18 "weights" "ring"):=by
 refine has_mk0 T.d_5 sc_5 (fun _ _ _ _ _ _ us hl=>match us,hl with | [_],_=>rfl) (fun vs H Q E h=>?_) (fun cdv A outer s H vs Q E hr h=>?_)
 ·obtain ⟨x,xs,ys,rfl,pv',q⟩:=h
  rfl
 obtain ⟨x,xs,ys,rfl,pv',q⟩:=h
 refine ⟨_,(pss_one (ps_ret (pe_tup (pa_cons (pe_callTy call_list_of rfl T.z_list PyProof.Rows.boot_list (pa_cons (pe_fld (pv 0) rfl) pa_nil)) (pa_cons (pe_callTy call_list_of rfl T.z_list PyProof.Rows.boot_list (pa_cons (pe_fld (pv 0) rfl) pa_nil)) pa_nil))))),?_⟩
 obtain ⟨dx,p,q',hx,hp,hq⟩:=pv'
 walk_at "rd"
 refine ⟨_,rfl,x,_,dx,_,.ref p,rfl,hx,T.th_18.cl,T.na_ChangePaper_weights,rfl,p,rfl,_,.inl (SqL.of hp),fun l hl=>?_⟩
 have f1:=Same.new hl (.lst (xs.map V.int))
 refine ⟨_,rfl,x,_,dx,_,.ref q',rfl,f1 _ _ hx,T.th_18.cl,T.na_ChangePaper_ring,rfl,q',rfl,_,.inl (SqL.of (f1 _ _ hq)),fun l2 hl2=>?_⟩
 have f2:=Same.new hl2 (.lst (ys.map V.int))
 refine ⟨by decide,fun tt ht=>?_⟩
 have f3:=Same.new ht (.tup [.ref l,.ref l2])
 exact q tt l l2 _ ((f1.trans f2).trans f3) upd_same ((f2.trans f3) _ _ upd_same) (f3 _ _ upd_same) hl (f1.free hl2) fun e=>by rw [←e,upd_same] at hl2;cases hl2
theorem sc_3:FnScope ["self","one","framed"] ["self","one"] (defScope s_3):=⟨rfl,rfl,rfl,by decide +kernel,rfl,by decide +kernel,by decide +kernel⟩
theorem ok_3 (T:Txt K mg t) (G_64:Has P w K mg base 8 t.f_64 ["one"] (spFrame t.c_51)) (G_9:Has P w K mg base 6 t.f_9 ["one","weights","ring"] (spChgTot K)) (G_35:Has P w K mg base 1 t.f_35 ["signs","length"] (spPlacesFor)) (G_52:Has P w K mg base 4 t.f_52 ["word","signs"] (spIsRing K)):Has P w K mg base 9 t.f_3 ["self","one"] (spHldC t.c_51 t.c_18):=by
 refine has_mkX T.d_3 sc_3 (fun _ _ _ _ _ _ us hl=>match us,hl with | [_,_],_=>rfl) (fun vs H Q E h=>?_) (fun cdv A outer s H vs Q E hr h=>?_)
 ·obtain ⟨x,r,g,lo,tab,m,lf,tf,mf,ws,ring,rfl,pv',ok,fw,hbig,hsm⟩:=h
  rfl
 obtain ⟨x,r,g,lo,tab,m,lf,tf,mf,ws,ring,rfl,pv',ok,fw,hbig,hsm⟩:=h
 refine ⟨_,(pss_cons (ps_set (i:=2) sc_3.nd rfl (Or.inl rfl) (pe_callH G_64 (hr.mono (by decide)) rfl T.m_64 passes_body (pa_cons (pv 1) pa_nil)))
  (pss_cons (ps_if (PW.pt (pw_or (pt_cmpR op_eq (pe_callH G_35 (hr.mono (by decide)) rfl T.m_35 passF (pa_cons (pe_ix ix_tup (pv 2) pe_int (fun _ _=>rfl)) (pa_cons (pe_callB call_len_seq rfl T.z_len PySem.boot_len (pa_cons (pe_fld (pv 0) rfl) pa_nil)) pa_nil))) pe_int (nomark _)) (pw_or1 (pt_not (pt_val (pe_callH G_52 (hr.mono (by decide)) rfl T.m_52 passF (pa_cons (pe_fld (pv 0) rfl) (pa_cons (pe_ix ix_tup (pv 2) pe_int (fun _ _=>rfl)) pa_nil)))))))) (pss_one (ps_ret pe_bl)) pss_nil)
  (pss_one (ps_ret (pe_callH G_9 (hr.mono (by decide)) rfl T.m_9 passF (pa_cons (pv 2) (pa_cons (pe_fld (pv 0) rfl) (pa_cons (pe_fld (pv 0) rfl) pa_nil)))))))),?_⟩
 have g2:=ok.g2
 have g9:=ok.g9
 have mf2:=fw.two
 obtain ⟨al,tfl⟩:=fw.alike g2 ok.len
 refine hide fun N hN=>?_
 walk_at "rd"
 refine ⟨r,g,lo,tab,m,lf,tf,mf,rfl,ok,fw,fun s9 r' H1 e1 ok1=>hN _ _ ?_,fun s9=>hbig s9⟩
 clear hN N
 obtain ⟨⟨w1,r8⟩,q⟩:=hsm s9
 obtain ⟨dx,p,q',hx,hp,hq⟩:=pv'.same e1
 obtain ⟨tb',r1,r2⟩:=id ok1.v
 have hfalse:¬ ChgP g lo tab m ws ring→∀ H',Same H1 H'→Q (.bl false) H':=fun nh H' e=>q false H' (e1.trans e) ⟨fun z=>Bool.noConfusion z,fun z=>absurd z nh⟩
 refine cut (fun σ HX=>σ=[some (.ref x),some (.ref r),some (.ref r')]∧Same H1 HX∧1≤ring.length∧(∀ x∈ring,0≤x∧x<g)∧∃ mw:Nat,1≤mw∧(ws.length:Int)=g^mw) (fun N hN=>?_) ?_
 ·walk_at "rd"
  refine ⟨r',_,0,_,rfl,rfl,SqT.of r1,rfl,?_⟩
  refine ⟨_,rfl,x,_,dx,_,.ref p,rfl,hx,T.th_18.cl,T.na_ChangePaper_weights,rfl,p,rfl,_,.inl (SqL.of hp),?_⟩
  rw [List.length_map]
  refine ⟨g,_,rfl,g2,g9,fun mw hw=>⟨rfl,?_⟩,fun nw=>⟨rfl,?_⟩⟩
  ·by_cases y:mw=0
   ·rw [y,if_pos (show V.int ((0:Nat):Int)=V.int 0 from rfl)]
    refine hfalse (fun ⟨mw',m1,wl',_⟩=>?_) _ (Same.refl _)
    have:=pow_inj g2 (hw.symm.trans wl')
    lia
   ·rw [if_neg (fun z=>y (by have:=V.int.inj z;lia))]
    refine ⟨_,rfl,x,_,dx,_,.ref q',rfl,hx,T.th_18.cl,T.na_ChangePaper_ring,rfl,r',_,0,_,rfl,rfl,SqT.of r1,rfl,q',ring,g,rfl,hq,r8,fun c H2 e2 hc=>⟨c,rfl,?_⟩⟩
    by_cases z:c=false
    ·rw [if_pos z]
     refine hfalse (fun ⟨mw',m1,wl',a1,a2,_⟩=>?_) _ e2
     have:=hc.mpr ⟨a1,a2⟩
     rw [z] at this
     cases this
    ·rw [if_neg z]
     have:=hc.mp (by cases c with | true=>rfl | false=>exact absurd rfl z)
     exact hN _ _ ⟨rfl,e2,this.1,this.2,mw,by lia,hw⟩
  ·rw [if_pos rfl]
   exact hfalse (fun ⟨mw',m1,wl',_⟩=>nw mw' wl') _ (Same.refl _)
 rintro σ HX ⟨rfl,eX,rl,rb,mw,mw1,wl⟩
 have m8:mw≤8:=by
  by_cases y:mw≤9
  ·by_cases y9:mw=9
   ·exfalso
    subst y9
    have:=pow_ge2 g2 9
    have:(2:Int)^9=512:=by decide
    lia
   ·lia
  ·exfalso
   have a:=pow_mono g2 (show 10≤mw by lia)
   have b:=pow_ge2 g2 10
   have:(2:Int)^10=1024:=by decide
   lia
 walk_at "rd"
 have hx':=eX _ _ hx
 refine ⟨_,rfl,x,_,dx,_,.ref p,rfl,hx',T.th_18.cl,T.na_ChangePaper_weights,rfl,_,rfl,x,_,dx,_,.ref q',rfl,hx',T.th_18.cl,T.na_ChangePaper_ring,rfl,r',p,q',g,lf,tf,ws,ring,mf,mw,rfl,ok1.same eX,eX _ _ hp,wl,mw1,m8,SqL.of (eX _ _ hq),rb,rl,r8,fun c H2 e2 hc=>?_⟩
 rw [ring_alike27 g2 al rb] at hc
 refine q c H2 ((e1.trans eX).trans e2) (hc.trans ⟨fun h=>⟨mw,mw1,wl,rl,rb,h⟩,fun ⟨mw',m1',wl',_,_,h⟩=>?_⟩)
 have:mw=mw':=pow_inj g2 (wl.symm.trans wl')
 subst this
 exact h
theorem sc_31:FnScope ["_law_found"] ["_law_found"] (defScope s_31):=⟨rfl,rfl,rfl,by decide +kernel,rfl,by decide +kernel,by decide +kernel⟩
theorem ok_31 (T:Txt K mg t) :Has P w K mg base 1 t.f_31 ["_law_found"] (spWhole):=by
 refine has_mk0 T.d_31 sc_31 (fun _ _ _ _ _ _ us hl=>match us,hl with | [_],_=>rfl) (fun vs H Q E h=>?_) (fun cdv A outer s H vs Q E hr h=>?_)
 ·obtain ⟨x,rfl,kd,q⟩:=h
  rfl
 obtain ⟨x,rfl,kd,q⟩:=h
 refine ⟨_,(pss_one (ps_ret (pe_and (pe_isi rfl T.z_isinstance (pv 0) (pe_ty rfl T.z_int PyProof.Rows.boot_int)) (pe_one (pe_not (pe_isi rfl T.z_isinstance (pv 0) (pe_ty rfl T.z_bool PyProof.Rows.boot_bool))))))),?_⟩
 walk_at "rd"
 cases x with
 | int i =>
  refine ⟨_,.of (.int i),_,ki_ii,?_⟩
  rw [if_pos rfl]
  exact ⟨_,.of (.int i),_,ki_ib,q⟩
 | bl b =>
  refine ⟨_,.of (.bl b),_,ki_bi,?_⟩
  rw [if_pos rfl]
  exact ⟨_,.of (.bl b),_,ki_bb,q⟩
 | non =>
  refine ⟨_,.of .non,_,ki_ni,?_⟩
  rw [if_neg (by decide)]
  exact q
 | str y =>
  refine ⟨_,.of (.str y),_,ki_si,?_⟩
  rw [if_neg (by decide)]
  exact q
 | ref a =>
  obtain ⟨xs,z | z⟩:=kd
  ·refine ⟨_,.of (.lst z),_,ki_li,?_⟩
   rw [if_neg (by decide)]
   exact q
  ·refine ⟨_,.of (.tup z),_,ki_ti,?_⟩
   rw [if_neg (by decide)]
   exact q
 | byt _=>exact kd.elim
 | flt _=>exact kd.elim
 | ty _=>exact kd.elim
theorem sc_11:FnScope ["_law_script","_law_k"] ["_law_script","_law_k"] (defScope s_11):=⟨rfl,rfl,rfl,by decide +kernel,rfl,by decide +kernel,by decide +kernel⟩
theorem ok_11 (T:Txt K mg t) :Has P w K mg base 1 t.f_11 ["_law_script","_law_k"] (spCell K):=by
 refine has_mk0 T.d_11 sc_11 (fun _ _ _ _ _ _ us hl=>match us,hl with | [_,_],_=>rfl) (fun vs H Q E h=>?_) (fun cdv A outer s H vs Q E hr h=>?_)
 ·obtain ⟨a,ns,k,rfl,hS,h63,q⟩:=h
  rfl
 obtain ⟨a,ns,k,rfl,hS,h63,q⟩:=h
 refine ⟨_,(pss_cons (ps_if (pt_cmpR op_lt (pv 1) (pe_callB call_len_seq rfl T.z_len PySem.boot_len (pa_cons (pv 0) pa_nil)) (nomark _)) (pss_one (ps_ret (pe_ix ix_list (pv 0) (pv 1) (fun _ _=>rfl)))) pss_nil)
  (pss_one (ps_ret pe_int))),?_⟩
 walk_at "rd"
 refine ⟨_,.inl hS,?_⟩
 rw [List.length_map]
 by_cases h:(k:Int)<(ns.length:Int)
 ·rw [if_pos h]
  have hk:k<ns.length:=by lia
  refine ⟨a,_,k,.int (ns.getD k 0),rfl,rfl,hS,atI_nat ?_,q⟩
  rw [List.getElem?_map,List.getElem?_eq_getElem hk,List.getD_eq_getElem?_getD,List.getElem?_eq_getElem hk]
  rfl
 ·rw [if_neg h]
  have e:ns.getD k 0=0:=by rw [List.getD_eq_getElem?_getD,List.getElem?_eq_none (by lia)];rfl
  rw [e] at q
  exact q
theorem sc_20:FnScope ["_law_cell","_law_many","_law_found","_law_number","_law_k"] ["_law_cell","_law_many"] (defScope s_20):=⟨rfl,rfl,rfl,by decide +kernel,rfl,by decide +kernel,by decide +kernel⟩
theorem ok_20 (T:Txt K mg t) :Has P w K mg base 1 t.f_20 ["_law_cell","_law_many"] (spStream):=by
 refine has_mk0 T.d_20 sc_20 (fun _ _ _ _ _ _ us hl=>match us,hl with | [_,_],_=>rfl) (fun vs H Q E h=>?_) (fun cdv A outer s H vs Q E hr h=>?_)
 ·obtain ⟨c,m,rfl,m0,m3,q⟩:=h
  rfl
 obtain ⟨c,m,rfl,m0,m3,q⟩:=h
 refine ⟨_,(pss_cons (ps_set (i:=2) sc_20.nd rfl (Or.inl rfl) (pe_lst pa_nil))
  (pss_cons (ps_set (i:=3) sc_20.nd rfl (Or.inl rfl) (pe_op op_add (pe_op op_mod (pv 0) pe_int) pe_int))
  (pss_cons (ps_for PassesOwn.never rfl (pi_range1 rfl T.z_range (pa_cons (pv 1) pa_nil)) (pg_name (i:=4) sc_20.nd rfl (Or.inl rfl)) (pss_cons (ps_set (i:=3) sc_20.nd rfl (Or.inl rfl) (pe_op op_mod (pe_op op_add (pe_op op_add (pe_op op_mul (pv 3) pe_int) (pe_op op_mul (pv 4) (pv 4))) pe_int) pe_int))
  (pss_one (ps_expr (pe_bm PySem.F.plainAttrs_list PySem.F.slot_list_append PySem.F.type_list_append mt_append (pv 2) (pa_cons (pe_op op_fdiv (pv 3) pe_int) pa_nil))))))
  (pss_one (ps_ret (pv 2)))))),?_⟩
 walk_at "rd"
 refine ⟨Nat.zero_le _,fun p hp=>⟨by decide,?_⟩⟩
 refine ⟨_,rfl,m,rfl,by lia,by lia,?_⟩
 refine for_range (n:=m.toNat) (fun i σ H1=>∃ (l:List Int) (x3:Int) (x4:Option V),l.length=i∧σ=[some (.int c),some (.int m),some (.ref p),some (.int x3),x4]∧H1=upd H p (.lst (l.map V.int))) ⟨[],_,none,rfl,rfl,rfl⟩ ?_ ?_
 ·rintro i σ H1 hi ⟨l,x3,x4,hl,rfl,rfl⟩
  walk_at "rd"
  refine ⟨.inr ⟨by decide,by decide⟩,.inl ⟨by lia,by lia⟩,by decide,.inl ⟨_,SqL.of upd_same⟩,by decide,by decide,_,upd_same,?_,l++[(x3*48271+(0+(i:Int))*(0+(i:Int))+11)%2147483647 / 7],?_,?_⟩
  ·rw [List.length_map];exact small1000 (by lia)
  ·rw [List.length_append,hl];rfl
  ·rw [upd_upd,List.map_append];rfl
 ·rintro σ H1 ⟨l,x3,x4,hl,rfl,rfl⟩
  walk_at "rd"
  exact q p _ l hl (Same.new hp _) hp upd_same
theorem sc_27:FnScope ["_law_signs","_law_many","_law_size","_law_k"] ["_law_signs","_law_many"] (defScope s_27):=⟨rfl,rfl,rfl,by decide +kernel,rfl,by decide +kernel,by decide +kernel⟩
theorem ok_27 (T:Txt K mg t) :Has P w K mg base 1 t.f_27 ["_law_signs","_law_many"] (spPower):=by
 refine has_mk0 T.d_27 sc_27 (fun _ _ _ _ _ _ us hl=>match us,hl with | [_,_],_=>rfl) (fun vs H Q E h=>?_) (fun cdv A outer s H vs Q E hr h=>?_)
 ·obtain ⟨g,m,rfl,g2,g9,m0,m3,q⟩:=h
  rfl
 obtain ⟨g,m,rfl,g2,g9,m0,m3,q⟩:=h
 refine ⟨_,(pss_cons (ps_set (i:=2) sc_27.nd rfl (Or.inl rfl) pe_int)
  (pss_cons (ps_for PassesOwn.never rfl (pi_range1 rfl T.z_range (pa_cons (pv 1) pa_nil)) (pg_name (i:=3) sc_27.nd rfl (Or.inl rfl)) (pss_one (ps_set (i:=2) sc_27.nd rfl (Or.inl rfl) (pe_op op_mul (pv 2) (pv 0)))))
  (pss_one (ps_ret (pv 2))))),?_⟩
 walk_at "rd"
 refine ⟨_,rfl,m,rfl,by lia,by lia,?_⟩
 refine for_range (n:=m.toNat) (fun i σ H1=>∃ x,σ=[some (.int g),some (.int m),some (.int (g^i)),x]∧H1=H) ⟨none,by rw [Int.pow_zero],rfl⟩ ?_ ?_
 ·rintro i σ H1 hi ⟨x,rfl,rfl⟩
  walk_at "rd"
  refine ⟨.inr ⟨by lia,by lia⟩,?_⟩
  rw [Int.pow_succ]
  exact ⟨rfl,_,rfl⟩
 ·rintro σ H1 ⟨x,rfl,rfl⟩
  walk_at "rd"
  exact q
theorem sc_8:FnScope ["_law_signs","_law_size","_law_many"] ["_law_signs","_law_size"] (defScope s_8):=⟨rfl,rfl,rfl,by decide +kernel,rfl,by decide +kernel,by decide +kernel⟩
theorem ok_8 (T:Txt K mg t) :Has P w K mg base 1 t.f_8 ["_law_signs","_law_size"] (spExp73):=by
 refine has_mk0 T.d_8 sc_8 (fun _ _ _ _ _ _ us hl=>match us,hl with | [_,_],_=>rfl) (fun vs H Q E h=>?_) (fun cdv A outer s H vs Q E hr h=>?_)
 ·obtain ⟨g,n,rfl,g2,g9,n0,n2,hy,hn⟩:=h
  rfl
 obtain ⟨g,n,rfl,g2,g9,n0,n2,hy,hn⟩:=h
 refine ⟨_,(pss_cons (ps_set (i:=2) sc_8.nd rfl (Or.inl rfl) pe_int)
  (pss_cons (ps_while PassesOwn.never (PW.pt (pw_and (pt_cmpR op_gt (pv 1) pe_int (nomark _)) (pw_and1 (pt_cmpR op_eq (pe_op op_mod (pv 1) (pv 0)) pe_int (nomark _))))) (pss_cons (ps_set (i:=1) sc_8.nd rfl (Or.inl rfl) (pe_op op_fdiv (pv 1) (pv 0)))
  (pss_one (ps_set (i:=2) sc_8.nd rfl (Or.inl rfl) (pe_op op_add (pv 2) pe_int)))))
  (pss_cons (ps_if (pt_cmpR op_ne (pv 1) pe_int (nomark _)) (pss_one (ps_ret pe_int)) pss_nil)
  (pss_one (ps_ret (pv 2)))))),?_⟩
 refine hide fun N hN=>?_
 walk_at "rd"
 refine hN _ _ ?_
 clear hN N
 refine cut (fun σ HX=>∃ (s:Int) (k:Nat),σ=[some (.int g),some (.int s),some (.int ((k:Nat):Int))]∧HX=H∧n=s*g^k∧0≤s∧(s≤1∨s%g≠0)) (fun N hN=>?_) ?_
 ·refine while_by (fun σ HX=>∃ (s:Int) (k:Nat),σ=[some (.int g),some (.int s),some (.int ((k:Nat):Int))]∧HX=H∧n=s*g^k∧0≤s)
   (fun (σ:St) (_:Hp)=>match σ[1]? with | some (some (V.int x))=>x.toNat | _=>0) ⟨n,0,rfl,rfl,by rw [Int.pow_zero,Int.mul_one],n0⟩ ?_ ?_
  ·rintro σ HX ⟨s,k,rfl,rfl,e,s0⟩
   walk_at "rd"
   by_cases z:1<s
   ·rw [if_pos z]
    refine ⟨by lia,?_⟩
    by_cases y:s%g=0
    ·rw [if_pos y]
     have d:=Int.ediv_mul_cancel (Int.dvd_of_emod_eq_zero y)
     have d0:=Int.ediv_nonneg s0 (show 0≤g by lia)
     have d1:s / g<s:=by
      have:=Int.mul_le_mul_of_nonneg_left (show (2:Int)≤g by lia) d0
      lia
     refine ⟨by lia,by lia,⟨k+1,by lia,?_,d0⟩,by lia⟩
     rw [e,Int.pow_succ,←Int.mul_assoc,Int.mul_right_comm,d]
    ·rw [if_neg y]
     exact hN _ _ ⟨s,k,rfl,rfl,e,s0,.inr y⟩
   ·rw [if_neg z]
    exact hN _ _ ⟨s,k,rfl,rfl,e,s0,.inl (by lia)⟩
  ·intro σ HZ Q1 Q2 hq
   walk_at "rd"
   rintro ⟨v,h1,i,e1,hh⟩
   refine ⟨v,h1,i,e1,?_⟩
   by_cases z:1<i
   ·rw [if_pos z] at hh ⊢
    obtain ⟨v2,h2,v3,h3,i2,e2,x2,e3,hx,hh⟩:=hh
    exact ⟨v2,h2,v3,h3,i2,e2,x2,e3,hx,hq _ _ hh⟩
   ·rw [if_neg z] at hh ⊢
    exact hq _ _ hh
 rintro σ HX ⟨s,k,rfl,rfl,e,s0,ex'⟩
 walk_at "rd"
 by_cases y:s=1
 ·rw [if_neg (fun z=>z y)]
  exact hy k (by rw [e,y,Int.one_mul])
 ·rw [if_pos y]
  exact hn fun m h=>exp73 g2 s0 y ex' k m (by rw [←e];exact h)
theorem sc_26:FnScope ["_law_signs","_law_xs","_law_goes","_law_at","_law_most","_law_table_here","_law_gone"] ["_law_signs","_law_xs"] (defScope s_26):=⟨rfl,rfl,rfl,by decide +kernel,rfl,by decide +kernel,by decide +kernel⟩
theorem ok_26 (T:Txt K mg t) :Has P w K mg base 1 t.f_26 ["_law_signs","_law_xs"] (spGoing66):=by
 refine has_mk0 T.d_26 sc_26 (fun _ _ _ _ _ _ us hl=>match us,hl with | [_,_],_=>rfl) (fun vs H Q E h=>?_) (fun cdv A outer s H vs Q E hr h=>?_)
 ·obtain ⟨g,px,xs,rfl,g2,g3,hx,xl,q⟩:=h
  rfl
 obtain ⟨g,px,xs,rfl,g2,g3,hx,xl,q⟩:=h
 refine ⟨_,(pss_cons (ps_set (i:=2) sc_26.nd rfl (Or.inl rfl) (pe_lst pa_nil))
  (pss_cons (ps_for PassesOwn.never rfl (pi_range1 rfl T.z_range (pa_cons (pe_op op_mul (pv 0) (pv 0)) pa_nil)) (pg_name (i:=3) sc_26.nd rfl (Or.inl rfl)) (pss_cons (ps_set (i:=4) sc_26.nd rfl (Or.inl rfl) (pe_callB (call_min2 rfl) rfl T.z_min PyProof.Rows.boot_min (pa_cons (pe_op op_fdiv (pv 3) (pv 0)) (pa_cons (pe_op op_sub (pe_op op_sub (pv 0) pe_int) (pe_op op_mod (pv 3) (pv 0))) pa_nil))))
  (pss_one (ps_expr (pe_bm PySem.F.plainAttrs_list PySem.F.slot_list_append PySem.F.type_list_append mt_append (pv 2) (pa_cons (pe_op op_sub (pv 4) (pe_op op_mod (pe_ix ix_list (pv 1) (pv 3) (fun _ _=>rfl)) (pe_op op_add (pv 4) pe_int))) pa_nil))))))
  (pss_cons (ps_set (i:=5) sc_26.nd rfl (Or.inl rfl) (pe_lst pa_nil))
  (pss_cons (ps_for PassesOwn.never rfl (pi_range1 rfl T.z_range (pa_cons (pe_op op_mul (pe_op op_mul (pv 0) (pv 0)) (pv 0)) pa_nil)) (pg_name (i:=3) sc_26.nd rfl (Or.inl rfl)) (pss_cons (ps_set (i:=6) sc_26.nd rfl (Or.inl rfl) (pe_ix ix_list (pv 2) (pe_op op_mod (pv 3) (pe_op op_mul (pv 0) (pv 0))) (fun _ _=>rfl)))
  (pss_one (ps_expr (pe_bm PySem.F.plainAttrs_list PySem.F.slot_list_append PySem.F.type_list_append mt_append (pv 5) (pa_cons (pe_op op_add (pe_op op_sub (pe_op op_mod (pe_op op_fdiv (pv 3) (pv 0)) (pv 0)) (pv 6)) (pe_ix ix_list (pv 2) (pe_op op_fdiv (pv 3) (pv 0)) (fun _ _=>rfl))) pa_nil))))))
  (pss_one (ps_ret (pv 5))))))),?_⟩
 have gn:((g.toNat:Nat):Int)=g:=by lia
 obtain ⟨G,hG⟩:∃ G:Nat,(G:Int)=g:=⟨g.toNat,gn⟩
 have G0:0<G:=by lia
 have gg:g*g=((G*G:Nat):Int):=by rw [Int.natCast_mul,hG]
 have ggg:g*g*g=((G*G*G:Nat):Int):=by rw [Int.natCast_mul,←gg,hG]
 have G9:G*G≤9:=Nat.mul_le_mul (show G≤3 by lia) (show G≤3 by lia)
 have G27:G*G*G≤27:=Nat.mul_le_mul G9 (show G≤3 by lia)
 refine hide fun N hN=>?_
 walk_at "rd"
 refine ⟨Nat.zero_le _,fun p hp=>hN _ _ ?_⟩
 clear hN N
 refine cut (fun σ HX=>∃ (x3 x4:Option V) (gl:List Int),σ=[some (.int g),some (.ref px),some (.ref p),x3,x4,none,none]∧Same H HX∧HX p=some (.lst (gl.map V.int))∧gl.length=G*G∧∀ j,j<G*G→0≤gl.getD j 0∧gl.getD j 0≤((j / G:Nat):Int)∧gl.getD j 0≤g - 1 - ((j%G:Nat):Int)) (fun N hN=>?_) ?_
 ·refine ⟨_,rfl,_,rfl,_,_,rfl,rfl,.inr ⟨by lia,by lia⟩,_,rfl,by lia,by lia,?_⟩
  rw [gg,Int.toNat_natCast]
  refine for_range (n:=G*G) (fun i σ HX=>∃ (x3 x4:Option V) (gl:List Int),σ=[some (.int g),some (.ref px),some (.ref p),x3,x4,none,none]∧Same H HX∧HX p=some (.lst (gl.map V.int))∧gl.length=i∧∀ j,j<i→0≤gl.getD j 0∧gl.getD j 0≤((j / G:Nat):Int)∧gl.getD j 0≤g - 1 - ((j%G:Nat):Int)) ⟨none,none,[],rfl,Same.new hp _,upd_same,rfl,fun j hj=>absurd hj (Nat.not_lt_zero _)⟩ ?_ fun σ HX z=>hN _ _ z
  rintro i σ HX hi ⟨x3,x4,gl,rfl,eX,hX,ll,gb⟩
  have ed:(i:Int) / g=((i / G:Nat):Int):=by rw [Int.natCast_ediv,hG]
  have em:(i:Int)%g=((i%G:Nat):Int):=by rw [Int.natCast_emod,hG]
  have ml:=Nat.mod_lt i G0
  refine hide fun N2 hN2=>?_
  walk_at "rd"
  rw [Int.zero_add,ed,em]
  refine ⟨by lia,by lia,by lia,hN2 _ _ ?_⟩
  clear hN2 N2
  obtain ⟨dI,hdI⟩:∃ d:Nat,d=i / G:=⟨_,rfl⟩
  obtain ⟨mI,hmI⟩:∃ d:Nat,d=i%G:=⟨_,rfl⟩
  rw [←hdI,←hmI]
  rw [←hmI] at ml
  obtain ⟨mo,hmo⟩:∃ mo:Int,mo=if g - 1 - ((mI:Nat):Int)<((dI:Nat):Int) then g - 1 - ((mI:Nat):Int) else ((dI:Nat):Int):=⟨_,rfl⟩
  have mb:0≤mo∧mo≤((dI:Nat):Int)∧mo≤g - 1 - ((mI:Nat):Int):=by rw [hmo];split <;> lia
  rw [←hmo]
  clear hmo
  have v0:=Int.emod_nonneg (xs.getD i 0) (show mo+1≠0 by lia)
  have v1:=Int.emod_lt_of_pos (xs.getD i 0) (show 0<mo+1 by lia)
  walk_at "rd"
  refine ⟨.inl ⟨_,SqL.of hX⟩,px,_,_,_,rfl,rfl,SqL.of (eX _ _ hx),getAt (by lia),_,rfl,by lia,_,hX,?_,eX.into hp,gl++[mo - xs.getD i 0%(mo+1)],?_,?_,fun j hj=>?_⟩
  ·rw [List.length_map,ll]
   exact small1000 (by lia)
  ·rw [upd_same,List.map_append];rfl
  ·rw [List.length_append,ll];rfl
  ·by_cases jl:j<i
   ·rw [List.getD_eq_getElem?_getD,List.getElem?_append_left (by lia),←List.getD_eq_getElem?_getD]
    exact gb j jl
   ·have ji:j=i:=by lia
    subst ji
    rw [List.getD_eq_getElem?_getD,List.getElem?_append_right (by lia),ll,Nat.sub_self,←hdI,←hmI]
    show 0≤mo - xs.getD j 0%(mo+1)∧mo - xs.getD j 0%(mo+1)≤_∧mo - xs.getD j 0%(mo+1)≤_
    lia
 rintro σ H1 ⟨x3,x4,gl,rfl,e1,h1,ll,gb⟩
 refine hide fun N hN=>?_
 walk_at "rd"
 refine ⟨Nat.zero_le _,fun p2 hp2=>hN _ _ ?_⟩
 clear hN N
 have e2:=Same.new hp2 (.lst [])
 have np2:H p2=none:=e1.free hp2
 refine cut (fun σ HX=>(∃ x3 x6,σ=[some (.int g),some (.ref px),some (.ref p),x3,x4,some (.ref p2),x6])∧Same H HX∧HX p2=some (.lst (((List.range (G*G*G)).map fun k:Nat=>((k / G%G:Nat):Int) - gl.getD (k%(G*G)) 0+gl.getD (k / G) 0).map V.int))) (fun N hN=>?_) ?_
 ·refine ⟨_,rfl,_,rfl,_,_,rfl,rfl,.inr ⟨by lia,by lia⟩,_,rfl,_,_,rfl,rfl,.inr ⟨by lia,by lia⟩,_,rfl,by lia,by lia,?_⟩
  rw [ggg,Int.toNat_natCast]
  refine for_range (n:=G*G*G) (fun i σ HX=>(∃ x3 x6,σ=[some (.int g),some (.ref px),some (.ref p),x3,x4,some (.ref p2),x6])∧Same H1 HX∧HX p2=some (.lst (((List.range i).map fun k:Nat=>((k / G%G:Nat):Int) - gl.getD (k%(G*G)) 0+gl.getD (k / G) 0).map V.int))) ⟨⟨_,_,rfl⟩,e2,upd_same⟩ ?_ fun σ HX z=>hN _ _ ⟨z.1,e1.trans z.2.1,z.2.2⟩
  rintro i σ HX hi ⟨⟨x3,x6,rfl⟩,eX,hX⟩
  have ed:(i:Int) / g=((i / G:Nat):Int):=by rw [Int.natCast_ediv,hG]
  have em:(i:Int)%(g*g)=((i%(G*G):Nat):Int):=by rw [Int.natCast_emod,gg]
  have ee:((i / G:Nat):Int)%g=((i / G%G:Nat):Int):=by rw [Int.natCast_emod,hG]
  have m1:i%(G*G)<gl.length:=by rw [ll];exact Nat.mod_lt _ (Nat.mul_pos G0 G0)
  have m2:i / G<gl.length:=by rw [ll];exact Nat.div_lt_of_lt_mul (by rw [Nat.mul_comm];exact hi)
  refine hide fun N2 hN2=>?_
  walk_at "rd"
  rw [Int.zero_add,em]
  refine ⟨.inr ⟨by lia,by lia⟩,by rw [gg];lia,p,_,_,_,rfl,rfl,SqL.of (eX _ _ h1),getAt m1,hN2 _ _ ?_⟩
  clear hN2 N2
  walk_at "rd"
  rw [ed,ee]
  refine ⟨.inl ⟨_,SqL.of hX⟩,by lia,by lia,by lia,by lia,by lia,p,_,_,_,rfl,rfl,SqL.of (eX _ _ h1),getAt m2,_,rfl,_,hX,?_,⟨_,rfl⟩,eX.into hp2,?_⟩
  ·rw [List.length_map,List.length_map,List.length_range]
   exact small1000 (by lia)
  ·rw [upd_same,range_succ_map,List.map_append]
   rfl
 rintro σ HX ⟨⟨x3',x6',rfl⟩,eX,hX⟩
 walk_at "rd"
 obtain ⟨tl,tb⟩:=go66 g2 hG gb rfl
 exact q p2 _ _ ⟨eX,np2,hX⟩ tl tb
theorem sc_29:FnScope ["_law_signs","_law_way","_law_xs","_law_size","_law_low"] ["_law_signs","_law_way","_law_xs"] (defScope s_29):=⟨rfl,rfl,rfl,by decide +kernel,rfl,by decide +kernel,by decide +kernel⟩
theorem ok_29 (T:Txt K mg t) (G_26:Has P w K mg base 1 t.f_26 ["_law_signs","_law_xs"] (spGoing66)):Has P w K mg base 2 t.f_29 ["_law_signs","_law_way","_law_xs"] (spTable66):=by
 refine has_mk0 T.d_29 sc_29 (fun _ _ _ _ _ _ us hl=>match us,hl with | [_,_,_],_=>rfl) (fun vs H Q E h=>?_) (fun cdv A outer s H vs Q E hr h=>?_)
 ·obtain ⟨g,way,px,xs,rfl,g2,g9,hx,xl,q⟩:=h
  rfl
 obtain ⟨g,way,px,xs,rfl,g2,g9,hx,xl,q⟩:=h
 refine ⟨_,(PSsI.out (psi_cons (psi_set (i:=3) sc_29.nd rfl (Or.inl rfl) (.of (pe_op op_mul (pv 0) (pv 0))) rfl (by first | exact .inl rfl | exact .inr rfl))
  (psi_cons (psi_if (PW.pt (pw_and (pt_cmpR op_eq (pv 1) pe_int (nomark _)) (pw_and1 (pt_cmpR op_lt (pv 0) pe_int (nomark _))))) (psi_one (.of (ps_ret (pe_callH G_26 (hr.mono (by decide)) rfl T.m_26 passF (pa_cons (pv 0) (pa_cons (pv 2) pa_nil)))))) psi_nil)
  (psi_cons (psi_if (PW.pt (pw_and (pt_cmpR op_eq (pv 1) pe_int (nomark _)) (pw_and1 (pt_cmpR op_in_seq (pv 0) (pe_tup (pa_consC (pa_consC (pa_consC (pa_consC pa_nil))))) (by with_unfolding_all rfl))))) (psi_cons (psi_set (i:=4) sc_29.nd rfl (Or.inr rfl) (pei_ix ix_list (pei_lst (pai_consC (pai_consC (pai_consC (pai_consC (pai_consC (pai_consC (pai_consC (pai_consC (pai_consC (pai_consC pai_nil))))))))))) (.of (pv 0)) (fun _ _=>rfl)) rfl (by first | exact .inl rfl | exact .inr rfl))
  (psi_one (.of (ps_ret (pe_comp (fv:=[(0,"_law_signs"),(4,"_law_low")]) (cl:=[("_law_signs",_),("_law_low",_)]) rfl (pi_range1 rfl T.z_range (pa_cons (pv 3) pa_nil)) (by with_unfolding_all rfl) (by decide +kernel) rfl (by decide +kernel) rfl ⟨(by with_unfolding_all rfl),⟨(by with_unfolding_all rfl),trivial⟩⟩ (by with_unfolding_all rfl) ⟨⟨rfl,rfl,(by with_unfolding_all rfl),rfl⟩,⟨⟨rfl,rfl,(by with_unfolding_all rfl),rfl⟩,trivial⟩⟩ (by decide) (fun _ _ _ _=>pf_nil) (fun _ _ _ _=>(pe_op op_add (pe_op op_mul (pe_op op_fdiv (pe_op op_mod (pv 0) (pv 1)) (pv 2)) (pv 2)) (pe_op op_mod (pe_op op_fdiv (pv 0) (pv 1)) (pv 2))))))))) psi_nil)
  (psi_cons (psi_if (pt_cmpR op_eq (pv 1) pe_int (nomark _)) (psi_one (.of (ps_ret (pe_comp (fv:=[(2,"_law_xs"),(0,"_law_signs")]) (cl:=[("_law_xs",_),("_law_signs",_)]) rfl (pi_range1 rfl T.z_range (pa_cons (pv 3) pa_nil)) (by with_unfolding_all rfl) (by decide +kernel) rfl (by decide +kernel) rfl ⟨(by with_unfolding_all rfl),⟨(by with_unfolding_all rfl),trivial⟩⟩ (by with_unfolding_all rfl) ⟨⟨rfl,rfl,(by with_unfolding_all rfl),rfl⟩,⟨⟨rfl,rfl,(by with_unfolding_all rfl),rfl⟩,trivial⟩⟩ (by decide) (fun _ _ _ _=>pf_nil) (fun _ _ _ _=>(pe_op op_mod (pe_op op_add (pe_op op_mod (pv 0) (pv 2)) (pe_ix (ix_listK (K:=K) rfl) (pv 1) pe_int (fun _ _=>rfl))) (pv 2))))))) psi_nil)
  (psi_cons (psi_if (PW.pt (pw_and (pt_cmpR op_lt (pv 0) pe_int (nomark _)) (pw_and1 (pt_cmpR op_eq (pe_op op_mod (pe_ix ix_list (pv 2) pe_int (fun _ _=>rfl)) pe_int) pe_int (nomark _))))) (psi_one (psi_set (i:=3) sc_29.nd rfl (Or.inl rfl) (.of (pe_op op_mul (pv 3) (pv 0))) rfl (by first | exact .inl rfl | exact .inr rfl))) psi_nil)
  (psi_one (.of (ps_ret (pe_comp (fv:=[(0,"_law_signs")]) (cl:=[("_law_signs",_)]) rfl (pi_list (pe_slice sl_list (pv 2) (po_some pe_int) (po_some (pe_op op_add pe_int (pv 3))))) (by with_unfolding_all rfl) (by decide +kernel) rfl (by decide +kernel) rfl ⟨(by with_unfolding_all rfl),trivial⟩ (by with_unfolding_all rfl) ⟨⟨rfl,rfl,(by with_unfolding_all rfl),rfl⟩,trivial⟩ (by decide) (fun _ _ _ _=>pf_nil) (fun _ _ _ _=>(pe_op op_mod (pv 0) (pv 1))))))))))))),?_⟩
 have gg0:0≤g*g:=Int.mul_nonneg (by lia) (by lia)
 have gg1:g*g≤9*9:=Int.mul_le_mul g9 g9 (by lia) (by lia)
 have g1:g^1=g:=by rw [Int.pow_succ,Int.pow_zero,Int.one_mul]
 have gsq:g^2=g*g:=by rw [show (2:Nat)=1+1 from rfl,Int.pow_succ,g1]
 refine hide fun N hN=>?_
 walk_at "rd"
 refine ⟨.inr ⟨by lia,by lia⟩,hN _ _ ?_⟩
 clear hN N
 refine cut (fun σ HX=>σ=[some (.int g),some (.int way),some (.ref px),some (.int (g*g)),none]∧HX=H) (fun N hN=>?_) ?_
 ·walk_at "rd"
  by_cases y:way=1
  ·rw [if_pos y]
   by_cases z:g<4
   ·rw [if_pos z]
    have gg:g*g≤3*3:=Int.mul_le_mul (by lia) (by lia) (by lia) (by lia)
    exact ⟨g,px,xs,rfl,g2,by lia,hx,by lia,fun p H' tab n tl tb=>q p H' tab 3 n tl (.inr ⟨rfl,z⟩) tb⟩
   ·rw [if_neg z]
    exact hN _ _ ⟨rfl,rfl⟩
  ·rw [if_neg y]
   exact hN _ _ ⟨rfl,rfl⟩
 rintro σ HX ⟨rfl,rfl⟩
 have two:∀ p H' tab,NewL HX H' p tab→(tab.length:Int)=g^2→(∀ n∈tab,0≤n∧n<g)→Q (.ref p) H':=fun p H' tab n tl tb=>q p H' tab 2 n tl (.inl rfl) tb
 refine cut (fun σ HY=>(∃ x4,σ=[some (.int g),some (.int way),some (.ref px),some (.int (g*g)),x4])∧Same HX HY) (fun N hN=>?_) ?_
 ·walk_at "rd"
  by_cases y:way=2
  ·rw [if_pos y]
   refine ⟨by decide,fun p1 hp1=>⟨p1,_,rfl,.inr (SqT.of upd_same),rfl,rfl,_,rfl,?_⟩⟩
   have f1:=Same.new hp1 (.tup [V.int 4,V.int 6,V.int 8,V.int 9])
   rw [show (if false=true then !inV (V.int g) [V.int 4,V.int 6,V.int 8,V.int 9] else inV (V.int g) [V.int 4,V.int 6,V.int 8,V.int 9])=inV (V.int g) [V.int 4,V.int 6,V.int 8,V.int 9] from rfl]
   by_cases z:in62 g
   ·rw [if_pos ((in62_dec g2 g9).mpr z)]
    obtain ⟨l2,l4,lg,q3,_,_⟩:=low62_is z
    refine ⟨by decide,fun p2 hp2=>⟨p2,_,_,_,rfl,rfl,SqL.of upd_same,lowat z,?_⟩⟩
    have f2:=f1.trans (Same.new hp2 (.lst [V.int 0,V.int 0,V.int 0,V.int 0,V.int 2,V.int 0,V.int 3,V.int 0,V.int 4,V.int 3]))
    refine ⟨_,rfl,_,rfl,by lia,by lia,fun D hD=>?_⟩
    refine comp_range (n:=(g*g).toNat) (fun i acc Hx=>acc=((List.range i).map fun k:Nat=>(k:Int)%g / low62 g*low62 g+(k:Int) / g%low62 g).map V.int∧Same HX Hx∧Hx D=some (.lst acc)) ⟨rfl,f2.trans (Same.new hD _),upd_same⟩ ?_ ?_
    ·rintro i acc Hx hi ⟨rfl,ex,hDx⟩
     walk_at "rd"
     rw [Int.zero_add]
     refine ⟨by lia,by lia,by lia,.inr ⟨by lia,by lia⟩,by lia,by lia,by lia,hDx,?_,?_,ex.into (f2.free hD),upd_same⟩
     ·rw [List.length_map,List.length_map,List.length_range]
      exact small1000 (by lia)
     ·rw [range_succ_map,List.map_append]
      rfl
    rintro acc H2 ⟨rfl,e2,h2⟩
    obtain ⟨tl,tb,_⟩:=tr_ok z rfl
    exact two D H2 _ ⟨e2,f2.free hD,h2⟩ tl tb
   ·rw [if_neg (fun w=>z ((in62_dec g2 g9).mp w))]
    exact hN _ _ ⟨⟨_,rfl⟩,f1⟩
  ·rw [if_neg y]
   exact hN _ _ ⟨⟨_,rfl⟩,Same.refl _⟩
 rintro σ H1 ⟨⟨x4,rfl⟩,e1⟩
 refine cut (fun σ HY=>σ=[some (.int g),some (.int way),some (.ref px),some (.int (g*g)),x4]∧HY=H1) (fun N hN=>?_) ?_
 ·walk_at "rd"
  by_cases y:way=3
  ·rw [if_pos y]
   refine ⟨_,rfl,_,rfl,by lia,by lia,fun D hD=>?_⟩
   refine comp_range (n:=(g*g).toNat) (fun i acc Hx=>acc=((List.range i).map fun k:Nat=>((k:Int)%g+xs.getD (Int.toNat 0) 0)%g).map V.int∧Same H1 Hx∧Hx D=some (.lst acc)) ⟨rfl,Same.new hD _,upd_same⟩ ?_ ?_
   ·rintro i acc Hx hi ⟨rfl,ex,hDx⟩
    walk_at "rd"
    rw [Int.zero_add]
    refine ⟨by lia,px,_,0,_,rfl,rfl,SqL.of ((e1.trans ex) _ _ hx),getAtZ (z:=0) (by lia) (by rw [xl];decide),_,rfl,by lia,hDx,?_,?_,ex.into hD,upd_same⟩
    ·rw [List.length_map,List.length_map,List.length_range]
     exact small1000 (by lia)
    ·rw [range_succ_map,List.map_append]
     rfl
   rintro acc H2 ⟨rfl,e2,h2⟩
   refine two D H2 _ ⟨e1.trans e2,e1.free hD,h2⟩ (by rw [List.length_map,List.length_range,gsq];omega) fun n hn=>?_
   obtain ⟨k,_,rfl⟩:=List.mem_map.mp hn
   exact ⟨Int.emod_nonneg _ (by lia),Int.emod_lt_of_pos _ (by lia)⟩
  ·rw [if_neg y]
   exact hN _ _ ⟨rfl,rfl⟩
 rintro σ HY ⟨rfl,rfl⟩
 refine cut (fun σ HY'=>(∃ M:Nat,σ=[some (.int g),some (.int way),some (.ref px),some (.int (g^M)),x4]∧(M=2∨M=3∧g<4))∧HY'=HY) (fun N hN=>?_) ?_
 ·walk_at "rd"
  by_cases z:g<4
  ·rw [if_pos z]
   refine ⟨px,_,0,_,rfl,rfl,SqL.of (e1 _ _ hx),getAtZ (z:=0) (by lia) (by rw [xl];decide),?_⟩
   refine ⟨_,rfl,by decide,?_⟩
   by_cases y:xs.getD (Int.toNat 0) 0%2=1
   ·rw [if_pos y]
    refine ⟨.inr ⟨by lia,by lia⟩,hN _ _ ⟨⟨3,?_,.inr ⟨rfl,z⟩⟩,rfl⟩⟩
    rw [show (3:Nat)=2+1 from rfl,Int.pow_succ,gsq]
   ·rw [if_neg y]
    exact hN _ _ ⟨⟨2,by rw [gsq],.inl rfl⟩,rfl⟩
  ·rw [if_neg z]
   exact hN _ _ ⟨⟨2,by rw [gsq],.inl rfl⟩,rfl⟩
 rintro σ HV ⟨⟨M,rfl,hM⟩,rfl⟩
 have gm:=RW.pow_pos g2 M
 have s81:g^M≤81:=by
  rcases hM with rfl | ⟨rfl,g4⟩
  ·rw [gsq];exact gg1
  ·have gg:g*g≤3*3:=Int.mul_le_mul (by lia) (by lia) (by lia) (by lia)
   rw [show (3:Nat)=2+1 from rfl,Int.pow_succ,gsq]
   exact Int.le_trans (Int.mul_le_mul gg (show g≤3 by lia) (by lia) (by lia)) (by decide)
 walk_at "rd"
 refine ⟨_,rfl,1,rfl,_,rfl,_,_,rfl,rfl,_,rfl,?_⟩
 refine sl_new (SqL.of (e1 _ _ hx)) fun p2 H2 e2 _ h2=>⟨p2,rfl,⟨_,SqL.of h2⟩,fun D hD=>?_⟩
 rw [cutV_int] at h2
 obtain ⟨ys,hys⟩:∃ ys,ys=cutI xs (some 1) (some (1+g^M)):=⟨_,rfl⟩
 have yl:(ys.length:Int)=g^M:=by rw [hys];exact cut62 (by lia) (by lia)
 rw [←hys] at h2
 refine comp_list (xs:=ys.map V.int) (fun i acc Hx=>acc=((ys.take i).map (·%g)).map V.int∧Same H2 Hx∧Hx D=some (.lst acc)) ⟨rfl,Same.new hD _,upd_same⟩ (fun i acc Hx _ z=>SqL.of (z.2.1 _ _ h2)) ?_ ?_
 ·rintro i x acc Hx hx' ⟨rfl,ex,hDx⟩
  obtain ⟨v,hv,rfl⟩:=getInt hx'
  have hi:=(List.getElem?_eq_some_iff.mp hv).1
  walk_at "rd"
  refine ⟨by lia,hDx,?_,?_,ex.into hD,upd_same⟩
  ·rw [List.length_map,List.length_map,List.length_take]
   exact small1000 (by lia)
  ·rw [List.take_succ,hv]
   simp
 rintro acc H3 ⟨rfl,e3,h3⟩
 rw [List.length_map,List.take_length] at h3
 exact q D H3 (ys.map (·%g)) M ⟨(e1.trans e2).trans e3,(e1.trans e2).free hD,h3⟩ (by rw [List.length_map];exact yl) hM (mods_lt g2 _)
theorem sc_25:FnScope ["_law_one","_law_signs","_law_table_here","_law_heads"] ["_law_one"] (defScope s_25):=⟨rfl,rfl,rfl,by decide +kernel,rfl,by decide +kernel,by decide +kernel⟩
theorem ok_25 (T:Txt K mg t) :Has P w K mg base 1 t.f_25 ["_law_one"] (spFrame65):=by
 refine has_mk0 T.d_25 sc_25 (fun _ _ _ _ _ _ us hl=>match us,hl with | [_],_=>rfl) (fun vs H Q E h=>?_) (fun cdv A outer s H vs Q E hr h=>?_)
 ·obtain ⟨r,g,lo,tab,m,rfl,ok,q⟩:=h
  rfl
 obtain ⟨r,g,lo,tab,m,rfl,ok,q⟩:=h
 refine ⟨_,(pss_cons (ps_set (i:=1) sc_25.nd rfl (Or.inr rfl) (pe_ix ix_tup (pv 0) pe_int (fun _ _=>rfl)))
  (pss_cons (ps_set (i:=2) sc_25.nd rfl (Or.inr rfl) (pe_callTy call_list_of rfl T.z_list PyProof.Rows.boot_list (pa_cons (pe_ix ix_tup (pv 0) pe_int (fun _ _=>rfl)) pa_nil)))
  (pss_cons (ps_while PassesOwn.never (PW.pt (pw_and (pt_cmpR op_gt (pe_callB call_len_seq rfl T.z_len PySem.boot_len (pa_cons (pv 2) pa_nil)) (pv 1) (nomark _)) (pw_and1 (pt_cmpR (op_eqL hr.units) (pv 2) (pe_op op_rep (pe_slice sl_list (pv 2) po_none (po_some (pe_op op_fdiv (pe_callB call_len_seq rfl T.z_len PySem.boot_len (pa_cons (pv 2) pa_nil)) (pv 1)))) (pv 1)) (nomark _))))) (pss_one (ps_set (i:=2) sc_25.nd rfl (Or.inr rfl) (pe_slice sl_list (pv 2) po_none (po_some (pe_op op_fdiv (pe_callB call_len_seq rfl T.z_len PySem.boot_len (pa_cons (pv 2) pa_nil)) (pv 1)))))))
  (pss_cons (ps_comp (iy:=3) (fv:=[(2,"_law_table_here"),(1,"_law_signs")]) (cl:=[("_law_table_here",_),("_law_signs",_)]) rfl sc_25.nd rfl (Or.inl rfl) (pi_range1 rfl T.z_range (pa_cons (pe_callB call_len_seq rfl T.z_len PySem.boot_len (pa_cons (pv 2) pa_nil)) pa_nil)) (by with_unfolding_all rfl) (by with_unfolding_all rfl) (by decide +kernel) rfl (by decide +kernel) rfl ⟨(by with_unfolding_all rfl),⟨(by with_unfolding_all rfl),trivial⟩⟩ (by with_unfolding_all rfl) ⟨⟨rfl,rfl,(by with_unfolding_all rfl),rfl⟩,⟨⟨rfl,rfl,(by with_unfolding_all rfl),rfl⟩,trivial⟩⟩ (by decide) (fun _ _ _ _=>pf_nil) (fun _ _ _ _=>(pe_ix (ix_listK (K:=K) rfl) (pv 1) (pe_op op_sub (pv 0) (pe_op op_mod (pv 0) (pv 2))) (fun _ _=>rfl))))
  (pss_cons (ps_while PassesOwn.never (PW.pt (pw_and (pt_cmpR op_gt (pe_callB call_len_seq rfl T.z_len PySem.boot_len (pa_cons (pv 2) pa_nil)) (pv 1) (nomark _)) (pw_and1 (pt_cmpR (op_eqL hr.units) (pv 2) (pv 3) (nomark _))))) (pss_cons (ps_set (i:=2) sc_25.nd rfl (Or.inr rfl) (pe_comp (fv:=[(2,"_law_table_here")]) (cl:=[("_law_table_here",_)]) rfl (pi_range3 rfl T.z_range (pa_consC (pa_cons (pe_callB call_len_seq rfl T.z_len PySem.boot_len (pa_cons (pv 2) pa_nil)) (pa_cons (pv 1) pa_nil)))) (by with_unfolding_all rfl) (by decide +kernel) rfl (by decide +kernel) rfl ⟨(by with_unfolding_all rfl),trivial⟩ (by with_unfolding_all rfl) ⟨⟨rfl,rfl,(by with_unfolding_all rfl),rfl⟩,trivial⟩ (by decide) (fun _ _ _ _=>pf_nil) (fun _ _ _ _=>(pe_ix (ix_listK (K:=K) rfl) (pv 1) (pv 0) (fun _ _=>rfl)))) (hs:=by with_unfolding_all rfl))
  (pss_one (ps_comp (iy:=3) (fv:=[(2,"_law_table_here"),(1,"_law_signs")]) (cl:=[("_law_table_here",_),("_law_signs",_)]) rfl sc_25.nd rfl (Or.inl rfl) (pi_range1 rfl T.z_range (pa_cons (pe_callB call_len_seq rfl T.z_len PySem.boot_len (pa_cons (pv 2) pa_nil)) pa_nil)) (by with_unfolding_all rfl) (by with_unfolding_all rfl) (by decide +kernel) rfl (by decide +kernel) rfl ⟨(by with_unfolding_all rfl),⟨(by with_unfolding_all rfl),trivial⟩⟩ (by with_unfolding_all rfl) ⟨⟨rfl,rfl,(by with_unfolding_all rfl),rfl⟩,⟨⟨rfl,rfl,(by with_unfolding_all rfl),rfl⟩,trivial⟩⟩ (by decide) (fun _ _ _ _=>pf_nil) (fun _ _ _ _=>(pe_ix (ix_listK (K:=K) rfl) (pv 1) (pe_op op_sub (pv 0) (pe_op op_mod (pv 0) (pv 2))) (fun _ _=>rfl)))))))
  (pss_cons (ps_if (pt_cmpR op_eq (pe_callB call_len_seq rfl T.z_len PySem.boot_len (pa_cons (pv 2) pa_nil)) (pv 1) (nomark _)) (pss_one (ps_set (i:=2) sc_25.nd rfl (Or.inr rfl) (pe_comp (fv:=[(2,"_law_table_here"),(1,"_law_signs")]) (cl:=[("_law_table_here",_),("_law_signs",_)]) rfl (pi_range1 rfl T.z_range (pa_cons (pe_op op_mul (pv 1) (pv 1)) pa_nil)) (by with_unfolding_all rfl) (by decide +kernel) rfl (by decide +kernel) rfl ⟨(by with_unfolding_all rfl),⟨(by with_unfolding_all rfl),trivial⟩⟩ (by with_unfolding_all rfl) ⟨⟨rfl,rfl,(by with_unfolding_all rfl),rfl⟩,⟨⟨rfl,rfl,(by with_unfolding_all rfl),rfl⟩,trivial⟩⟩ (by decide) (fun _ _ _ _=>pf_nil) (fun _ _ _ _=>(pe_ix (ix_listK (K:=K) rfl) (pv 1) (pe_op op_fdiv (pv 0) (pv 2)) (fun _ _=>rfl)))) (hs:=by with_unfolding_all rfl))) pss_nil)
  (pss_one (ps_ret (pv 2))))))))),?_⟩
 obtain ⟨tb,r1,r2⟩:=id ok.v
 have g2:=ok.g2
 have g9:=ok.g9
 have hl:=ok.len
 have m1:=ok.m1
 have m8:=ok.m8
 have sz:=ok.sz
 have tbb:=ok.tb
 refine hide fun N hN=>?_
 walk_at "rd"
 refine ⟨r,_,0,_,rfl,rfl,SqT.of r1,rfl,hN _ _ ?_⟩
 clear hN N
 refine hide fun N hN=>?_
 walk_at "rd"
 refine ⟨r,_,2,_,rfl,rfl,SqT.of r1,rfl,tb,rfl,_,.inr (SqT.of r2),fun p0 hp0=>hN _ _ ?_⟩
 clear hN N
 have e0:=Same.new hp0 (.lst (tab.map V.int))
 refine forget (fun HX=>Same H HX∧HX p0=some (.lst (tab.map V.int))) ⟨e0,upd_same⟩ ?_
 clear e0 hp0
 rintro H0 ⟨e0,h0⟩
 have gn:((g.toNat:Nat):Int)=g:=by lia
 have c0:CutW g lo tab m lo tab m:=⟨m1,Nat.le_refl _,hl,tbb,fun _ _=>rfl⟩
 refine cut (fun σ HX=>∃ (p:Addr) (lo':Int) (tab':List Int) (m':Nat),σ=[some (.ref r),some (.int g),some (.ref p),none]∧Same H HX∧HX p=some (.lst (tab'.map V.int))∧CutW g lo tab m lo' tab' m'∧(2≤m'→cntB g tab' (g^(m' - 1))=true)) (fun N hN=>?_) ?_
 ·refine while_by (fun σ HX=>∃ (p:Addr) (lo':Int) (tab':List Int) (m':Nat),σ=[some (.ref r),some (.int g),some (.ref p),none]∧Same H HX∧HX p=some (.lst (tab'.map V.int))∧CutW g lo tab m lo' tab' m')
   (fun (σ:St) (HX:Hp)=>match σ[2]? with | some (some (V.ref d))=>(match HX d with | some (.lst xs)=>xs.length | _=>0) | _=>0) ⟨p0,lo,tab,m,rfl,e0,h0,c0⟩ ?_ ?_
  ·rintro σ HX ⟨p,lo',tab',m',rfl,eX,hpX,c⟩
   have hh:=c.half g2
   have cl:=c.len
   have g1:g^1=g:=by rw [Int.pow_succ,Int.pow_zero,Int.one_mul]
   have hlm:(tab'.map V.int).length=tab'.length:=List.length_map ..
   have hsz:tab'.length≤256:=by have:=pow_mono g2 c.le;lia
   have e:(((tab'.map V.int).length:Nat):Int) / g=((tab'.length / g.toNat:Nat):Int):=by rw [hlm,Int.natCast_ediv,gn]
   walk_at "rd"
   refine ⟨_,.inl (SqL.of hpX),?_⟩
   by_cases z:g<(((tab'.map V.int).length:Nat):Int)
   ·rw [if_pos z]
    have m2:2≤m':=by
     have m1:=c.m1
     by_cases y:m'=1
     ·subst y;lia
     ·lia
    refine ⟨_,.inl (SqL.of hpX),by lia,by lia,?_⟩
    rw [e]
    refine sl_new (SqL.of hpX) fun p2 H2 e2 _ h2'=>?_
    rw [cutV_to,←List.map_take] at h2'
    refine rep_new5 h2' (by lia) (by lia) ?_ fun p3 H3 e3 _ h3=>?_
    ·rw [List.length_map,List.length_take]
     have:=hh.2
     have:tab'.length / g.toNat≤tab'.length:=Nat.div_le_self ..
     have:min (tab'.length / g.toNat) tab'.length*g.toNat≤tab'.length:=by rw [Nat.min_eq_left this];lia
     lia
    rw [←List.map_replicate,←List.map_flatten] at h3
    have e23:=e2.trans e3
    refine ⟨p3,rfl,tab',SqL.of (e23 _ _ hpX),_,SqL.of h3,?_⟩
    by_cases y:tab'=(List.replicate g.toNat (tab'.take (tab'.length / g.toNat))).flatten
    ·rw [if_pos y]
     refine ⟨_,.inl (SqL.of (e23 _ _ hpX)),by lia,by lia,?_⟩
     rw [e]
     refine sl_new (SqL.of (e23 _ _ hpX)) fun p4 H4 e4 _ h4=>?_
     rw [cutV_to,←List.map_take] at h4
     have c2:=c.first g2 m2 y
     refine ⟨⟨p4,rfl,(eX.trans e23).trans e4,lo'+1,_,h4,_,c2⟩,?_⟩
     dsimp only
     rw [h4,hpX]
     show ((tab'.take _).map V.int).length<(tab'.map V.int).length
     rw [List.length_map,List.length_take,hlm]
     have:tab'.length / g.toNat<tab'.length:=Nat.div_lt_self (by lia) (by lia)
     lia
    ·rw [if_neg y]
     exact hN _ _ ⟨p,lo',tab',m',rfl,eX.trans e23,e23 _ _ hpX,c,fun _=>c.first_counts g2 y⟩
   ·rw [if_neg z]
    refine hN _ _ ⟨p,lo',tab',m',rfl,eX,hpX,c,fun m2=>?_⟩
    have:=pow_lt g2 (show 1<m' by lia)
    lia
  ·intro σ H1 Q1 Q2 hq
   walk_at "rd"
   rintro ⟨v,h1,p,e1,x,h2,v2,h3,x1,e3,hh⟩
   refine ⟨v,h1,p,e1,x,h2,v2,h3,x1,e3,?_⟩
   by_cases z:x1<(x.length:Int)
   ·rw [if_pos z] at hh ⊢
    obtain ⟨a1,b1,a2,b2,a3,b3,p4,b4,x4,b5,a6,b6,x7,b7,y1,y2,s1,s2,s3,s4,hh⟩:=hh
    refine ⟨a1,b1,a2,b2,a3,b3,p4,b4,x4,b5,a6,b6,x7,b7,y1,y2,s1,s2,s3,s4,fun q hq2=>?_⟩
    obtain ⟨a8,b8,l,k,xs,c1,c2,c3,c4,c5,c6,hh⟩:=hh q hq2
    refine ⟨a8,b8,l,k,xs,c1,c2,c3,c4,c5,c6,fun q2 hq3=>?_⟩
    obtain ⟨d1,d2,d3,d4,d5,d6,d7,d8,hh⟩:=hh q2 hq3
    exact ⟨d1,d2,d3,d4,d5,d6,d7,d8,hq _ _ hh⟩
   ·rw [if_neg z] at hh ⊢
    exact hq _ _ hh
 clear c0
 rintro σ HX ⟨p,lo',tab',m',rfl,eX,hpX,c,k0⟩
 have hsz:tab'.length≤256:=by have:=pow_mono g2 c.le;have:=c.len;lia
 refine hide fun N hN=>?_
 refine ⟨_,rfl,p,_,rfl,.inl (SqL.of hpX),_,rfl,by rw [List.length_map];lia,by rw [List.length_map];lia,fun D hD=>?_⟩
 rw [List.length_map]
 refine comp_range (n:=tab'.length) (fun i acc Hx=>acc=((List.range i).map fun k=>tab'.getD (k - k%g.toNat) 0).map V.int∧Same HX Hx∧Hx D=some (.lst acc)) ⟨rfl,Same.new hD _,upd_same⟩ ?_ ?_
 ·rintro i acc Hx hi ⟨rfl,ex,hDx⟩
  have ei:(0+(i:Int)) - (0+(i:Int))%g=((i - i%g.toNat:Nat):Int):=by
   have:=Nat.mod_le i g.toNat
   rw [Int.zero_add,Int.natCast_sub this,Int.natCast_emod,gn]
  walk_at "rd"
  rw [ei]
  refine ⟨by lia,p,_,_,_,rfl,rfl,SqL.of (ex _ _ hpX),getAt (by lia),hDx,?_,?_,ex.into hD,upd_same⟩
  ·rw [List.length_map,List.length_map,List.length_range]
   exact small1000 (by lia)
  ·rw [range_succ_map,List.map_append]
   rfl
 rintro acc H5 ⟨rfl,e5,h5⟩
 refine hN _ _ ?_
 clear hN N hsz
 refine cut (fun σ HX=>∃ (p:Addr) (x4:Option V) (lo':Int) (tab':List Int) (m':Nat),σ=[some (.ref r),some (.int g),some (.ref p),x4]∧Same H HX∧HX p=some (.lst (tab'.map V.int))∧CutW g lo tab m lo' tab' m'∧(2≤m'→cntB g tab' (g^(m' - 1))=true∧cntB g tab' 1=true)) (fun N hN=>?_) ?_
 ·refine while_by (fun σ HX=>∃ (p q:Addr) (lo':Int) (tab':List Int) (m':Nat),σ=[some (.ref r),some (.int g),some (.ref p),some (.ref q)]∧Same H HX∧HX p=some (.lst (tab'.map V.int))∧HX q=some (.lst (((List.range tab'.length).map fun k=>tab'.getD (k - k%g.toNat) 0).map V.int))∧CutW g lo tab m lo' tab' m'∧(2≤m'→cntB g tab' (g^(m' - 1))=true))
   (fun (σ:St) (HX:Hp)=>match σ[2]? with | some (some (V.ref d))=>(match HX d with | some (.lst xs)=>xs.length | _=>0) | _=>0) ⟨p,_,lo',tab',m',rfl,eX.trans e5,e5 _ _ hpX,h5,c,k0⟩ ?_ ?_
  ·clear k0 c h5 e5 hpX eX
   rintro σ HX ⟨p,q',lo',tab',m',rfl,eX,hpX,hqX,c,k0⟩
   have hh:=c.half g2
   have cl:=c.len
   have g1:g^1=g:=by rw [Int.pow_succ,Int.pow_zero,Int.one_mul]
   have hlm:(tab'.map V.int).length=tab'.length:=List.length_map ..
   have hsz:tab'.length≤256:=by have:=pow_mono g2 c.le;lia
   walk_at "rd"
   refine ⟨_,.inl (SqL.of hpX),?_⟩
   by_cases z:g<(((tab'.map V.int).length:Nat):Int)
   ·rw [if_pos z]
    have m2:2≤m':=by
     have m1:=c.m1
     by_cases y:m'=1
     ·subst y;lia
     ·lia
    refine ⟨tab',SqL.of hpX,_,SqL.of hqX,?_⟩
    by_cases y:tab'=(List.range tab'.length).map fun k=>tab'.getD (k - k%g.toNat) 0
    ·rw [if_pos y]
     have c2:=c.last g2 m2 y
     have s2:2≤m' - 1→_:=fun m3=>c.stays g2 (by lia) y (k0 m2)
     have hpos:1≤tab'.length / g.toNat:=by
      have:=RW.pow_pos g2 (m' - 1)
      lia
     refine ⟨_,rfl,p,rfl,_,.inl (SqL.of hpX),_,rfl,0,_,g,rfl,⟨by decide,by decide,by lia,by lia,by lia,by lia⟩,fun D hD=>?_⟩
     rw [hlm,rsz_cut g2 hh.2 hpos]
     have hle:tab'.length / g.toNat≤tab'.length:=Nat.div_le_self ..
     refine comp_rangeS (lo:=0) (c:=g) (n:=tab'.length / g.toNat) (fun i acc Hx=>acc=((List.range i).map fun k=>tab'.getD (k*g.toNat) 0).map V.int∧Same HX Hx∧Hx D=some (.lst acc)) ⟨rfl,Same.new hD _,upd_same⟩ ?_ ?_
     ·rintro i acc Hx hi ⟨rfl,ex,hDx⟩
      have ei:0+(i:Int)*g=((i*g.toNat:Nat):Int):=by rw [Int.zero_add,Int.natCast_mul,gn]
      have il:i*g.toNat<tab'.length:=by
       have:=Nat.mul_lt_mul_of_pos_right hi (show 0<g.toNat by lia)
       lia
      walk_at "rd"
      rw [ei]
      refine ⟨p,_,_,_,rfl,rfl,SqL.of (ex _ _ hpX),getAt il,hDx,?_,?_,ex.into hD,upd_same⟩
      ·rw [List.length_map,List.length_map,List.length_range]
       exact small1000 (by lia)
      ·rw [range_succ_map,List.map_append]
       rfl
     rintro acc H6 ⟨rfl,e6,h6⟩
     have ll:((List.range (tab'.length / g.toNat)).map fun k=>tab'.getD (k*g.toNat) 0).length<tab'.length:=by
      rw [List.length_map,List.length_range]
      exact Nat.div_lt_self (by lia) (by lia)
     obtain ⟨T2,hT2⟩:∃ T2,T2=(List.range (tab'.length / g.toNat)).map fun k=>tab'.getD (k*g.toNat) 0:=⟨_,rfl⟩
     rw [←hT2] at h6 c2 s2 ll
     refine ⟨_,rfl,D,rfl,_,.inl (SqL.of h6),_,rfl,by rw [List.length_map];lia,by rw [List.length_map];lia,fun D2 hD2=>?_⟩
     rw [List.length_map]
     refine comp_range (n:=T2.length) (fun i acc Hx=>acc=((List.range i).map fun k=>T2.getD (k - k%g.toNat) 0).map V.int∧Same H6 Hx∧Hx D2=some (.lst acc)) ⟨rfl,Same.new hD2 _,upd_same⟩ ?_ ?_
     ·rintro i acc Hx hi ⟨rfl,ex,hDx⟩
      have ei:(0+(i:Int)) - (0+(i:Int))%g=((i - i%g.toNat:Nat):Int):=by
       have:=Nat.mod_le i g.toNat
       rw [Int.zero_add,Int.natCast_sub this,Int.natCast_emod,gn]
      walk_at "rd"
      rw [ei]
      refine ⟨by lia,D,_,_,_,rfl,rfl,SqL.of (ex _ _ h6),getAt (by lia),hDx,?_,?_,ex.into hD2,upd_same⟩
      ·rw [List.length_map,List.length_map,List.length_range]
       exact small1000 (by lia)
      ·rw [range_succ_map,List.map_append]
       rfl
     rintro acc H7 ⟨rfl,e7,h7⟩
     refine ⟨⟨D,rfl,D2,rfl,(eX.trans e6).trans e7,lo',T2,e7 _ _ h6,h7,_,c2,s2⟩,?_⟩
     dsimp only
     rw [e7 _ _ h6,hpX]
     show (T2.map V.int).length<(tab'.map V.int).length
     rw [List.length_map,hlm]
     exact ll
    ·rw [if_neg y]
     exact hN _ _ ⟨p,_,lo',tab',m',rfl,eX,hpX,c,fun _=>⟨k0 m2,c.last_counts g2 y⟩⟩
   ·rw [if_neg z]
    refine hN _ _ ⟨p,_,lo',tab',m',rfl,eX,hpX,c,fun m2=>?_⟩
    have:=pow_lt g2 (show 1<m' by lia)
    lia
  ·intro σ H1 Q1 Q2 hq
   walk_at "rd"
   rintro ⟨v,h1,p,e1,x,h2,v2,h3,x1,e3,hh⟩
   refine ⟨v,h1,p,e1,x,h2,v2,h3,x1,e3,?_⟩
   by_cases z:x1<(x.length:Int)
   ·rw [if_pos z] at hh ⊢
    obtain ⟨a1,b1,a2,b2,a3,b3,a4,b4,a5,b5,a6,b6,hh⟩:=hh
    exact ⟨a1,b1,a2,b2,a3,b3,a4,b4,a5,b5,a6,b6,hq _ _ hh⟩
   ·rw [if_neg z] at hh ⊢
    exact hq _ _ hh
 clear k0 c h5 e5 hpX eX
 rintro σ HX ⟨p,x4,lo',tab',m',rfl,eX,hpX,c,k0⟩
 refine cut (fun σ HX=>∃ (p:Addr) (x4:Option V) (lf:Int) (tf:List Int) (mf:Nat),σ=[some (.ref r),some (.int g),some (.ref p),x4]∧Same H HX∧HX p=some (.lst (tf.map V.int))∧FrameW g lo tab m lf tf mf∧(tf.length:Int)=g^mf∧mf≤8) (fun N hN=>?_) ?_
 ·have cl:=c.len
  have g1:g^1=g:=by rw [Int.pow_succ,Int.pow_zero,Int.one_mul]
  have hlm:(tab'.map V.int).length=tab'.length:=List.length_map ..
  walk_at "rd"
  refine ⟨_,.inl (SqL.of hpX),?_⟩
  rw [hlm]
  by_cases z:(tab'.length:Int)=g
  ·rw [if_pos z]
   have mf1:m'=1:=pow_inj g2 (by rw [g1,←cl];exact z)
   have ggn:g*g=((g.toNat*g.toNat:Nat):Int):=by rw [Int.natCast_mul,gn]
   have gg0:0≤g*g:=Int.mul_nonneg (by lia) (by lia)
   have gg1:g*g≤9*9:=Int.mul_le_mul g9 g9 (by lia) (by lia)
   refine ⟨_,rfl,_,rfl,_,_,rfl,rfl,.inr ⟨by lia,by lia⟩,_,rfl,by lia,by lia,fun D hD=>?_⟩
   rw [show (g*g).toNat=g.toNat*g.toNat by rw [ggn,Int.toNat_natCast]]
   refine comp_range (n:=g.toNat*g.toNat) (fun i acc Hx=>acc=((List.range i).map fun k=>tab'.getD (k / g.toNat) 0).map V.int∧Same HX Hx∧Hx D=some (.lst acc)) ⟨rfl,Same.new hD _,upd_same⟩ ?_ ?_
   ·rintro i acc Hx hi ⟨rfl,ex,hDx⟩
    have ei:(0+(i:Int)) / g=((i / g.toNat:Nat):Int):=by rw [Int.zero_add,Int.natCast_ediv,gn]
    have il:i / g.toNat<tab'.length:=by
     have:=Nat.div_lt_of_lt_mul hi
     lia
    walk_at "rd"
    rw [ei]
    refine ⟨by lia,by lia,p,_,_,_,rfl,rfl,SqL.of (ex _ _ hpX),getAt il,hDx,?_,?_,ex.into hD,upd_same⟩
    ·rw [List.length_map,List.length_map,List.length_range]
     exact small1000 (by lia)
    ·rw [range_succ_map,List.map_append]
     rfl
   rintro acc H7 ⟨rfl,e7,h7⟩
   obtain ⟨x,hx0,hx1⟩:∃ x:Int,(tab'=List.replicate g.toNat (tab'.getD 0 0)→x=0)∧(¬ tab'=List.replicate g.toNat (tab'.getD 0 0)→x=lo'):=by
    by_cases y:tab'=List.replicate g.toNat (tab'.getD 0 0)
    ·exact ⟨0,fun _=>rfl,fun ne=>absurd y ne⟩
    ·exact ⟨lo',fun e=>absurd e y,fun _=>rfl⟩
   exact hN _ _ ⟨D,x4,x,_,2,rfl,eX.trans e7,h7,c.frame1 g2 hl mf1 x hx0 hx1,by rw [List.length_map,List.length_range,←ggn,show (2:Nat)=1+1 from rfl,Int.pow_succ,g1],by decide⟩
  ·rw [if_neg z]
   have m2:2≤m':=by
    have m1:=c.m1
    by_cases y:m'=1
    ·subst y;lia
    ·lia
   exact hN _ _ ⟨p,x4,lo',tab',m',rfl,eX,hpX,c.frame g2 hl m2 (k0 m2).1 (k0 m2).2,cl,Nat.le_trans c.le m8⟩
 rintro σ H8 ⟨p',x4',lf,tf,mf,rfl,e8,h8,fw,tl,mf8⟩
 walk_at "rd"
 exact q p' lf tf mf _ e8 fw h8 tl mf8
theorem sc_41:FnScope ["_law_table_here","_law_signs","_law_many","_law_at","_law_word_here","_law_by","_law_k"] ["_law_table_here","_law_signs","_law_many","_law_at"] (defScope s_41):=⟨rfl,rfl,rfl,by decide +kernel,rfl,by decide +kernel,by decide +kernel⟩
theorem ok_41 (T:Txt K mg t) (G_27:Has P w K mg base 1 t.f_27 ["_law_signs","_law_many"] (spPower)):Has P w K mg base 2 t.f_41 ["_law_table_here","_law_signs","_law_many","_law_at"] (spWord73):=by
 refine has_mk0 T.d_41 sc_41 (fun _ _ _ _ _ _ us hl=>match us,hl with | [_,_,_,_],_=>rfl) (fun vs H Q E h=>?_) (fun cdv A outer s H vs Q E hr h=>?_)
 ·obtain ⟨a,g,tab,m,mw,n,rfl,g2,g9,ha,tl,m1,m8,tbb,w1,w40,gw9,nL,q⟩:=h
  rfl
 obtain ⟨a,g,tab,m,mw,n,rfl,g2,g9,ha,tl,m1,m8,tbb,w1,w40,gw9,nL,q⟩:=h
 refine ⟨_,(pss_cons (ps_set (i:=4) sc_41.nd rfl (Or.inl rfl) pe_int)
  (pss_cons (ps_set (i:=5) sc_41.nd rfl (Or.inl rfl) (pe_callH G_27 (hr.mono (by decide)) rfl T.m_27 passF (pa_cons (pv 1) (pa_cons (pe_op op_sub (pv 2) pe_int) pa_nil))))
  (pss_cons (ps_for PassesOwn.never rfl (pi_range1 rfl T.z_range (pa_cons (pv 2) pa_nil)) (pg_name (i:=6) sc_41.nd rfl (Or.inl rfl)) (pss_cons (ps_set (i:=4) sc_41.nd rfl (Or.inl rfl) (pe_op op_add (pe_op op_mul (pv 4) (pv 1)) (pe_ix ix_list (pv 0) (pe_op op_mod (pe_op op_fdiv (pv 3) (pv 5)) (pe_callB call_len_seq rfl T.z_len PySem.boot_len (pa_cons (pv 0) pa_nil))) (fun _ _=>rfl))))
  (pss_one (ps_set (i:=5) sc_41.nd rfl (Or.inl rfl) (pe_op op_fdiv (pv 5) (pv 1))))))
  (pss_one (ps_ret (pv 4)))))),?_⟩
 have gp:=RW.pow_pos g2 (m - 1)
 have gw:=RW.pow_pos g2 mw
 have gm:=RW.pow_pos g2 m
 have gw1:=RW.pow_pos g2 (mw - 1)
 obtain ⟨W,hW⟩:∃ W,W=wordL g (n:Int) (m+mw - 1):=⟨_,rfl⟩
 have Wl:W.length=m+mw - 1:=by rw [hW,wordL_len]
 have Wb:∀ x∈W,0≤x∧x<g:=by rw [hW];exact wordL_lt g2 _ _
 have Wn:num g W=(n:Int):=by rw [hW];exact num_wordL g2 (by lia) nL
 obtain ⟨R,hR⟩:∃ R,R=ledL g tab m W:=⟨_,rfl⟩
 have Rl:R.length=mw:=by rw [hR,ledL_len,Wl];lia
 have Rb:∀ x∈R,0≤x∧x<g:=by rw [hR];exact ledL_lt g2 tbb m W
 rw [←hW,←hR] at q
 have hta:(tab.map V.int).length=tab.length:=List.length_map ..
 refine hide fun N hN=>?_
 walk_at "rd"
 refine hN _ _ ?_
 clear hN N
 refine hide fun N hN=>?_
 walk_at "rd"
 refine ⟨g,_,rfl,g2,g9,by lia,by lia,hN _ _ ?_⟩
 clear hN N
 rw [show ((mw:Int) - 1).toNat=mw - 1 by lia]
 refine cut (fun σ HX=>(∃ x6 x7,σ=[some (.ref a),some (.int g),some (.int ((mw:Nat):Int)),some (.int ((n:Nat):Int)),some (.int (num g R)),x6,x7])∧HX=H) (fun N hN=>?_) ?_
 ·refine ⟨_,rfl,_,rfl,by lia,by lia,?_⟩
  rw [Int.toNat_natCast]
  refine for_range (n:=mw) (fun i σ HX=>(∃ x7,σ=[some (.ref a),some (.int g),some (.int ((mw:Nat):Int)),some (.int ((n:Nat):Int)),some (.int (num g (R.take i))),some (.int (g^(mw - 1) / g^i)),x7])∧HX=H) ⟨⟨none,by rw [Int.pow_zero,Int.ediv_one,List.take_zero];rfl⟩,rfl⟩ ?_ ?_
  ·rintro i σ HX hi ⟨⟨x7,rfl⟩,rfl⟩
   have by1:g^(mw - 1) / g^i=g^(mw - 1 - i):=by
    rw [show mw - 1=mw - 1 - i+i by lia,Int.pow_add,Int.mul_ediv_cancel _ (by have:=RW.pow_pos g2 i;lia),Nat.add_sub_cancel]
   have by0:=RW.pow_pos g2 (mw - 1 - i)
   have by2:=pow_mono g2 (show mw - 1 - i≤mw by lia)
   have cut1:(n:Int) / g^(mw - 1 - i)=num g (W.take (i+m)):=by
    have db:∀ x∈W.drop (i+m),0≤x∧x<g:=fun x hx=>Wb x (List.mem_of_mem_drop hx)
    have d:=num_lt g2 db
    have dl:(W.drop (i+m)).length=mw - 1 - i:=by rw [List.length_drop];lia
    rw [dl] at d
    have e:num g W=num g (W.take (i+m))*g^(mw - 1 - i)+num g (W.drop (i+m)):=by rw [←dl,←num_append,List.take_append_drop]
    rw [←Wn,e,Int.add_comm,Int.add_mul_ediv_right _ _ (by lia),Int.ediv_eq_zero_of_lt d.1 d.2,Int.zero_add]
   have cut2:=num_win g2 Wb (k:=i) (m:=m) (by lia)
   have wi:=win_in g2 Wb tl (k:=i) (by lia)
   have ri:R[i]?=some (tab.getD (num g ((W.drop i).take m)).toNat 0):=by
    rw [hR]
    unfold ledL
    rw [List.getElem?_map,List.getElem?_range (by lia)]
    rfl
   walk_at "rd"
   rw [by1]
   refine ⟨.inr ⟨by lia,by lia⟩,by0,by lia,_,.inl (SqL.of ha),?_⟩
   rw [hta,tl,cut1,cut2]
   refine ⟨gm,a,_,_,_,rfl,rfl,SqL.of ha,getAtZ wi.1 wi.2,_,rfl,by lia,by lia,?_,?_,⟨_,rfl⟩,rfl⟩
   ·rw [num_take ri]
   ·rw [←by1,Int.ediv_ediv_of_nonneg (Int.le_of_lt (RW.pow_pos g2 i)),←Int.pow_succ]
  ·rintro σ HX ⟨⟨x7,rfl⟩,rfl⟩
   rw [List.take_of_length_le (by lia)]
   exact hN _ _ ⟨⟨_,_,rfl⟩,rfl⟩
 rintro σ HX ⟨⟨x6,x7,rfl⟩,rfl⟩
 walk_at "rd"
 exact q
theorem sc_13:FnScope ["_law_script","_law_size","_law_far","_law_xs","_law_k"] ["_law_script","_law_size"] (defScope s_13):=⟨rfl,rfl,rfl,by decide +kernel,rfl,by decide +kernel,by decide +kernel⟩
theorem ok_13 (T:Txt K mg t) (G_11:Has P w K mg base 1 t.f_11 ["_law_script","_law_k"] (spCell K)) (G_20:Has P w K mg base 1 t.f_20 ["_law_cell","_law_many"] (spStream)):Has P w K mg base 2 t.f_13 ["_law_script","_law_size"] (spNumbers73 K):=by
 refine has_mk0 T.d_13 sc_13 (fun _ _ _ _ _ _ us hl=>match us,hl with | [_,_],_=>rfl) (fun vs H Q E h=>?_) (fun cdv A outer s H vs Q E hr h=>?_)
 ·obtain ⟨a,ns,n,rfl,hS,h63,n1,n2,q⟩:=h
  rfl
 obtain ⟨a,ns,n,rfl,hS,h63,n1,n2,q⟩:=h
 refine ⟨_,(pss_cons (ps_set (i:=2) sc_13.nd rfl (Or.inr rfl) (pe_ix ix_list (pe_lst (pa_consC (pa_cons (pe_op op_mul pe_int (pe_op op_pow pe_int pe_int)) pa_nil))) (pe_op op_mod (pe_callH G_11 (hr.mono (by decide)) rfl T.m_11 passF (pa_cons (pv 0) (pa_consC pa_nil))) pe_int) (fun _ _=>rfl)))
  (pss_cons (ps_comp (iy:=3) (fv:=[(2,"_law_far")]) (cl:=[("_law_far",_)]) rfl sc_13.nd rfl (Or.inl rfl) (pi_list (pe_callH G_20 (hr.mono (by decide)) rfl T.m_20 passF (pa_cons (pe_callH G_11 (hr.mono (by decide)) rfl T.m_11 passF (pa_cons (pv 0) (pa_consC pa_nil))) (pa_cons (pe_op op_add (pv 1) pe_int) pa_nil)))) (by with_unfolding_all rfl) (by with_unfolding_all rfl) (by decide +kernel) rfl (by decide +kernel) rfl ⟨(by with_unfolding_all rfl),trivial⟩ (by with_unfolding_all rfl) ⟨⟨rfl,rfl,(by with_unfolding_all rfl),rfl⟩,trivial⟩ (by decide) (fun _ _ _ _=>pf_nil) (fun _ _ _ _=>(pe_op op_sub (pe_op op_mod (pv 0) (pv 1)) (pe_op op_fdiv (pv 1) pe_int))))
  (pss_cons (ps_for PassesOwn.never rfl (pi_range1 rfl T.z_range (pa_cons (pe_callB (call_min2 rfl) rfl T.z_min PyProof.Rows.boot_min (pa_cons (pv 1) (pa_cons (pe_op op_sub (pe_callB call_len_seq rfl T.z_len PySem.boot_len (pa_cons (pv 0) pa_nil)) pe_int) pa_nil))) pa_nil)) (pg_name (i:=4) sc_13.nd rfl (Or.inl rfl)) (pss_one (ps_asg (pe_op op_sub (pe_op op_mod (pe_ix ix_list (pv 0) (pe_op op_add pe_int (pv 4)) (fun _ _=>rfl)) (pv 2)) (pe_op op_fdiv (pv 2) pe_int)) (pg_sub (pv 3) (pv 4) set_list))))
  (pss_one (ps_ret (pv 3)))))),?_⟩
 refine hide fun N hN=>?_
 walk_at "rd"
 refine ⟨by decide,by decide,by decide,.inl ⟨by decide,by decide⟩,by decide,fun p hp=>?_⟩
 have e1:=Same.new hp (.lst [V.int 2003,V.int (2*10^Int.toNat 40)])
 have y0:=Int.emod_nonneg (ns.getD 2 0) (show (2:Int)≠0 by decide)
 have y1:=Int.emod_lt_of_pos (ns.getD 2 0) (show (0:Int)<2 by decide)
 obtain ⟨far,hfar,far0⟩:∃ far:Int,atI [V.int 2003,V.int (2*10^Int.toNat 40)] (ns.getD 2 0%2)=some (V.int far)∧0<far:=by
  obtain z | z:ns.getD 2 0%2=0∨ns.getD 2 0%2=1:=by lia
  ·exact ⟨2003,by rw [z];rfl,by decide⟩
  ·exact ⟨2*10^Int.toNat 40,by rw [z];rfl,by decide⟩
 refine ⟨a,ns,2,rfl,e1.seq hS,h63,_,rfl,by decide,p,_,_,_,rfl,rfl,SqL.of upd_same,hfar,hN _ _ ?_⟩
 clear hN N
 refine forget (fun HX=>Same H HX) e1 ?_
 clear e1 hp hfar y0 y1
 intro H1 e1
 refine hide fun N hN=>?_
 refine ⟨_,rfl,a,ns,2,rfl,e1.seq hS,h63,_,rfl,_,_,rfl,rfl,_,_,rfl,by lia,by lia,fun px H2 l hl e2 _ h2=>⟨px,rfl,⟨_,SqL.of h2⟩,fun D hD=>?_⟩⟩
 refine comp_list (xs:=l.map V.int) (fun i acc Hx=>∃ xs:List Int,acc=xs.map V.int∧xs.length=i∧Same H2 Hx∧Hx D=some (.lst acc)) ⟨[],rfl,rfl,Same.new hD _,upd_same⟩ (fun i acc Hx _ z=>by obtain ⟨_,_,_,z,_⟩:=z;exact SqL.of (z _ _ h2)) ?_ ?_
 ·rintro i x acc Hx hx ⟨xs,rfl,xl,ex,hDx⟩
  obtain ⟨v,hv,rfl⟩:=getInt hx
  have hi:=(List.getElem?_eq_some_iff.mp hv).1
  walk_at "rd"
  refine ⟨far0,by decide,by decide,hDx,?_,xs++[v%far - far / 2],by rw [List.map_append];rfl,by rw [List.length_append,xl];rfl,ex.into hD,upd_same⟩
  rw [List.length_map,xl]
  exact small1000 (by lia)
 rintro acc H3 ⟨xs,rfl,xl,e3,h3⟩
 refine hN _ _ ?_
 clear hN N
 rw [List.length_map,hl] at xl
 have e12:=e1.trans e2
 have e13:=e12.trans e3
 have nD:=e12.free hD
 refine cut (fun σ HX=>(∃ (x4:Option V) (xs':List Int),σ=[some (.ref a),some (.int n),some (.int far),some (.ref D),x4]∧HX D=some (.lst (xs'.map V.int))∧(xs'.length:Int)=n+2)∧Same H HX) (fun N hN=>?_) ?_
 ·refine ⟨_,rfl,_,rfl,a,_,rfl,.inl (e13.seq hS),_,_,rfl,rfl,_,_,rfl,_,rfl,?_⟩
  rw [List.length_map]
  obtain ⟨j,hj⟩:∃ j:Int,j=if ((ns.length:Nat):Int) - 3<n then ((ns.length:Nat):Int) - 3 else n:=⟨_,rfl⟩
  have jb:-3≤j∧j≤n∧j≤((ns.length:Nat):Int) - 3:=by
   rw [hj]
   split
   ·lia
   ·lia
  rw [←hj]
  refine ⟨by lia,by lia,?_⟩
  refine for_range (n:=j.toNat) (fun i σ HX=>(∃ (x4:Option V) (xs':List Int),σ=[some (.ref a),some (.int n),some (.int far),some (.ref D),x4]∧HX D=some (.lst (xs'.map V.int))∧(xs'.length:Int)=n+2)∧Same H HX) ⟨⟨none,xs,rfl,h3,by lia⟩,e13⟩ ?_ fun σ HX z=>hN _ _ z
  rintro i σ HX hi ⟨⟨x4,xs',rfl,hX,xl'⟩,eX⟩
  have ai:0≤3+(i:Int)∧(3+(i:Int)).toNat<ns.length:=by lia
  walk_at "rd"
  rw [Int.zero_add]
  exact ⟨a,_,_,_,rfl,rfl,eX.seq hS,getAtZ ai.1 ai.2,_,rfl,far0,by decide,by decide,_,rfl,_,rfl,D,_,((i:Nat):Int),i,rfl,rfl,hX,(by rw [List.length_map];exact ixN_nat (by lia)),⟨_,rfl⟩,⟨xs'.set i (ns.getD (3+(i:Int)).toNat 0%far - far / 2),by rw [upd_same,List.map_set],by rw [List.length_set];exact xl'⟩,eX.into nD⟩
 rintro σ HX ⟨⟨x4,xs',rfl,hX,xl'⟩,eX⟩
 walk_at "rd"
 exact q D HX xs' ⟨eX,nD,hX⟩ xl'
theorem sc_28:FnScope ["_law_signs","_law_table_here","_law_many","_law_xs","_law_size","_law_low","_law_weights","_law_at","_law_some","_law_part","_law_word_here"] ["_law_signs","_law_table_here","_law_many","_law_xs"] (defScope s_28):=⟨rfl,rfl,rfl,by decide +kernel,rfl,by decide +kernel,by decide +kernel⟩
theorem ok_28 (T:Txt K mg t) (G_27:Has P w K mg base 1 t.f_27 ["_law_signs","_law_many"] (spPower)) (G_41:Has P w K mg base 2 t.f_41 ["_law_table_here","_law_signs","_law_many","_law_at"] (spWord73)):Has P w K mg base 3 t.f_28 ["_law_signs","_law_table_here","_law_many","_law_xs"] (spSteps73):=by
 refine has_mk0 T.d_28 sc_28 (fun _ _ _ _ _ _ us hl=>match us,hl with | [_,_,_,_],_=>rfl) (fun vs H Q E h=>?_) (fun cdv A outer s H vs Q E hr h=>?_)
 ·obtain ⟨pt,px,g,tf,xs,mf,mw,rfl,g2,g9,ht,tfl,mf2,mf8,tfb,w1,w8,s7,hx,xl,q⟩:=h
  rfl
 obtain ⟨pt,px,g,tf,xs,mf,mw,rfl,g2,g9,ht,tfl,mf2,mf8,tfb,w1,w8,s7,hx,xl,q⟩:=h
 refine ⟨_,(pss_cons (ps_set (i:=4) sc_28.nd rfl (Or.inl rfl) (pe_callH G_27 (hr.mono (by decide)) rfl T.m_27 passF (pa_cons (pv 0) (pa_cons (pv 2) pa_nil))))
  (pss_cons (ps_if (pt_cmpR op_eq (pv 2) pe_int (nomark _)) (pss_one (ps_ret (pe_lst (pa_cons (pe_op op_rep (pe_lst (pa_cons (pe_ix ix_list (pv 3) pe_int (fun _ _=>rfl)) pa_nil)) (pv 4)) (pa_cons (pe_op op_rep (pe_lst (pa_cons (pe_ix ix_list (pv 3) pe_int (fun _ _=>rfl)) pa_nil)) (pe_op op_fdiv (pe_callB call_len_seq rfl T.z_len PySem.boot_len (pa_cons (pv 1) pa_nil)) (pv 0))) pa_nil))))) pss_nil)
  (pss_cons (ps_set (i:=5) sc_28.nd rfl (Or.inl rfl) (pe_op op_fdiv (pv 4) (pv 0)))
  (pss_cons (ps_set (i:=6) sc_28.nd rfl (Or.inl rfl) (pe_lst pa_nil))
  (pss_cons (ps_for PassesOwn.never rfl (pi_range1 rfl T.z_range (pa_cons (pv 4) pa_nil)) (pg_name (i:=7) sc_28.nd rfl (Or.inl rfl)) (pss_one (ps_expr (pe_bm PySem.F.plainAttrs_list PySem.F.slot_list_append PySem.F.type_list_append mt_append (pv 6) (pa_cons (pe_op op_add (pe_op op_sub (pe_ix ix_list (pv 3) (pe_op op_fdiv (pv 7) (pv 0)) (fun _ _=>rfl)) (pe_ix ix_list (pv 3) (pe_op op_mod (pv 7) (pv 5)) (fun _ _=>rfl))) (pe_ix ix_list (pv 3) (pe_un un_neg pe_int) (fun _ _=>rfl))) pa_nil)))))
  (pss_cons (ps_set (i:=8) sc_28.nd rfl (Or.inl rfl) (pe_lst pa_nil))
  (pss_cons (ps_set (i:=9) sc_28.nd rfl (Or.inl rfl) (pe_op op_fdiv (pe_callB call_len_seq rfl T.z_len PySem.boot_len (pa_cons (pv 1) pa_nil)) (pv 0)))
  (pss_cons (ps_for PassesOwn.never rfl (pi_range1 rfl T.z_range (pa_cons (pe_op op_mul (pv 9) (pv 5)) pa_nil)) (pg_name (i:=7) sc_28.nd rfl (Or.inl rfl)) (pss_cons (ps_set (i:=10) sc_28.nd rfl (Or.inl rfl) (pe_callH G_41 (hr.mono (by decide)) rfl T.m_41 passF (pa_cons (pv 1) (pa_cons (pv 0) (pa_cons (pe_op op_sub (pv 2) pe_int) (pa_cons (pv 7) pa_nil))))))
  (pss_one (ps_expr (pe_bm PySem.F.plainAttrs_list PySem.F.slot_list_append PySem.F.type_list_append mt_append (pv 8) (pa_cons (pe_op op_add (pe_op op_sub (pe_ix ix_list (pv 3) (pv 10) (fun _ _=>rfl)) (pe_ix ix_list (pv 3) (pe_op op_fdiv (pv 7) (pv 9)) (fun _ _=>rfl))) (pe_ix ix_list (pv 3) (pe_un un_neg pe_int) (fun _ _=>rfl))) pa_nil))))))
  (pss_one (ps_ret (pe_lst (pa_cons (pv 6) (pa_cons (pv 8) pa_nil))))))))))))),?_⟩
 refine hide fun N hN=>?_
 walk_at "rd"
 refine ⟨g,_,rfl,g2,g9,by lia,by lia,hN _ _ ?_⟩
 clear hN N
 rw [Int.toNat_natCast]
 have gp:=RW.pow_pos g2 (mf - 1)
 have gw:=RW.pow_pos g2 mw
 have gw1:=RW.pow_pos g2 (mw - 1)
 have hpart:(tf.length:Int) / g=g^(mf - 1):=by
  rw [tfl,show mf=mf - 1+1 by lia,Int.pow_succ,Int.mul_ediv_cancel _ (by lia),show mf - 1+1 - 1=mf - 1 by lia]
 have gw7:g^mw≤729:=by
  have:=Int.mul_le_mul_of_nonneg_right (show (1:Int)≤g^(mf - 1) by lia) (show (0:Int)≤g^mw by lia)
  lia
 have gp7:g^(mf - 1)≤729:=by
  have:=Int.mul_le_mul_of_nonneg_left (show (1:Int)≤g^mw by lia) (show (0:Int)≤g^(mf - 1) by lia)
  lia
 refine cut (fun σ HX=>σ=[some (.int g),some (.ref pt),some (.int ((mw:Nat):Int)),some (.ref px),some (.int (g^mw)),none,none,none,none,none,none]∧HX=H∧2≤mw) (fun N hN=>?_) ?_
 ·walk_at "rd"
  by_cases y:(mw:Int)=1
  ·rw [if_pos y]
   refine ⟨px,_,_,_,rfl,rfl,SqL.of hx,getAtZ (by decide) (by show 0<_;lia),by decide,fun p1 hp1=>?_⟩
   have f1:=Same.new hp1 (.lst [V.int (xs.getD 0 0)])
   refine rep_new upd_same (by lia) (by lia) fun p2 H2 e2 _ h2=>?_
   have f2:=f1.trans e2
   refine ⟨px,_,_,_,rfl,rfl,SqL.of (f2 _ _ hx),getAtZ (by decide) (by show 1<_;lia),by decide,fun p3 hp3=>?_⟩
   have f3:=f2.trans (Same.new hp3 (.lst [V.int (xs.getD 1 0)]))
   refine ⟨_,.inl (SqL.of (f3 _ _ ht)),by lia,by lia,?_⟩
   rw [List.length_map,hpart]
   refine rep_new upd_same (by lia) (by lia) fun p4 H4 e4 _ h4=>⟨by decide,fun p5 hp5=>?_⟩
   have f5:=Same.new hp5 (.lst [V.ref p2,V.ref p4])
   have k2:=(((Same.new hp3 (.lst [V.int (xs.getD 1 0)])).trans e4).trans f5) _ _ h2
   have k4:=f5 _ _ h4
   refine q p5 p2 p4 _ (List.replicate (g^mw).toNat (xs.getD 0 0)) (List.replicate (g^(mf - 1)).toNat (xs.getD 1 0)) ((f3.trans e4).trans f5) upd_same ?_ ?_ ?_ ?_ ?_
   ·rw [List.map_replicate]
    exact k2
   ·rw [List.map_replicate]
    exact k4
   ·rw [List.length_replicate]
    lia
   ·rw [List.length_replicate]
    lia
   ·rw [List.length_replicate]
    lia
  ·rw [if_neg y]
   exact hN _ _ ⟨rfl,rfl,by lia⟩
 rintro σ HX ⟨rfl,rfl,w2⟩
 refine hide fun N hN=>?_
 walk_at "rd"
 refine ⟨by lia,by lia,hN _ _ ?_⟩
 clear hN N
 have gl:g^mw / g=g^(mw - 1):=by rw [show mw=mw - 1+1 by lia,Int.pow_succ,Int.mul_ediv_cancel _ (by lia),show mw - 1+1 - 1=mw - 1 by lia]
 have gl2:g^mw=g^(mw - 1)*g:=by rw [←Int.pow_succ,show (mw - 1).succ=mw by lia]
 rw [gl]
 refine hide fun N hN=>?_
 walk_at "rd"
 refine ⟨Nat.zero_le _,fun D hD=>hN _ _ ?_⟩
 clear hN N
 have e1:=Same.new hD (.lst [])
 refine cut (fun σ HY=>(∃ (x7:Option V) (ws:List Int),σ=[some (.int g),some (.ref pt),some (.int ((mw:Nat):Int)),some (.ref px),some (.int (g^mw)),some (.int (g^(mw - 1))),some (.ref D),x7,none,none,none]∧HY D=some (.lst (ws.map V.int))∧(ws.length:Int)=g^mw)∧Same HX HY) (fun N hN=>?_) ?_
 ·refine ⟨_,rfl,_,rfl,by lia,by lia,?_⟩
  refine for_range (n:=(g^mw).toNat) (fun i σ HY=>(∃ (x7:Option V) (ws:List Int),σ=[some (.int g),some (.ref pt),some (.int ((mw:Nat):Int)),some (.ref px),some (.int (g^mw)),some (.int (g^(mw - 1))),some (.ref D),x7,none,none,none]∧HY D=some (.lst (ws.map V.int))∧ws.length=i)∧Same HX HY) ⟨⟨none,[],rfl,upd_same,rfl⟩,e1⟩ ?_ ?_
  ·rintro i σ HY hi ⟨⟨x7,ws,rfl,hY,wl⟩,eY⟩
   have gn:((g.toNat:Nat):Int)=g:=by lia
   have d1:(i:Int) / g=((i / g.toNat:Nat):Int):=by rw [Int.natCast_ediv,gn]
   have i1:i / g.toNat<xs.length:=by
    have:=Nat.div_le_self i g.toNat
    lia
   have y0:=Int.emod_nonneg (i:Int) (show g^(mw - 1)≠0 by lia)
   have y1:=Int.emod_lt_of_pos (i:Int) gw1
   have gle:=pow_mono g2 (show mw - 1≤mw by lia)
   walk_at "rd"
   rw [Int.zero_add,d1]
   refine ⟨.inl ⟨_,SqL.of hY⟩,by lia,by lia,px,_,_,_,rfl,rfl,SqL.of (eY _ _ hx),getAt i1,gw1,px,_,_,_,rfl,rfl,SqL.of (eY _ _ hx),getAtZ y0 (by lia),_,rfl,_,rfl,px,_,_,_,rfl,rfl,SqL.of (eY _ _ hx),atI_lastI (by lia),_,rfl,_,hY,?_,⟨ws++[xs.getD (i / g.toNat) 0 - xs.getD ((i:Int)%g^(mw - 1)).toNat 0+xs.getD (xs.length - 1) 0],by rw [upd_same,List.map_append];rfl,by rw [List.length_append,wl];rfl⟩,eY.into hD⟩
   rw [List.length_map,wl]
   exact small1000 (by lia)
  ·rintro σ HY ⟨⟨x7,ws,rfl,hY,wl⟩,eY⟩
   exact hN _ _ ⟨⟨x7,ws,rfl,hY,by lia⟩,eY⟩
 rintro σ HY ⟨⟨x7,ws,rfl,hY,wl⟩,eY⟩
 refine hide fun N hN=>?_
 walk_at "rd"
 refine ⟨Nat.zero_le _,fun B hB=>hN _ _ ?_⟩
 clear hN N
 have eB:=Same.new hB (.lst [])
 have eXB:=eY.trans eB
 refine hide fun N hN=>?_
 walk_at "rd"
 refine ⟨_,.inl (SqL.of (eXB _ _ ht)),by lia,by lia,hN _ _ ?_⟩
 clear hN N
 rw [List.length_map,hpart]
 have nB:=eY.free hB
 have hDB:=eB _ _ hY
 have pl:g^(mf - 1)*g^(mw - 1)*g≤729:=by
  rw [Int.mul_assoc,←gl2]
  exact s7
 have plow:0<g^(mf - 1)*g^(mw - 1):=Int.mul_pos gp gw1
 have pl7:g^(mf - 1)*g^(mw - 1)≤364:=by
  have:=Int.mul_le_mul_of_nonneg_left g2 (Int.le_of_lt plow)
  lia
 obtain ⟨PL,hPL⟩:∃ PL:Nat,(PL:Int)=g^(mf - 1)*g^(mw - 1):=⟨_,Int.toNat_of_nonneg (Int.le_of_lt plow)⟩
 refine cut (fun σ HZ=>(∃ (x7 x10:Option V) (fl:List Int),σ=[some (.int g),some (.ref pt),some (.int ((mw:Nat):Int)),some (.ref px),some (.int (g^mw)),some (.int (g^(mw - 1))),some (.ref D),x7,some (.ref B),some (.int (g^(mf - 1))),x10]∧HZ B=some (.lst (fl.map V.int))∧fl.length=PL)∧Same HY HZ) (fun N hN=>?_) ?_
 ·have gp8:g^(mf - 1)<1000:=by lia
  have gw8:g^(mw - 1)<1000:=by
   have:=pow_mono g2 (show mw - 1≤mw by lia)
   lia
  refine ⟨_,rfl,_,rfl,_,_,rfl,rfl,.inl ⟨by lia,by lia⟩,_,rfl,?_⟩
  rw [←hPL]
  refine ⟨by lia,by lia,?_⟩
  refine for_range (n:=PL) (fun i σ HZ=>(∃ (x7 x10:Option V) (fl:List Int),σ=[some (.int g),some (.ref pt),some (.int ((mw:Nat):Int)),some (.ref px),some (.int (g^mw)),some (.int (g^(mw - 1))),some (.ref D),x7,some (.ref B),some (.int (g^(mf - 1))),x10]∧HZ B=some (.lst (fl.map V.int))∧fl.length=i)∧Same HY HZ) ⟨⟨x7,none,[],rfl,upd_same,rfl⟩,eB⟩ ?_ fun σ HZ z=>hN _ _ z
  rintro i σ HZ hi ⟨⟨x7',x10,fl,rfl,hZ,fll⟩,eZ⟩
  have eXZ:=eY.trans eZ
  walk_at "rd"
  rw [Int.zero_add,show ((mw:Int) - 1)=((mw - 1:Nat):Int) by lia]
  have ww1:=wordL_lt g2 (i:Int) (mf+(mw - 1) - 1)
  have nb:=num_lt g2 (ledL_lt g2 tfb mf (wordL g (i:Int) (mf+(mw - 1) - 1)))
  rw [ledL_len,wordL_len,show mf+(mw - 1) - 1+1 - mf=mw - 1 by lia] at nb
  have gle:=pow_mono g2 (show mw - 1≤mw by lia)
  have d0:0≤(i:Int) / g^(mf - 1):=Int.ediv_nonneg (by lia) (by lia)
  have d1:(i:Int) / g^(mf - 1)<g^(mw - 1):=Int.ediv_lt_of_lt_mul gp (by rw [Int.mul_comm,←hPL];lia)
  have iw:(i:Int)<g^(mf+(mw - 1) - 1):=by
   rw [show mf+(mw - 1) - 1=mf - 1+(mw - 1) by lia,Int.pow_add,←hPL]
   lia
  refine ⟨pt,g,tf,mf,mw - 1,i,rfl,g2,g9,eXZ _ _ ht,tfl,by lia,mf8,tfb,by lia,by lia,by lia,iw,?_⟩
  refine ⟨.inl ⟨_,SqL.of hZ⟩,px,_,_,_,rfl,rfl,SqL.of (eXZ _ _ hx),getAtZ nb.1 (by lia),by lia,by lia,px,_,_,_,rfl,rfl,SqL.of (eXZ _ _ hx),getAtZ d0 (by lia),_,rfl,_,rfl,px,_,_,_,rfl,rfl,SqL.of (eXZ _ _ hx),atI_last2 (by lia),_,rfl,_,hZ,?_,⟨fl++[_],by rw [upd_same,List.map_append];rfl,by rw [List.length_append,fll];rfl⟩,eZ.into hB⟩
  rw [List.length_map,fll]
  exact small1000 (by lia)
 rintro σ HZ ⟨⟨x7',x10,fl,rfl,hZ,fll⟩,eZ⟩
 walk_at "rd"
 refine ⟨by decide,fun p9 hp9=>?_⟩
 have f9:=Same.new hp9 (.lst [V.ref D,V.ref B])
 exact q p9 D B _ ws fl ((eY.trans eZ).trans f9) upd_same ((eZ.trans f9) _ _ hY) (f9 _ _ hZ) wl (by lia) (by lia)
theorem sc_15:FnScope ["_law_weights","_law_some","_law_way","_law_cell","_law_other","_law_at"] ["_law_weights","_law_some","_law_way","_law_cell"] (defScope s_15):=⟨rfl,rfl,rfl,by decide +kernel,rfl,by decide +kernel,by decide +kernel⟩
theorem ok_15 (T:Txt K mg t) :Has P w K mg base 1 t.f_15 ["_law_weights","_law_some","_law_way","_law_cell"] (spSpoiled73):=by
 refine has_mk0 T.d_15 sc_15 (fun _ _ _ _ _ _ us hl=>match us,hl with | [_,_,_,_],_=>rfl) (fun vs H Q E h=>?_) (fun cdv A outer s H vs Q E hr h=>?_)
 ·obtain ⟨a,b,way,c,ws,fl,rfl,ha,hb,w1,w3,f1,f7,q⟩:=h
  rfl
 obtain ⟨a,b,way,c,ws,fl,rfl,ha,hb,w1,w3,f1,f7,q⟩:=h
 refine ⟨_,(pss_cons (ps_if (pt_cmpR op_eq (pv 2) pe_int (nomark _)) (pss_cons (ps_set (i:=4) sc_15.nd rfl (Or.inl rfl) (pe_callTy call_list_of rfl T.z_list PyProof.Rows.boot_list (pa_cons (pv 1) pa_nil)))
  (pss_cons (ps_set (i:=5) sc_15.nd rfl (Or.inl rfl) (pe_op op_mod (pv 3) (pe_callB call_len_seq rfl T.z_len PySem.boot_len (pa_cons (pv 4) pa_nil))))
  (pss_cons (ps_asg (pe_op op_add (pe_op op_add (pe_ix ix_list (pv 4) (pv 5) (fun _ _=>rfl)) pe_int) (pe_op op_mod (pv 3) pe_int)) (pg_sub (pv 4) (pv 5) set_list))
  (pss_one (ps_ret (pe_lst (pa_cons (pv 0) (pa_cons (pv 4) pa_nil)))))))) pss_nil)
  (pss_cons (ps_if (pt_cmpR op_eq (pv 2) pe_int (nomark _)) (pss_cons (ps_set (i:=4) sc_15.nd rfl (Or.inl rfl) (pe_callTy call_list_of rfl T.z_list PyProof.Rows.boot_list (pa_cons (pv 0) pa_nil)))
  (pss_cons (ps_set (i:=5) sc_15.nd rfl (Or.inl rfl) (pe_op op_mod (pv 3) (pe_callB call_len_seq rfl T.z_len PySem.boot_len (pa_cons (pv 4) pa_nil))))
  (pss_cons (ps_asg (pe_op op_sub (pe_op op_sub (pe_ix ix_list (pv 4) (pv 5) (fun _ _=>rfl)) pe_int) (pe_op op_mod (pv 3) pe_int)) (pg_sub (pv 4) (pv 5) set_list))
  (pss_one (ps_ret (pe_lst (pa_cons (pv 4) (pa_cons (pv 1) pa_nil)))))))) pss_nil)
  (pss_cons (ps_if (pt_cmpR op_eq (pv 2) pe_int (nomark _)) (pss_one (ps_ret (pe_lst (pa_cons (pv 0) (pa_cons (pe_slice sl_list (pv 1) po_none (po_some (pe_un un_neg pe_int))) pa_nil))))) pss_nil)
  (pss_cons (ps_if (pt_cmpR op_eq (pv 2) pe_int (nomark _)) (pss_one (ps_ret (pe_lst (pa_cons (pv 0) (pa_cons (pe_op op_cat (pv 1) (pe_slice sl_list (pv 1) po_none (po_some pe_int))) pa_nil))))) pss_nil)
  (pss_cons (ps_if (pt_cmpR op_eq (pv 2) pe_int (nomark _)) (pss_one (ps_ret (pe_lst (pa_cons (pe_op op_cat (pv 0) (pe_slice sl_list (pv 0) po_none (po_some pe_int))) (pa_cons (pv 1) pa_nil))))) pss_nil)
  (pss_cons (ps_if (pt_cmpR op_eq (pv 2) pe_int (nomark _)) (pss_one (ps_ret (pe_lst (pa_cons (pe_slice sl_list (pv 0) po_none (po_some pe_int)) (pa_cons (pv 1) pa_nil))))) pss_nil)
  (pss_cons (ps_if (pt_cmpR op_eq (pv 2) pe_int (nomark _)) (pss_one (ps_ret (pe_lst (pa_cons (pe_lst pa_nil) (pa_cons (pe_lst pa_nil) pa_nil))))) pss_nil)
  (pss_one (ps_ret (pe_lst (pa_cons (pv 0) (pa_cons (pv 1) pa_nil)))))))))))),?_⟩
 refine cut (fun σ HX=>(∃ x4 x5,σ=[some (.ref a),some (.ref b),some (.int way),some (.int c),x4,x5])∧HX=H) (fun N hN=>?_) ?_
 ·walk_at "rd"
  by_cases y:way=0
  ·rw [if_pos y]
   refine ⟨_,.inl (SqL.of hb),fun l hl=>⟨_,.inl (SqL.of upd_same),by rw [List.length_map];lia,?_⟩⟩
   rw [List.length_map]
   have e1:=Same.new hl (.lst (fl.map V.int))
   have y0:=Int.emod_nonneg c (show (fl.length:Int)≠0 by lia)
   have y1:=Int.emod_lt_of_pos c (show 0<(fl.length:Int) by lia)
   obtain ⟨k,hk⟩:∃ k:Nat,(k:Int)=c%(fl.length:Int):=⟨_,Int.toNat_of_nonneg y0⟩
   rw [←hk]
   have kl:k<fl.length:=by lia
   refine ⟨l,_,_,_,rfl,rfl,SqL.of upd_same,getAt kl,_,rfl,by decide,_,rfl,_,rfl,l,_,((k:Nat):Int),k,rfl,rfl,upd_same,(by rw [List.length_map];exact ixN_nat kl),?_⟩
   rw [←List.map_set]
   have e3:=e1.into hl (o:=.lst ((fl.set k (fl.getD k 0+1+c%3)).map V.int))
   have p3:upd (upd H l (.lst (fl.map V.int))) l (.lst ((fl.set k (fl.getD k 0+1+c%3)).map V.int)) l=some (.lst ((fl.set k (fl.getD k 0+1+c%3)).map V.int)):=upd_same
   generalize upd (upd H l (.lst (fl.map V.int))) l (.lst ((fl.set k (fl.getD k 0+1+c%3)).map V.int))=H3 at e3 p3 ⊢
   walk_at "rd"
   refine ⟨by decide,fun p9 hp9=>?_⟩
   have f9:=Same.new hp9 (.lst [V.ref a,V.ref l])
   exact q p9 a l _ ws _ (e3.trans f9) upd_same ((e3.trans f9) _ _ ha) (f9 _ _ p3) (.inl rfl) (by rw [List.length_set];lia)
  ·rw [if_neg y]
   exact hN _ _ ⟨⟨_,_,rfl⟩,rfl⟩
 rintro σ HX ⟨⟨x4,x5,rfl⟩,rfl⟩
 refine cut (fun σ HY=>(∃ x4 x5,σ=[some (.ref a),some (.ref b),some (.int way),some (.int c),x4,x5])∧HY=HX) (fun N hN=>?_) ?_
 ·walk_at "rd"
  by_cases y:way=1
  ·rw [if_pos y]
   refine ⟨_,.inl (SqL.of ha),fun l hl=>⟨_,.inl (SqL.of upd_same),by rw [List.length_map];lia,?_⟩⟩
   rw [List.length_map]
   have e1:=Same.new hl (.lst (ws.map V.int))
   have y0:=Int.emod_nonneg c (show (ws.length:Int)≠0 by lia)
   have y1:=Int.emod_lt_of_pos c (show 0<(ws.length:Int) by lia)
   obtain ⟨k,hk⟩:∃ k:Nat,(k:Int)=c%(ws.length:Int):=⟨_,Int.toNat_of_nonneg y0⟩
   rw [←hk]
   have kl:k<ws.length:=by lia
   refine ⟨l,_,_,_,rfl,rfl,SqL.of upd_same,getAt kl,_,rfl,by decide,_,rfl,_,rfl,l,_,((k:Nat):Int),k,rfl,rfl,upd_same,(by rw [List.length_map];exact ixN_nat kl),?_⟩
   rw [←List.map_set]
   have e3:=e1.into hl (o:=.lst ((ws.set k (ws.getD k 0 - 1 - c%3)).map V.int))
   have p3:upd (upd HX l (.lst (ws.map V.int))) l (.lst ((ws.set k (ws.getD k 0 - 1 - c%3)).map V.int)) l=some (.lst ((ws.set k (ws.getD k 0 - 1 - c%3)).map V.int)):=upd_same
   generalize upd (upd HX l (.lst (ws.map V.int))) l (.lst ((ws.set k (ws.getD k 0 - 1 - c%3)).map V.int))=H3 at e3 p3 ⊢
   walk_at "rd"
   refine ⟨by decide,fun p9 hp9=>?_⟩
   have f9:=Same.new hp9 (.lst [V.ref l,V.ref b])
   exact q p9 l b _ _ fl (e3.trans f9) upd_same (f9 _ _ p3) ((e3.trans f9) _ _ hb) (.inl (List.length_set ..)) (by lia)
  ·rw [if_neg y]
   exact hN _ _ ⟨⟨_,_,rfl⟩,rfl⟩
 rintro σ HY ⟨⟨x4,x5,rfl⟩,rfl⟩
 walk_at "rd"
 split
 ·refine sl_new (SqL.of hb) fun p2 H2 e2 _ h2=>⟨by decide,fun p9 hp9=>?_⟩
  rw [cutV_int] at h2
  have f9:=Same.new hp9 (.lst [V.ref a,V.ref p2])
  exact q p9 a p2 _ ws _ (e2.trans f9) upd_same ((e2.trans f9) _ _ ha) (f9 _ _ h2) (.inl rfl) (Nat.le_trans (cut_len _ _ _) (by lia))
 split
 ·refine sl_new (SqL.of hb) fun p2 H2 e2 _ h2=>?_
  rw [cutV_int] at h2
  have c1:(cutI fl none (some 1)).length≤1:=by rw [cut_to (by decide),List.length_take];lia
  refine cat_new (e2 _ _ hb) h2 (by rw [List.length_map,List.length_map];lia) fun p3 H3 e3 _ h3=>⟨by decide,fun p9 hp9=>?_⟩
  rw [←List.map_append] at h3
  have f9:=Same.new hp9 (.lst [V.ref a,V.ref p3])
  exact q p9 a p3 _ ws _ ((e2.trans e3).trans f9) upd_same (((e2.trans e3).trans f9) _ _ ha) (f9 _ _ h3) (.inl rfl) (by rw [List.length_append];lia)
 split
 ·refine sl_new (SqL.of ha) fun p2 H2 e2 _ h2=>?_
  rw [cutV_int] at h2
  have c1:(cutI ws none (some 1)).length=1:=by rw [cut_to (by decide),List.length_take];show min 1 ws.length=1;lia
  refine cat_new (e2 _ _ ha) h2 (by rw [List.length_map,List.length_map];lia) fun p3 H3 e3 _ h3=>⟨by decide,fun p9 hp9=>?_⟩
  rw [←List.map_append] at h3
  have f9:=Same.new hp9 (.lst [V.ref p3,V.ref b])
  exact q p9 p3 b _ _ fl ((e2.trans e3).trans f9) upd_same (f9 _ _ h3) (((e2.trans e3).trans f9) _ _ hb) (.inr (.inl (by rw [List.length_append,c1]))) (by lia)
 split
 ·refine sl_new (SqL.of ha) fun p2 H2 e2 _ h2=>⟨by decide,fun p9 hp9=>?_⟩
  rw [cutV_int] at h2
  have c1:(cutI ws none (some 1)).length≤1:=by rw [cut_to (by decide),List.length_take];show min 1 ws.length≤1;lia
  have f9:=Same.new hp9 (.lst [V.ref p2,V.ref b])
  exact q p9 p2 b _ _ fl (e2.trans f9) upd_same (f9 _ _ h2) ((e2.trans f9) _ _ hb) (.inr (.inr c1)) (by lia)
 split
 ·refine ⟨Nat.zero_le _,fun p1 hp1=>⟨Nat.zero_le _,fun p2 hp2=>⟨by decide,fun p9 hp9=>?_⟩⟩⟩
  have g1:=Same.new hp1 (.lst [])
  have g2':=Same.new hp2 (.lst [])
  have f9:=Same.new hp9 (.lst [V.ref p1,V.ref p2])
  exact q p9 p1 p2 _ [] [] ((g1.trans g2').trans f9) upd_same ((g2'.trans f9) _ _ upd_same) (f9 _ _ upd_same) (.inr (.inr (Nat.zero_le _))) (Nat.zero_le _)
 ·refine ⟨by decide,fun p9 hp9=>?_⟩
  have f9:=Same.new hp9 (.lst [V.ref a,V.ref b])
  exact q p9 a b _ ws fl f9 upd_same (f9 _ _ ha) (f9 _ _ hb) (.inl rfl) (by lia)
theorem sc_38:FnScope ["_law_one","_law_weights","_law_some","_law_signs","_law_table_here","_law_many","_law_part","_law_at","_law_gained"] ["_law_one","_law_weights","_law_some"] (defScope s_38):=⟨rfl,rfl,rfl,by decide +kernel,rfl,by decide +kernel,by decide +kernel⟩
theorem ok_38 (T:Txt K mg t) (G_25:Has P w K mg base 1 t.f_25 ["_law_one"] (spFrame65)) (G_8:Has P w K mg base 1 t.f_8 ["_law_signs","_law_size"] (spExp73)) (G_41:Has P w K mg base 2 t.f_41 ["_law_table_here","_law_signs","_law_many","_law_at"] (spWord73)):Has P w K mg base 3 t.f_38 ["_law_one","_law_weights","_law_some"] (spHeld73):=by
 refine has_mk0 T.d_38 sc_38 (fun _ _ _ _ _ _ us hl=>match us,hl with | [_,_,_],_=>rfl) (fun vs H Q E h=>?_) (fun cdv A outer s H vs Q E hr h=>?_)
 ·obtain ⟨r,a,b,g,lo,tab,m,ws,fl,rfl,ok,ha,hb,w1,f1,q⟩:=h
  rfl
 obtain ⟨r,a,b,g,lo,tab,m,ws,fl,rfl,ok,ha,hb,w1,f1,q⟩:=h
 refine ⟨_,(pss_cons (ps_set (i:=3) sc_38.nd rfl (Or.inl rfl) (pe_ix ix_tup (pv 0) pe_int (fun _ _=>rfl)))
  (pss_cons (ps_set (i:=4) sc_38.nd rfl (Or.inl rfl) (pe_callH G_25 (hr.mono (by decide)) rfl T.m_25 passF (pa_cons (pv 0) pa_nil)))
  (pss_cons (ps_set (i:=5) sc_38.nd rfl (Or.inl rfl) (pe_callH G_8 (hr.mono (by decide)) rfl T.m_8 passF (pa_cons (pv 3) (pa_cons (pe_callB call_len_seq rfl T.z_len PySem.boot_len (pa_cons (pv 1) pa_nil)) pa_nil))))
  (pss_cons (ps_if (PW.pt (pw_or (pt_cmpR op_lt (pv 5) pe_int (nomark _)) (pw_or1 (pt_cmpR op_ne (pe_callB call_len_seq rfl T.z_len PySem.boot_len (pa_cons (pv 2) pa_nil)) (pe_op op_fdiv (pe_op op_mul (pe_op op_fdiv (pe_callB call_len_seq rfl T.z_len PySem.boot_len (pa_cons (pv 4) pa_nil)) (pv 3)) (pe_callB call_len_seq rfl T.z_len PySem.boot_len (pa_cons (pv 1) pa_nil))) (pv 3)) (nomark _))))) (pss_one (ps_ret pe_bl)) pss_nil)
  (pss_cons (ps_set (i:=6) sc_38.nd rfl (Or.inl rfl) (pe_callB call_len_seq rfl T.z_len PySem.boot_len (pa_cons (pv 2) pa_nil)))
  (pss_cons (ps_for PassesOwn.never rfl (pi_range1 rfl T.z_range (pa_cons (pe_op op_mul (pv 6) (pv 3)) pa_nil)) (pg_name (i:=7) sc_38.nd rfl (Or.inl rfl)) (pss_cons (ps_set (i:=8) sc_38.nd rfl (Or.inl rfl) (pe_op op_sub (pe_ix ix_list (pv 1) (pe_callH G_41 (hr.mono (by decide)) rfl T.m_41 passF (pa_cons (pv 4) (pa_cons (pv 3) (pa_cons (pv 5) (pa_cons (pv 7) pa_nil))))) (fun _ _=>rfl)) (pe_ix ix_list (pv 1) (pe_op op_fdiv (pv 7) (pe_op op_fdiv (pe_callB call_len_seq rfl T.z_len PySem.boot_len (pa_cons (pv 4) pa_nil)) (pv 3))) (fun _ _=>rfl))))
  (pss_one (ps_if (pt_cmpR op_ne (pv 8) (pe_op op_sub (pe_ix ix_list (pv 2) (pe_op op_fdiv (pv 7) (pv 3)) (fun _ _=>rfl)) (pe_ix ix_list (pv 2) (pe_op op_mod (pv 7) (pv 6)) (fun _ _=>rfl))) (nomark _)) (pss_one (ps_ret pe_bl)) pss_nil))))
  (pss_one (ps_ret pe_bl)))))))),?_⟩
 obtain ⟨tb,h1,h2⟩:=id ok.v
 have g2:=ok.g2
 have g9:=ok.g9
 refine hide fun N hN=>?_
 walk_at "rd"
 refine ⟨r,_,0,_,rfl,rfl,SqT.of h1,rfl,hN _ _ ?_⟩
 clear hN N
 refine hide fun N hN=>?_
 walk_at "rd"
 refine ⟨r,g,lo,tab,m,rfl,ok,fun pt lf tf mf H1 e1 fw ht tfl mf8=>hN _ _ ?_⟩
 clear hN N
 obtain ⟨hm,q⟩:=q lf tf mf fw
 have mf2:=fw.two
 have tfb:=FrameW.lt g2 ok.tb fw
 have gp:=RW.pow_pos g2 (mf - 1)
 have hpart:(tf.length:Int) / g=g^(mf - 1):=by
  rw [tfl,show mf=mf - 1+1 by lia,Int.pow_succ,Int.mul_ediv_cancel _ (by lia),show mf - 1+1 - 1=mf - 1 by lia]
 have a1:=e1 _ _ ha
 have b1:=e1 _ _ hb
 have hfalse:¬ HeldP g tf mf ws fl→∀ H',Same H1 H'→Q (.bl false) H':=fun nh H' e=>q false H' (e1.trans e) ⟨fun z=>Bool.noConfusion z,fun z=>absurd z nh⟩
 refine cut (fun σ HX=>(∃ (mw:Nat),σ=[some (.ref r),some (.ref a),some (.ref b),some (.int g),some (.ref pt),some (.int ((mw:Nat):Int)),none,none,none]∧((ws.length:Int)=g^mw∨(mw=0∧∀ k:Nat,(ws.length:Int)≠g^k)))∧HX=H1) (fun N hN=>?_) ?_
 ·walk_at "rd"
  refine ⟨_,.inl (SqL.of a1),?_⟩
  rw [List.length_map]
  refine ⟨g,_,rfl,g2,g9,by lia,by lia,fun mw hw=>hN _ _ ⟨⟨mw,rfl,.inl hw⟩,rfl⟩,fun nw=>hN _ _ ⟨⟨0,rfl,.inr ⟨rfl,nw⟩⟩,rfl⟩⟩
 rintro σ HX ⟨⟨mw,rfl,hmw⟩,rfl⟩
 refine cut (fun σ HY=>σ=[some (.ref r),some (.ref a),some (.ref b),some (.int g),some (.ref pt),some (.int ((mw:Nat):Int)),none,none,none]∧HY=HX∧1≤mw∧(ws.length:Int)=g^mw∧(fl.length:Int)*g=g^(mf - 1)*(ws.length:Int)) (fun N hN=>?_) ?_
 ·walk_at "rd"
  by_cases y:(mw:Int)<1
  ·rw [if_pos y]
   refine hfalse (fun ⟨mw',m1,wl',_⟩=>?_) _ (Same.refl _)
   rcases hmw with h | h
   ·have:=pow_inj g2 (h.symm.trans wl')
    lia
   ·exact h.2 mw' wl'
  ·rw [if_neg y]
   have wl:(ws.length:Int)=g^mw:=hmw.resolve_right fun h=>y (by lia)
   have s7:=hm ⟨mw,wl⟩
   have gK:g^(mf - 1)*(ws.length:Int)=g^(mf - 1)*g^(mw - 1)*g:=by
    rw [wl,Int.mul_assoc,←Int.pow_succ,show (mw - 1).succ=mw by lia]
   have dK:g^(mf - 1)*(ws.length:Int) / g=g^(mf - 1)*g^(mw - 1):=by rw [gK,Int.mul_ediv_cancel _ (by lia)]
   refine ⟨_,.inl (SqL.of b1),_,.inl (SqL.of ht),by lia,by lia,_,.inl (SqL.of a1),.inr ⟨by rw [List.length_map];lia,by rw [List.length_map];lia⟩,by lia,by lia,?_⟩
   rw [List.length_map,List.length_map,List.length_map,hpart,dK]
   by_cases z:(fl.length:Int)=g^(mf - 1)*g^(mw - 1)
   ·rw [if_neg (fun w=>w z)]
    exact hN _ _ ⟨rfl,rfl,by lia,wl,by rw [gK,z]⟩
   ·rw [if_pos z]
    refine hfalse (fun ⟨mw',m1,wl',h,_⟩=>z ?_) _ (Same.refl _)
    rw [gK] at h
    exact Int.eq_of_mul_eq_mul_right (by lia) h
 rintro σ HY ⟨rfl,rfl,mw1,wl,hfl⟩
 have s7:=hm ⟨mw,wl⟩
 have wp:=RW.pow_pos g2 mw
 have ww:(ws.length:Int)≤729:=by
  have:=Int.mul_le_mul_of_nonneg_right (show (1:Int)≤g^(mf - 1) by lia) (show (0:Int)≤(ws.length:Int) by lia)
  lia
 have w40:mw≤40:=by
  by_cases y:mw≤40
  ·exact y
  ·exfalso
   have a:=pow_mono g2 (show 10≤mw by lia)
   have b:=pow_ge2 g2 10
   have:(2:Int)^10=1024:=by decide
   lia
 have gn:((g.toNat:Nat):Int)=g:=by lia
 have gl:=gainL_len g tf mf ws mw
 have gl2:(((gainL g tf mf ws mw).length:Nat):Int)=g^(mf - 1)*(ws.length:Int):=by rw [gl,Int.natCast_mul,Int.toNat_of_nonneg (by lia)]
 have glp:g^(mf - 1)*(ws.length:Int)=g^(mf+mw - 1):=by rw [wl,←Int.pow_add];congr 1;lia
 have gfl:(gainL g tf mf ws mw).length=fl.length*g.toNat:=by
  have:((fl.length*g.toNat:Nat):Int)=(fl.length:Int)*g:=by rw [Int.natCast_mul,gn]
  lia
 have fl1:1≤fl.length:=by
  refine Nat.pos_of_ne_zero fun z=>?_
  rw [z] at hfl
  have:=Int.mul_pos gp (show (0:Int)<(ws.length:Int) by lia)
  lia
 obtain ⟨gs,hgs⟩:∃ gs,gs=gainL g tf mf ws mw:=⟨_,rfl⟩
 rw [←hgs] at gl gl2 gfl
 refine hide fun N hN=>?_
 walk_at "rd"
 refine ⟨_,.inl (SqL.of b1),hN _ _ ?_⟩
 clear hN N
 rw [List.length_map]
 refine cut (fun σ HZ=>(∃ x7 x8,σ=[some (.ref r),some (.ref a),some (.ref b),some (.int g),some (.ref pt),some (.int ((mw:Nat):Int)),some (.int ((fl.length:Nat):Int)),x7,x8])∧HZ=HY∧rightW g.toNat gs fl) (fun N hN=>?_) ?_
 ·refine ⟨_,rfl,_,rfl,_,_,rfl,rfl,.inr ⟨by lia,by lia⟩,_,rfl,by lia,by lia,?_⟩
  rw [show ((fl.length:Int)*g).toNat=gs.length by lia]
  refine for_range (n:=gs.length) (fun i σ HZ=>(∃ x7 x8,σ=[some (.ref r),some (.ref a),some (.ref b),some (.int g),some (.ref pt),some (.int ((mw:Nat):Int)),some (.int ((fl.length:Nat):Int)),x7,x8])∧HZ=HY∧∀ j,j<i→¬ wrongW g.toNat gs fl j) ⟨⟨none,none,rfl⟩,rfl,fun j hj=>absurd hj (Nat.not_lt_zero _)⟩ ?_ fun σ HZ z=>hN _ _ ⟨z.1,z.2.1,fun n hn=>z.2.2 n hn⟩
  rintro i σ HZ hi ⟨⟨x7,x8,rfl⟩,rfl,all⟩
  have iL:(i:Int)<g^(mf+mw - 1):=by lia
  have Rb:=ledL_lt g2 tfb mf (wordL g (i:Int) (mf+mw - 1))
  have Rn:=num_lt g2 Rb
  rw [ledL_len,wordL_len,show mf+mw - 1+1 - mf=mw by lia] at Rn
  have gv:gs.getD i 0=ws.getD (num g (ledL g tf mf (wordL g (i:Int) (mf+mw - 1)))).toNat 0 - ws.getD (i / (g^(mf - 1)).toNat) 0:=by
   rw [hgs]
   unfold gainL
   rw [getD_map_range (by lia)]
  have ed:(i:Int) / g^(mf - 1)=((i / (g^(mf - 1)).toNat:Nat):Int):=by rw [Int.natCast_ediv,Int.toNat_of_nonneg (by lia)]
  have dl:i / (g^(mf - 1)).toNat<ws.length:=Nat.div_lt_of_lt_mul (by lia)
  have d1:(i:Int) / g=((i / g.toNat:Nat):Int):=by rw [Int.natCast_ediv,gn]
  have d2:(i:Int)%(fl.length:Int)=((i%fl.length:Nat):Int):=(Int.natCast_emod ..).symm
  have i1:i / g.toNat<fl.length:=Nat.div_lt_of_lt_mul (by rw [Nat.mul_comm];lia)
  have i2:i%fl.length<fl.length:=Nat.mod_lt _ (by lia)
  refine hide fun N2 hN2=>?_
  walk_at "rd"
  rw [Int.zero_add]
  have gm1:g^(mf - 1)≤729:=by
   have:=Int.mul_le_mul_of_nonneg_left (show (1:Int)≤(ws.length:Int) by lia) (show (0:Int)≤g^(mf - 1) by lia)
   lia
  refine ⟨pt,g,tf,mf,mw,i,rfl,g2,g9,ht,tfl,by lia,mf8,tfb,mw1,w40,by lia,iL,?_⟩
  refine ⟨a,_,_,_,rfl,rfl,SqL.of a1,getAtZ Rn.1 (by lia),_,.inl (SqL.of ht),by lia,by lia,?_⟩
  rw [List.length_map,hpart,ed]
  refine ⟨gp,by lia,a,_,_,_,rfl,rfl,SqL.of a1,getAt dl,_,rfl,_,rfl,hN2 _ _ ?_⟩
  clear hN2 N2
  rw [←gv]
  walk_at "rd"
  rw [d1,d2]
  refine ⟨by lia,by lia,b,_,_,_,rfl,rfl,SqL.of b1,getAt i1,by lia,b,_,_,_,rfl,rfl,SqL.of b1,getAt i2,_,rfl,_,rfl,?_⟩
  by_cases z:gs.getD i 0=fl.getD (i / g.toNat) 0 - fl.getD (i%fl.length) 0
  ·rw [if_neg (fun w=>w z)]
   refine ⟨⟨_,rfl⟩,rfl,fun j hj=>?_⟩
   by_cases y:j=i
   ·rw [y]
    exact fun w=>w z
   ·exact all j (by lia)
  ·rw [if_pos z]
   refine hfalse (fun ⟨mw',m1',wl',_,hr'⟩=>?_) _ (Same.refl _)
   have:mw=mw':=pow_inj g2 (wl.symm.trans wl')
   subst this
   rw [←hgs] at hr'
   exact absurd z (hr' i hi)
 rintro σ HZ ⟨⟨x7,x8,rfl⟩,rfl,right⟩
 walk_at "rd"
 exact q true _ e1 ⟨fun _=>⟨mw,mw1,wl,hfl,by rw [←hgs];exact right⟩,fun _=>rfl⟩
theorem sc_30:FnScope ["_law_signs","_law_many","_law_weights","_law_ring_here","_law_found","_law_k","_law_at","_law_j"] ["_law_signs","_law_many","_law_weights","_law_ring_here"] (defScope s_30):=⟨rfl,rfl,rfl,by decide +kernel,rfl,by decide +kernel,by decide +kernel⟩
theorem ok_30 (T:Txt K mg t) :Has P w K mg base 1 t.f_30 ["_law_signs","_law_many","_law_weights","_law_ring_here"] (spTotal62):=by
 refine has_mk0 T.d_30 sc_30 (fun _ _ _ _ _ _ us hl=>match us,hl with | [_,_,_,_],_=>rfl) (fun vs H Q E h=>?_) (fun cdv A outer s H vs Q E hr h=>?_)
 ·obtain ⟨b,a,g,ws,ring,mw,rfl,g2,g9,hb,wl,w1,w40,ha,rb,n1,n40,q⟩:=h
  rfl
 obtain ⟨b,a,g,ws,ring,mw,rfl,g2,g9,hb,wl,w1,w40,ha,rb,n1,n40,q⟩:=h
 refine ⟨_,(pss_cons (ps_set (i:=4) sc_30.nd rfl (Or.inl rfl) pe_int)
  (pss_cons (ps_for PassesOwn.never rfl (pi_range1 rfl T.z_range (pa_cons (pe_callB call_len_seq rfl T.z_len PySem.boot_len (pa_cons (pv 3) pa_nil)) pa_nil)) (pg_name (i:=5) sc_30.nd rfl (Or.inl rfl)) (pss_cons (ps_set (i:=6) sc_30.nd rfl (Or.inl rfl) pe_int)
  (pss_cons (ps_for PassesOwn.never rfl (pi_range1 rfl T.z_range (pa_cons (pv 1) pa_nil)) (pg_name (i:=7) sc_30.nd rfl (Or.inl rfl)) (pss_one (ps_set (i:=6) sc_30.nd rfl (Or.inl rfl) (pe_op op_add (pe_op op_mul (pv 6) (pv 0)) (pe_ix ix_list (pv 3) (pe_op op_mod (pe_op op_add (pv 5) (pv 7)) (pe_callB call_len_seq rfl T.z_len PySem.boot_len (pa_cons (pv 3) pa_nil))) (fun _ _=>rfl))))))
  (pss_one (ps_set (i:=4) sc_30.nd rfl (Or.inl rfl) (pe_op op_add (pv 4) (pe_ix ix_list (pv 2) (pv 6) (fun _ _=>rfl))))))))
  (pss_one (ps_ret (pv 4))))),?_⟩
 have hrl:(ring.map V.int).length=ring.length:=List.length_map ..
 refine hide fun N hN=>?_
 walk_at "rd"
 refine hN _ _ ?_
 clear hN N
 refine cut (fun σ HX=>(∃ x5 x6 x7,σ=[some (.int g),some (.int ((mw:Nat):Int)),some (.ref b),some (.ref a),some (.int (sumN ring.length fun i=>ws.getD (num g (ringW ring mw ((i:Int)+0))).toNat 0)),x5,x6,x7])∧HX=H) (fun N hN=>?_) ?_
 ·refine ⟨_,rfl,a,_,rfl,.inl (SqL.of ha),_,rfl,by lia,by lia,?_⟩
  rw [hrl]
  refine for_range (n:=ring.length) (fun i σ HX=>(∃ x5 x6 x7,σ=[some (.int g),some (.int ((mw:Nat):Int)),some (.ref b),some (.ref a),some (.int (sumN i fun i=>ws.getD (num g (ringW ring mw ((i:Int)+0))).toNat 0)),x5,x6,x7])∧HX=H) ⟨⟨none,none,none,rfl⟩,rfl⟩ ?_ fun σ HX z=>hN _ _ z
  rintro i σ HX hi ⟨⟨x5,x6,x7,rfl⟩,rfl⟩
  have wlt:=ringW_lt g2 rb mw ((i:Int)+0)
  have wln:=ringW_len ring mw ((i:Int)+0)
  have nb:=num_lt g2 wlt
  rw [wln,←wl] at nb
  refine hide fun N2 hN2=>?_
  walk_at "rd"
  refine hN2 _ _ ?_
  clear hN2 N2
  rw [Int.zero_add]
  refine cut (fun σ HY=>(∃ x7,σ=[some (.int g),some (.int ((mw:Nat):Int)),some (.ref b),some (.ref a),some (.int (sumN i fun i=>ws.getD (num g (ringW ring mw ((i:Int)+0))).toNat 0)),some (.int ((i:Nat):Int)),some (.int (num g (ringW ring mw ((i:Int)+0)))),x7])∧HY=HX) (fun N2 hN2=>?_) ?_
  ·refine ⟨_,rfl,_,rfl,by lia,by lia,?_⟩
   rw [Int.toNat_natCast]
   refine for_range (n:=mw) (fun j σ HY=>(∃ x7,σ=[some (.int g),some (.int ((mw:Nat):Int)),some (.ref b),some (.ref a),some (.int (sumN i fun i=>ws.getD (num g (ringW ring mw ((i:Int)+0))).toNat 0)),some (.int ((i:Nat):Int)),some (.int (num g ((ringW ring mw ((i:Int)+0)).take j))),x7])∧HY=HX) ⟨⟨_,rfl⟩,rfl⟩ ?_ ?_
   ·rintro j σ HY hj ⟨⟨x7,rfl⟩,rfl⟩
    have gj:(ringW ring mw ((i:Int)+0))[j]?=some (ringAt ring ((i:Int)+0+(j:Int))):=by
     unfold ringW
     rw [List.getElem?_map,List.getElem?_range hj]
     rfl
    have rz:=mod_nat (z:=(i:Int)+(j:Int)) n1
    walk_at "rd"
    rw [Int.zero_add]
    refine ⟨.inr ⟨by lia,by lia⟩,_,.inl (SqL.of ha),?_⟩
    rw [hrl]
    refine ⟨by lia,a,_,_,_,rfl,rfl,SqL.of ha,getAtZ (by lia) rz.1,_,rfl,?_,⟨_,rfl⟩,rfl⟩
    rw [num_take gj,Int.add_zero]
    rfl
   ·rintro σ HY ⟨⟨x7,rfl⟩,rfl⟩
    rw [List.take_of_length_le (by lia)]
    exact hN2 _ _ ⟨⟨_,rfl⟩,rfl⟩
  rintro σ HY ⟨⟨x7',rfl⟩,rfl⟩
  walk_at "rd"
  refine ⟨b,_,_,_,rfl,rfl,SqL.of hb,getAtZ nb.1 (by lia),?_⟩
  exact ⟨_,rfl,(sumN_succ ..).symm,⟨_,rfl⟩,rfl⟩
 rintro σ HX ⟨⟨x5,x6,x7,rfl⟩,rfl⟩
 walk_at "rd"
 exact q
theorem sc_12:FnScope ["_law_one","_law_weights","_law_ring_here","_law_signs","_law_many","_law_sent","_law_k","_law_at","_law_by","_law_j"] ["_law_one","_law_weights","_law_ring_here"] (defScope s_12):=⟨rfl,rfl,rfl,by decide +kernel,rfl,by decide +kernel,by decide +kernel⟩
theorem ok_12 (T:Txt K mg t) (G_8:Has P w K mg base 1 t.f_8 ["_law_signs","_law_size"] (spExp73)) (G_30:Has P w K mg base 1 t.f_30 ["_law_signs","_law_many","_law_weights","_law_ring_here"] (spTotal62)):Has P w K mg base 2 t.f_12 ["_law_one","_law_weights","_law_ring_here"] (spChanges73):=by
 refine has_mk0 T.d_12 sc_12 (fun _ _ _ _ _ _ us hl=>match us,hl with | [_,_,_],_=>rfl) (fun vs H Q E h=>?_) (fun cdv A outer s H vs Q E hr h=>?_)
 ·obtain ⟨r,a,b,g,lo,tab,m,ws,ring,rfl,ok,ha,hb,w4,r1,q⟩:=h
  rfl
 obtain ⟨r,a,b,g,lo,tab,m,ws,ring,rfl,ok,ha,hb,w4,r1,q⟩:=h
 refine ⟨_,(pss_cons (ps_set (i:=3) sc_12.nd rfl (Or.inl rfl) (pe_ix ix_tup (pv 0) pe_int (fun _ _=>rfl)))
  (pss_cons (ps_set (i:=4) sc_12.nd rfl (Or.inl rfl) (pe_callH G_8 (hr.mono (by decide)) rfl T.m_8 passF (pa_cons (pv 3) (pa_cons (pe_callB call_len_seq rfl T.z_len PySem.boot_len (pa_cons (pv 1) pa_nil)) pa_nil))))
  (pss_cons (ps_if (PW.pt (pw_or (pt_cmpR op_lt (pv 4) pe_int (nomark _)) (pw_or (pt_cmpR (op_eqL hr.units) (pv 2) (pe_lst pa_nil) (nomark _)) (pw_or (pt_cmpR op_lt (pe_callB (call_min_of rfl) rfl T.z_min PyProof.Rows.boot_min (pa_cons (pv 2) pa_nil)) pe_int (nomark _)) (pw_or1 (pt_cmpR op_ge (pe_callB (call_max_of rfl) rfl T.z_max PyProof.Rows.boot_max (pa_cons (pv 2) pa_nil)) (pv 3) (nomark _))))))) (pss_one (ps_ret pe_bl)) pss_nil)
  (pss_cons (ps_set (i:=5) sc_12.nd rfl (Or.inl rfl) (pe_lst pa_nil))
  (pss_cons (ps_for PassesOwn.never rfl (pi_range1 rfl T.z_range (pa_cons (pe_callB call_len_seq rfl T.z_len PySem.boot_len (pa_cons (pv 2) pa_nil)) pa_nil)) (pg_name (i:=6) sc_12.nd rfl (Or.inl rfl)) (pss_cons (ps_set (i:=7) sc_12.nd rfl (Or.inl rfl) pe_int)
  (pss_cons (ps_set (i:=8) sc_12.nd rfl (Or.inl rfl) (pe_callB call_len_seq rfl T.z_len PySem.boot_len (pa_cons (pe_ix ix_tup (pv 0) pe_int (fun _ _=>rfl)) pa_nil)))
  (pss_cons (ps_set (i:=9) sc_12.nd rfl (Or.inl rfl) (pv 6))
  (pss_cons (ps_while PassesOwn.never (pt_cmpR op_gt (pv 8) pe_int (nomark _)) (pss_cons (ps_set (i:=7) sc_12.nd rfl (Or.inl rfl) (pe_op op_add (pe_op op_mul (pv 7) (pv 3)) (pe_ix ix_list (pv 2) (pe_op op_mod (pv 9) (pe_callB call_len_seq rfl T.z_len PySem.boot_len (pa_cons (pv 2) pa_nil))) (fun _ _=>rfl))))
  (pss_cons (ps_set (i:=8) sc_12.nd rfl (Or.inl rfl) (pe_op op_fdiv (pv 8) (pv 3)))
  (pss_one (ps_set (i:=9) sc_12.nd rfl (Or.inl rfl) (pe_op op_add (pv 9) pe_int))))))
  (pss_one (ps_expr (pe_bm PySem.F.plainAttrs_list PySem.F.slot_list_append PySem.F.type_list_append mt_append (pv 5) (pa_cons (pe_ix ix_tup (pe_ix ix_tup (pv 0) pe_int (fun _ _=>rfl)) (pv 7) (fun _ _=>rfl)) pa_nil)))))))))
  (pss_one (ps_ret (pe_cmpR op_ne (pe_callH G_30 (hr.mono (by decide)) rfl T.m_30 passF (pa_cons (pv 3) (pa_cons (pv 4) (pa_cons (pv 1) (pa_cons (pv 2) pa_nil))))) (pe_callH G_30 (hr.mono (by decide)) rfl T.m_30 passF (pa_cons (pv 3) (pa_cons (pv 4) (pa_cons (pv 1) (pa_cons (pv 5) pa_nil))))) (nomark _))))))))),?_⟩
 obtain ⟨tb,h1,h2⟩:=id ok.v
 have g2:=ok.g2
 have g9:=ok.g9
 have tl:=ok.len
 have hrl:(ring.map V.int).length=ring.length:=List.length_map ..
 refine hide fun N hN=>?_
 walk_at "rd"
 refine ⟨r,_,0,_,rfl,rfl,SqT.of h1,rfl,hN _ _ ?_⟩
 clear hN N
 have hfalse:¬ ChgP g lo tab m ws ring→∀ H',Same H H'→Q (.bl false) H':=fun nh H' e=>q false H' e ⟨fun z=>Bool.noConfusion z,fun z=>absurd z nh⟩
 refine cut (fun σ HX=>(∃ (mw:Nat),σ=[some (.ref r),some (.ref a),some (.ref b),some (.int g),some (.int ((mw:Nat):Int)),none,none,none,none,none]∧((ws.length:Int)=g^mw∨(mw=0∧∀ k:Nat,(ws.length:Int)≠g^k)))∧HX=H) (fun N hN=>?_) ?_
 ·walk_at "rd"
  refine ⟨_,.inl (SqL.of ha),?_⟩
  rw [List.length_map]
  refine ⟨g,_,rfl,g2,g9,by lia,by lia,fun mw hw=>hN _ _ ⟨⟨mw,rfl,.inl hw⟩,rfl⟩,fun nw=>hN _ _ ⟨⟨0,rfl,.inr ⟨rfl,nw⟩⟩,rfl⟩⟩
 rintro σ HX ⟨⟨mw,rfl,hmw⟩,rfl⟩
 refine cut (fun σ HY=>σ=[some (.ref r),some (.ref a),some (.ref b),some (.int g),some (.int ((mw:Nat):Int)),none,none,none,none,none]∧Same HX HY∧1≤mw∧(ws.length:Int)=g^mw∧1≤ring.length∧(∀ x∈ring,0≤x∧x<g)) (fun N hN=>?_) ?_
 ·walk_at "rd"
  by_cases y:(mw:Int)<1
  ·rw [if_pos y]
   refine hfalse (fun ⟨mw',m1,wl',_⟩=>?_) _ (Same.refl _)
   rcases hmw with h | h
   ·have:=pow_inj g2 (h.symm.trans wl')
    lia
   ·exact h.2 mw' wl'
  ·rw [if_neg y]
   have wl:(ws.length:Int)=g^mw:=hmw.resolve_right fun h=>y (by lia)
   refine ⟨Nat.zero_le _,fun p9 hp9=>?_⟩
   have f9:=Same.new hp9 (.lst [])
   refine ⟨ring,SqL.of (f9 _ _ hb),[],SqL.of upd_same,?_⟩
   by_cases z:ring=[]
   ·rw [if_pos z]
    exact hfalse (fun ⟨_,_,_,h,_⟩=>by rw [z] at h;exact absurd h (by decide)) _ f9
   ·rw [if_neg z]
    have r0:0<ring.length:=List.length_pos_iff.mpr z
    refine ⟨ring,SqL.of (f9 _ _ hb),r0,fun mn hmn hml=>?_⟩
    by_cases c:mn<0
    ·rw [if_pos c]
     exact hfalse (fun ⟨_,_,_,_,h,_⟩=>by have:=h mn hmn;lia) _ f9
    ·rw [if_neg c]
     refine ⟨ring,SqL.of (f9 _ _ hb),r0,fun mx hmx hxl=>?_⟩
     by_cases d:g≤mx
     ·rw [if_pos d]
      exact hfalse (fun ⟨_,_,_,_,h,_⟩=>by have:=h mx hmx;lia) _ f9
     ·rw [if_neg d]
      exact hN _ _ ⟨rfl,f9,by lia,wl,r0,fun x hx=>by have:=hml x hx;have:=hxl x hx;lia⟩
 rintro σ HY ⟨rfl,eY,mw1,wl,r0,rb⟩
 refine hide fun N hN=>?_
 walk_at "rd"
 refine ⟨Nat.zero_le _,fun p hp=>hN _ _ ?_⟩
 clear hN N
 have e1:=eY.trans (Same.new hp (.lst []))
 have hp':=eY.free hp
 have rl:=ringL_len g 0 tab m ring
 have rlt:=ringL_lt g2 0 ok.tb m ring
 refine cut (fun σ HZ=>(∃ x6 x7 x8 x9,σ=[some (.ref r),some (.ref a),some (.ref b),some (.int g),some (.int ((mw:Nat):Int)),some (.ref p),x6,x7,x8,x9])∧Same HX HZ∧HZ p=some (.lst ((ringL g 0 tab m ring).map V.int))) (fun N hN=>?_) ?_
 ·refine ⟨_,rfl,b,_,rfl,.inl (SqL.of (e1 _ _ hb)),_,rfl,by rw [hrl];lia,by rw [hrl];lia,?_⟩
  rw [hrl,Int.toNat_natCast]
  refine for_range (n:=ring.length) (fun i σ HZ=>(∃ x6 x7 x8 x9,σ=[some (.ref r),some (.ref a),some (.ref b),some (.int g),some (.int ((mw:Nat):Int)),some (.ref p),x6,x7,x8,x9])∧Same HX HZ∧HZ p=some (.lst (((ringL g 0 tab m ring).take i).map V.int))) ⟨⟨_,_,_,_,rfl⟩,e1,upd_same⟩ ?_ ?_
  ·rintro i σ HZ0 hi ⟨⟨x6,x7,x8,x9,rfl⟩,eX,hX⟩
   refine hide fun N2 hN2=>?_
   walk_at "rd"
   refine hN2 _ _ ?_
   clear hN2 N2
   rw [Int.zero_add]
   refine hide fun N2 hN2=>?_
   walk_at "rd"
   refine ⟨r,_,2,_,rfl,rfl,SqT.of (eX _ _ h1),rfl,tb,rfl,_,.inr (SqT.of (eX _ _ h2)),hN2 _ _ ?_⟩
   clear hN2 N2
   rw [List.length_map,tl]
   refine hide fun N2 hN2=>?_
   walk_at "rd"
   refine hN2 _ _ ?_
   clear hN2 N2
   have rA:∀ z:Int,0≤ringAt ring z∧ringAt ring z<g:=fun z=>by
    have:=ringW_lt g2 rb 1 z (ringAt ring z) (by rw [ringW_snoc];exact List.mem_append_right _ (by rw [show z+((0:Nat):Int)=z by lia];exact List.mem_singleton.mpr rfl))
    exact this
   refine cut (fun σ HY=>(∃ x6 x7,σ=[some (.ref r),some (.ref a),some (.ref b),some (.int g),some (.int ((mw:Nat):Int)),some (.ref p),some (.int ((i:Nat):Int)),some (.int (num g (ringW ring m (i:Int)))),x6,x7])∧HY=HZ0) (fun N2 hN2=>?_) ?_
   ·refine while_by (fun σ HY=>∃ t:Nat,t≤m∧σ=[some (.ref r),some (.ref a),some (.ref b),some (.int g),some (.int ((mw:Nat):Int)),some (.ref p),some (.int ((i:Nat):Int)),some (.int (num g (ringW ring t (i:Int)))),some (.int (g^(m - t))),some (.int ((i:Int)+(t:Int)))]∧HY=HZ0)
     (fun (σ:St) (HY:Hp)=>match σ[8]? with | some (some (V.int x))=>x.toNat | _=>0) ⟨0,Nat.zero_le _,by rw [Nat.sub_zero,show (i:Int)+((0:Nat):Int)=(i:Int) by lia];rfl,rfl⟩ ?_ ?_
    ·rintro σ HY ⟨t,tm,rfl,rfl⟩
     walk_at "rd"
     by_cases z:1<g^(m - t)
     ·rw [if_pos z]
      have tl:t<m:=by
       refine Nat.lt_of_not_le fun w=>?_
       rw [show m - t=0 by lia,Int.pow_zero] at z
       lia
      have ps:g^(m - t) / g=g^(m - (t+1)):=by
       rw [show m - t=m - (t+1)+1 by lia,Int.pow_succ,Int.mul_ediv_cancel _ (by lia)]
      have pp:=RW.pow_pos g2 (m - (t+1))
      have pq:g^(m - t)=g^(m - (t+1))*g:=by rw [show m - t=m - (t+1)+1 by lia,Int.pow_succ]
      have p3:=Int.mul_le_mul_of_nonneg_left g2 (Int.le_of_lt pp)
      have l0:(0:Int)<(ring.length:Int):=by lia
      have k0:=Int.emod_nonneg ((i:Int)+(t:Int)) (show (ring.length:Int)≠0 by lia)
      have k1:=Int.emod_lt_of_pos ((i:Int)+(t:Int)) l0
      refine ⟨.inr ⟨by lia,by lia⟩,_,.inl (SqL.of (eX _ _ hb)),by rw [List.length_map];exact l0,?_⟩
      rw [List.length_map]
      refine ⟨b,_,_,_,rfl,rfl,SqL.of (eX _ _ hb),getAtZ k0 (by lia),_,rfl,by lia,by lia,⟨t+1,by lia,?_,ps,by lia,rfl⟩,?_⟩
      ·rw [ringW_snoc,num_snoc]
       rfl
      ·rw [ps]
       lia
     ·rw [if_neg z]
      have tm':t=m:=by
       refine Nat.le_antisymm tm (Nat.le_of_not_lt fun w=>z ?_)
       have pp:=RW.pow_pos g2 (m - (t+1))
       have p3:=Int.mul_le_mul_of_nonneg_left g2 (Int.le_of_lt pp)
       rw [show m - t=m - (t+1)+1 by lia,Int.pow_succ]
       lia
      subst tm'
      exact hN2 _ _ ⟨⟨_,_,rfl⟩,rfl⟩
    ·intro σ HZ Q1 Q2 hq
     walk_at "rd"
     rintro ⟨v,h1,i',e1,hh⟩
     exact ⟨v,h1,i',e1,hq _ _ hh⟩
   rintro σ HY ⟨⟨x6',x7',rfl⟩,rfl⟩
   have wl:=ringW_lt g2 rb m (i:Int)
   obtain ⟨w0,w1⟩:=num_lt g2 wl
   rw [ringW_len,←tl] at w1
   have Rat:(ringL g 0 tab m ring)[i]?=some (tab.getD (num g (ringW ring m (i:Int))).toNat 0):=by
    unfold ringL
    rw [List.getElem?_map,List.getElem?_range hi]
    show some (tab.getD (num g (ringW ring m ((i:Int)+0))).toNat 0)=_
    rw [Int.add_zero]
   walk_at "rd"
   refine ⟨.inl ⟨_,SqL.of hX⟩,r,_,2,_,rfl,rfl,SqT.of (eX _ _ h1),rfl,tb,_,_,_,rfl,rfl,SqT.of (eX _ _ h2),getAtZ w0 (by lia),_,hX,?_,⟨_,rfl⟩,eX.into hp',?_⟩
   ·rw [List.length_map,List.length_take]
    exact small1000 (by lia)
   ·rw [upd_same,List.take_succ,Rat,List.map_append]
    rfl
  ·rintro σ HZ0 ⟨⟨x6,x7,x8,x9,rfl⟩,eX,hX⟩
   rw [←rl,List.take_length] at hX
   exact hN _ _ ⟨⟨_,_,_,_,rfl⟩,eX,hX⟩
 rintro σ HZ ⟨⟨x6,x7,x8,x9,rfl⟩,eZ,pZ⟩
 have m8:mw≤40:=by
  by_cases y:mw≤40
  ·exact y
  ·exfalso
   have a:=pow_mono g2 (show 10≤mw by lia)
   have b:=pow_ge2 g2 10
   have:(2:Int)^10=1024:=by decide
   lia
 walk_at "rd"
 refine ⟨a,b,g,ws,ring,mw,rfl,g2,g9,eZ _ _ ha,wl,mw1,m8,eZ _ _ hb,rb,r0,r1,?_⟩
 refine ⟨a,p,g,ws,_,mw,rfl,g2,g9,eZ _ _ ha,wl,mw1,m8,pZ,rlt,by rw [rl];exact r0,by rw [rl];exact r1,rfl,?_⟩
 have tlow:=total_led g2 lo tab ok.m1 ws mw1 rb r0
 refine q _ _ eZ ?_
 rw [Bool.not_eq_true',decide_eq_false_iff_not]
 constructor
 ·intro z
  exact ⟨mw,mw1,wl,r0,rb,fun e=>z (by rw [e,tlow])⟩
 ·rintro ⟨mw',m1',wl',_,_,h⟩ z
  have:mw=mw':=pow_inj g2 (wl.symm.trans wl')
  subst this
  exact h ((V.int.inj z).trans tlow.symm)
theorem sc_40:FnScope ["_law_script","_law_signs","_law_way","_law_ring_here","_law_at"] ["_law_script","_law_signs","_law_way"] (defScope s_40):=⟨rfl,rfl,rfl,by decide +kernel,rfl,by decide +kernel,by decide +kernel⟩
theorem ok_40 (T:Txt K mg t) (G_11:Has P w K mg base 1 t.f_11 ["_law_script","_law_k"] (spCell K)):Has P w K mg base 2 t.f_40 ["_law_script","_law_signs","_law_way"] (spRing73 K):=by
 refine has_mk0 T.d_40 sc_40 (fun _ _ _ _ _ _ us hl=>match us,hl with | [_,_,_],_=>rfl) (fun vs H Q E h=>?_) (fun cdv A outer s H vs Q E hr h=>?_)
 ·obtain ⟨a,ns,g,way,rfl,hS,h63,g2,g9,q⟩:=h
  rfl
 obtain ⟨a,ns,g,way,rfl,hS,h63,g2,g9,q⟩:=h
 refine ⟨_,(pss_cons (ps_comp (iy:=3) (fv:=[(1,"_law_signs")]) (cl:=[("_law_signs",_)]) rfl sc_40.nd rfl (Or.inl rfl) (pi_list (pe_slice sl_list (pv 0) (po_some pe_int) (po_some pe_int))) (by with_unfolding_all rfl) (by with_unfolding_all rfl) (by decide +kernel) rfl (by decide +kernel) rfl ⟨(by with_unfolding_all rfl),trivial⟩ (by with_unfolding_all rfl) ⟨⟨rfl,rfl,(by with_unfolding_all rfl),rfl⟩,trivial⟩ (by decide) (fun _ _ _ _=>pf_nil) (fun _ _ _ _=>(pe_op op_mod (pe_op op_fdiv (pv 0) pe_int) (pv 1))))
  (pss_cons (ps_set (i:=4) sc_40.nd rfl (Or.inl rfl) (pe_op op_mod (pe_op op_fdiv (pe_callH G_11 (hr.mono (by decide)) rfl T.m_11 passF (pa_cons (pv 0) (pa_consC pa_nil))) pe_int) (pe_op op_add (pe_callB call_len_seq rfl T.z_len PySem.boot_len (pa_cons (pv 3) pa_nil)) pe_int)))
  (pss_cons (ps_if (pt_cmpR op_eq (pv 2) pe_int (nomark _)) (pss_one (ps_ret (pe_lst pa_nil))) pss_nil)
  (pss_cons (ps_if (pt_cmpR op_eq (pv 2) pe_int (nomark _)) (pss_one (ps_ret (pe_op op_cat (pe_op op_cat (pe_slice sl_list (pv 3) po_none (po_some (pv 4))) (pe_lst (pa_cons (pe_op op_add (pv 1) (pe_op op_mod (pe_callH G_11 (hr.mono (by decide)) rfl T.m_11 passF (pa_cons (pv 0) (pa_consC pa_nil))) pe_int)) pa_nil))) (pe_slice sl_list (pv 3) (po_some (pv 4)) po_none)))) pss_nil)
  (pss_cons (ps_if (pt_cmpR op_eq (pv 2) pe_int (nomark _)) (pss_one (ps_ret (pe_op op_cat (pe_op op_cat (pe_slice sl_list (pv 3) po_none (po_some (pv 4))) (pe_lst (pa_cons (pe_op op_sub (pe_op op_sub pe_int pe_int) (pe_op op_mod (pe_callH G_11 (hr.mono (by decide)) rfl T.m_11 passF (pa_cons (pv 0) (pa_consC pa_nil))) pe_int)) pa_nil))) (pe_slice sl_list (pv 3) (po_some (pv 4)) po_none)))) pss_nil)
  (pss_one (ps_ret (pe_op op_cat (pv 3) (pe_lst (pa_cons (pe_op op_mod (pv 4) (pv 1)) pa_nil)))))))))),?_⟩
 refine hide fun N hN=>?_
 refine ⟨_,rfl,3,rfl,63,rfl,sl_new hS fun p1 H3 e3 _ h3=>⟨p1,rfl,⟨_,SqL.of h3⟩,fun D hD=>?_⟩⟩
 rw [cutV_int] at h3
 obtain ⟨cs,hcs⟩:∃ cs:List Int,cs=cutI ns (some 3) (some 63):=⟨_,rfl⟩
 rw [←hcs] at h3
 have cl:cs.length≤63:=by
  rw [hcs]
  exact Nat.le_trans (cut_len _ _ _) h63
 refine comp_list (xs:=cs.map V.int) (fun i acc Hx=>acc=((cs.take i).map (· / 7%g)).map V.int∧Same H3 Hx∧Hx D=some (.lst acc)) ⟨rfl,Same.new hD _,upd_same⟩ (fun i acc Hx _ z=>SqL.of (z.2.1 _ _ h3)) ?_ ?_
 ·rintro i x acc Hx hx ⟨rfl,ex,hDx⟩
  obtain ⟨v,hv,rfl⟩:=getInt hx
  have hi:=(List.getElem?_eq_some_iff.mp hv).1
  walk_at "rd"
  refine ⟨by decide,by decide,by lia,hDx,?_,?_,ex.into hD,upd_same⟩
  ·rw [List.length_map,List.length_map,List.length_take]
   exact small1000 (by lia)
  ·rw [List.take_succ,hv]
   simp
 rintro acc H4 ⟨rfl,e4,h4⟩
 rw [List.length_map,List.take_length] at h4
 refine hN _ _ ?_
 clear hN N
 have e14:=e3.trans e4
 obtain ⟨rg,hrg⟩:∃ rg,rg=cs.map (· / 7%g):=⟨_,rfl⟩
 rw [←hrg] at h4
 have rgl:rg.length≤63:=by rw [hrg,List.length_map];exact cl
 refine hide fun N hN=>?_
 walk_at "rd"
 refine ⟨a,ns,2,rfl,e14.seq hS,h63,?_⟩
 refine ⟨_,rfl,by decide,by decide,_,.inl (SqL.of h4),by lia,hN _ _ ?_⟩
 clear hN N
 rw [List.length_map]
 have y0:=Int.emod_nonneg (ns.getD 2 0 / 2) (show ((rg.length:Nat):Int)+1≠0 by lia)
 have y1:=Int.emod_lt_of_pos (ns.getD 2 0 / 2) (show (0:Int)<((rg.length:Nat):Int)+1 by lia)
 obtain ⟨at',hat⟩:∃ at':Nat,(at':Int)=ns.getD 2 0 / 2%(((rg.length:Nat):Int)+1):=⟨_,Int.toNat_of_nonneg y0⟩
 rw [←hat]
 walk_at "rd"
 split
 ·refine ⟨Nat.zero_le _,fun p9 hp9=>?_⟩
  exact q p9 _ [] ⟨e14.trans (Same.new hp9 _),e14.free hp9,upd_same⟩ (Nat.zero_le _)
 split
 ·refine sl_new (SqL.of h4) fun p2 H5 e5 _ h5=>?_
  rw [cutV_int] at h5
  have l5:=cut_len rg none (some ((at':Nat):Int))
  refine ⟨a,ns,3,rfl,(e14.trans e5).seq hS,h63,_,rfl,by decide,by decide,fun p6 hp6=>?_⟩
  have f6:=Same.new hp6 (.lst [V.int (g+ns.getD 3 0%3)])
  refine cat_new (f6 _ _ h5) upd_same (by rw [List.length_map];show _+1≤1000;lia) fun p7 H7 e7 _ h7=>?_
  refine sl_new (SqL.of ((f6.trans e7) _ _ (e5 _ _ h4))) fun p8 H8 e8 _ h8=>?_
  rw [cutV_int] at h8
  have l8:=cut_len rg (some ((at':Nat):Int)) none
  refine cat_new (e8 _ _ h7) h8 (by rw [List.length_append,List.length_map,List.length_map];show _+1+_≤1000;lia) fun p9 H9 e9 n9 h9=>?_
  have ee:=(((e14.trans e5).trans f6).trans e7).trans e8
  refine q p9 H9 (cutI rg none (some ((at':Nat):Int))++[g+ns.getD 3 0%3]++cutI rg (some ((at':Nat):Int)) none) ⟨ee.trans e9,ee.free n9,?_⟩ (by rw [List.length_append,List.length_append];show _+1+_≤200;lia)
  rw [h9,List.map_append,List.map_append]
  rfl
 split
 ·refine sl_new (SqL.of h4) fun p2 H5 e5 _ h5=>?_
  rw [cutV_int] at h5
  have l5:=cut_len rg none (some ((at':Nat):Int))
  refine ⟨a,ns,3,rfl,(e14.trans e5).seq hS,h63,_,rfl,by decide,by decide,fun p6 hp6=>?_⟩
  have f6:=Same.new hp6 (.lst [V.int (0 - 1 - ns.getD 3 0%3)])
  refine cat_new (f6 _ _ h5) upd_same (by rw [List.length_map];show _+1≤1000;lia) fun p7 H7 e7 _ h7=>?_
  refine sl_new (SqL.of ((f6.trans e7) _ _ (e5 _ _ h4))) fun p8 H8 e8 _ h8=>?_
  rw [cutV_int] at h8
  have l8:=cut_len rg (some ((at':Nat):Int)) none
  refine cat_new (e8 _ _ h7) h8 (by rw [List.length_append,List.length_map,List.length_map];show _+1+_≤1000;lia) fun p9 H9 e9 n9 h9=>?_
  have ee:=(((e14.trans e5).trans f6).trans e7).trans e8
  refine q p9 H9 (cutI rg none (some ((at':Nat):Int))++[0 - 1 - ns.getD 3 0%3]++cutI rg (some ((at':Nat):Int)) none) ⟨ee.trans e9,ee.free n9,?_⟩ (by rw [List.length_append,List.length_append];show _+1+_≤200;lia)
  rw [h9,List.map_append,List.map_append]
  rfl
 ·refine ⟨by lia,by decide,fun p6 hp6=>?_⟩
  have f6:=Same.new hp6 (.lst [V.int ((at':Int)%g)])
  refine cat_new (f6 _ _ h4) upd_same (by rw [List.length_map];show _+1≤1000;lia) fun p9 H9 e9 n9 h9=>?_
  refine q p9 H9 (rg++[(at':Int)%g]) ⟨(e14.trans f6).trans e9,(e14.trans f6).free n9,?_⟩ (by rw [List.length_append];show _+1≤200;lia)
  rw [h9,List.map_append]
  rfl
theorem sc_39:FnScope ["_law_found","_law_due","_law_number"] ["_law_found","_law_due"] (defScope s_39):=⟨rfl,rfl,rfl,by decide +kernel,rfl,by decide +kernel,by decide +kernel⟩
theorem ok_39 (T:Txt K mg t) (G_31:Has P w K mg base 1 t.f_31 ["_law_found"] (spWhole)):Has P w K mg base 2 t.f_39 ["_law_found","_law_due"] (spList73):=by
 refine has_mk0 T.d_39 sc_39 (fun _ _ _ _ _ _ us hl=>match us,hl with | [_,_],_=>rfl) (fun vs H Q E h=>?_) (fun cdv A outer s H vs Q E hr h=>?_)
 ·obtain ⟨p,q',ns,rfl,hp,hq,q⟩:=h
  rfl
 obtain ⟨p,q',ns,rfl,hp,hq,q⟩:=h
 refine ⟨_,(pss_cons (ps_if (PW.pt (pw_or (pt_not (pt_val (pe_isi rfl T.z_isinstance (pv 0) (pe_ty rfl T.z_list PyProof.Rows.boot_list)))) (pw_or1 (pt_cmpR op_ne (pe_callB call_len_seq rfl T.z_len PySem.boot_len (pa_cons (pv 0) pa_nil)) (pe_callB call_len_seq rfl T.z_len PySem.boot_len (pa_cons (pv 1) pa_nil)) (nomark _))))) (pss_one (ps_ret pe_bl)) pss_nil)
  (pss_cons (ps_for PassesOwn.never rfl (pi_list (pv 0)) (pg_name (i:=2) sc_39.nd rfl (Or.inl rfl)) (pss_one (ps_if (pt_not (pt_val (pe_callH G_31 (hr.mono (by decide)) rfl T.m_31 passF (pa_cons (pv 2) pa_nil)))) (pss_one (ps_ret pe_bl)) pss_nil)))
  (pss_one (ps_ret (pe_cmpR (op_eqL hr.units) (pv 0) (pv 1) (nomark _)))))),?_⟩
 refine cut (fun σ HX=>σ=[some (.ref p),some (.ref q'),none]∧HX=H) (fun N hN=>?_) ?_
 ·walk_at "rd"
  refine ⟨_,.of (.lst hp),_,ki_ll,?_⟩
  rw [if_neg (by decide)]
  refine ⟨_,.inl (SqL.of hp),_,.inl (SqL.of hq),?_⟩
  rw [if_neg (fun z=>z rfl)]
  exact hN _ _ ⟨rfl,rfl⟩
 rintro σ HX ⟨rfl,rfl⟩
 refine cut (fun σ HY=>(∃ x,σ=[some (.ref p),some (.ref q'),x])∧HY=HX) (fun N hN=>?_) ?_
 ·refine ⟨_,rfl,p,rfl,⟨_,SqL.of hp⟩,?_⟩
  refine for_list (xs:=ns.map V.int) (fun i σ HY=>(∃ x,σ=[some (.ref p),some (.ref q'),x])∧HY=HX) ⟨⟨_,rfl⟩,rfl⟩ (fun i σ HY _ z=>by rw [z.2];exact SqL.of hp) ?_ fun σ HY z=>hN _ _ z
  rintro i x σ HY hx ⟨⟨y,rfl⟩,rfl⟩
  obtain ⟨v,hv,rfl⟩:=getInt hx
  walk_at "rd"
  refine ⟨.int _,rfl,True.intro,true,rfl,?_⟩
  rw [if_neg (by decide)]
  exact ⟨⟨_,rfl⟩,rfl⟩
 rintro σ HY ⟨⟨x,rfl⟩,rfl⟩
 walk_at "rd"
 refine ⟨ns,SqL.of hp,ns,SqL.of hq,?_⟩
 rw [decide_eq_true rfl]
 exact q
theorem sc_19:FnScope ["_law_one","_law_cell","_law_signs","_law_table_here","_law_at"] ["_law_one","_law_cell"] (defScope s_19):=⟨rfl,rfl,rfl,by decide +kernel,rfl,by decide +kernel,by decide +kernel⟩
theorem ok_19 (T:Txt K mg t) :Has P w K mg base 1 t.f_19 ["_law_one","_law_cell"] (spSecond73):=by
 refine has_mk0 T.d_19 sc_19 (fun _ _ _ _ _ _ us hl=>match us,hl with | [_,_],_=>rfl) (fun vs H Q E h=>?_) (fun cdv A outer s H vs Q E hr h=>?_)
 ·obtain ⟨r,c,g,lo,tab,m,rfl,ok,q⟩:=h
  rfl
 obtain ⟨r,c,g,lo,tab,m,rfl,ok,q⟩:=h
 refine ⟨_,(pss_cons (ps_set (i:=2) sc_19.nd rfl (Or.inr rfl) (pe_ix ix_tup (pv 0) pe_int (fun _ _=>rfl)))
  (pss_cons (ps_set (i:=3) sc_19.nd rfl (Or.inl rfl) (pe_callTy call_list_of rfl T.z_list PyProof.Rows.boot_list (pa_cons (pe_ix ix_tup (pv 0) pe_int (fun _ _=>rfl)) pa_nil)))
  (pss_cons (ps_if (pt_cmpR op_eq (pe_op op_mod (pv 1) pe_int) pe_int (nomark _)) (pss_one (ps_ret (pe_tup (pa_cons (pv 2) (pa_cons (pe_op op_add (pe_ix ix_tup (pv 0) pe_int (fun _ _=>rfl)) pe_int) (pa_cons (pe_callTy call_tuple_of rfl T.z_tuple PyProof.Rows.boot_tuple (pa_cons (pe_comp (fv:=[(2,"_law_signs")]) (cl:=[("_law_signs",_)]) rfl (pi_list (pv 3)) (by with_unfolding_all rfl) (by decide +kernel) rfl (by decide +kernel) rfl ⟨(by with_unfolding_all rfl),trivial⟩ (by with_unfolding_all rfl) ⟨⟨rfl,rfl,(by with_unfolding_all rfl),rfl⟩,trivial⟩ (by decide) (fun _ _ _ _=>pf_nil) (fun _ _ _ _=>(pe_op op_sub (pe_op op_sub (pv 1) pe_int) (pv 0)))) pa_nil)) pa_nil)))))) pss_nil)
  (pss_cons (ps_set (i:=4) sc_19.nd rfl (Or.inl rfl) (pe_op op_mod (pe_op op_fdiv (pv 1) pe_int) (pe_callB call_len_seq rfl T.z_len PySem.boot_len (pa_cons (pv 3) pa_nil))))
  (pss_cons (ps_asg (pe_op op_mod (pe_op op_add (pe_ix ix_list (pv 3) (pv 4) (fun _ _=>rfl)) pe_int) (pv 2)) (pg_sub (pv 3) (pv 4) set_list))
  (pss_one (ps_ret (pe_tup (pa_cons (pv 2) (pa_cons (pe_ix ix_tup (pv 0) pe_int (fun _ _=>rfl)) (pa_cons (pe_callTy call_tuple_of rfl T.z_tuple PyProof.Rows.boot_tuple (pa_cons (pv 3) pa_nil)) pa_nil))))))))))),?_⟩
 obtain ⟨tb,h1,h2⟩:=id ok.v
 have g2:=ok.g2
 have g9:=ok.g9
 have gm:=RW.pow_pos g2 m
 have tl:=ok.len
 have sz:=ok.sz
 refine hide fun N hN=>?_
 walk_at "rd"
 refine ⟨r,_,0,_,rfl,rfl,SqT.of h1,rfl,hN _ _ ?_⟩
 clear hN N
 refine hide fun N hN=>?_
 walk_at "rd"
 refine ⟨r,_,2,_,rfl,rfl,SqT.of h1,rfl,tb,rfl,_,.inr (SqT.of h2),fun p hp=>hN _ _ ?_⟩
 clear hN N
 have e1:=Same.new hp (.lst (tab.map V.int))
 refine cut (fun σ HX=>σ=[some (.ref r),some (.int c),some (.int g),some (.ref p),none]∧HX=upd H p (.lst (tab.map V.int))) (fun N hN=>?_) ?_
 ·walk_at "rd"
  refine ⟨by decide,?_⟩
  by_cases y:c%3=0
  ·rw [if_pos y]
   refine ⟨r,_,1,_,rfl,rfl,SqT.of (e1 _ _ h1),rfl,_,rfl,?_⟩
   refine ⟨_,rfl,p,rfl,⟨_,SqL.of upd_same⟩,fun D hD=>?_⟩
   refine comp_list (xs:=tab.map V.int) (fun i acc Hx=>acc=((tab.take i).map fun x=>g - 1 - x).map V.int∧Same (upd H p (.lst (tab.map V.int))) Hx∧Hx D=some (.lst acc)) ⟨rfl,Same.new hD _,upd_same⟩ (fun i acc Hx _ z=>SqL.of (z.2.1 _ _ upd_same)) ?_ ?_
   ·rintro i x acc Hx hx ⟨rfl,ex,hDx⟩
    obtain ⟨v,hv,rfl⟩:=getInt hx
    have hi:=(List.getElem?_eq_some_iff.mp hv).1
    walk_at "rd"
    refine ⟨hDx,?_,?_,ex.into hD,upd_same⟩
    ·rw [List.length_map,List.length_map,List.length_take]
     exact small1000 (by lia)
    ·rw [List.take_succ,hv]
     simp
   rintro acc H2 ⟨rfl,e2,h2'⟩
   rw [List.length_map,List.take_length] at h2'
   refine ⟨D,rfl,_,.inl ⟨SqL.of h2',fun l hl=>⟨by decide,fun p9 hp9=>?_⟩⟩⟩
   have f8:=Same.new hl (.tup ((tab.map fun x=>g - 1 - x).map V.int))
   have f9:=Same.new hp9 (.tup [.int g,.int (lo+1),.ref l])
   refine q p9 _ (lo+1) (tab.map fun x=>g - 1 - x) (((e1.trans e2).trans f8).trans f9) ⟨⟨l,upd_same,f9 _ _ upd_same⟩,g2,g9,ok.m1,ok.m8,by rw [List.length_map];exact tl,sz,fun n hn=>?_⟩
   obtain ⟨x,hx,rfl⟩:=List.mem_map.mp hn
   have:=ok.tb x hx
   lia
  ·rw [if_neg y]
   exact hN _ _ ⟨rfl,rfl⟩
 rintro σ HX ⟨rfl,rfl⟩
 walk_at "rd"
 refine ⟨by decide,by decide,_,.inl (SqL.of upd_same),by rw [List.length_map];lia,?_⟩
 rw [List.length_map]
 have y0:=Int.emod_nonneg (c / 3) (show (tab.length:Int)≠0 by lia)
 have y1:=Int.emod_lt_of_pos (c / 3) (show 0<(tab.length:Int) by lia)
 obtain ⟨s',hs'⟩:∃ s':Nat,(s':Int)=c / 3%(tab.length:Int):=⟨_,Int.toNat_of_nonneg y0⟩
 rw [←hs']
 have sl:s'<tab.length:=by lia
 refine ⟨p,_,_,_,rfl,rfl,SqL.of upd_same,getAt sl,_,rfl,by lia,_,rfl,_,rfl,p,_,((s':Nat):Int),s',rfl,rfl,upd_same,(by rw [List.length_map];exact ixN_nat sl),?_⟩
 rw [←List.map_set]
 have e3:=e1.into hp (o:=.lst ((tab.set s' ((tab.getD s' 0+1)%g)).map V.int))
 obtain ⟨tab',htab⟩:∃ tab',tab'=tab.set s' ((tab.getD s' 0+1)%g):=⟨_,rfl⟩
 rw [←htab] at e3 ⊢
 have p3:upd (upd H p (.lst (tab.map V.int))) p (.lst (tab'.map V.int)) p=some (.lst (tab'.map V.int)):=upd_same
 generalize upd (upd H p (.lst (tab.map V.int))) p (.lst (tab'.map V.int))=H3 at e3 p3 ⊢
 walk_at "rd"
 refine ⟨r,_,1,_,rfl,rfl,SqT.of (e3 _ _ h1),rfl,_,.inl ⟨SqL.of p3,fun l hl=>⟨by decide,fun p9 hp9=>?_⟩⟩⟩
 have f8:=Same.new hl (.tup (tab'.map V.int))
 have f9:=Same.new hp9 (.tup [.int g,.int lo,.ref l])
 refine q p9 _ lo tab' ((e3.trans f8).trans f9) ⟨⟨l,upd_same,f9 _ _ upd_same⟩,g2,g9,ok.m1,ok.m8,by rw [htab,List.length_set];exact tl,sz,fun n hn=>?_⟩
 rw [htab] at hn
 rcases List.mem_or_eq_of_mem_set hn with z | z
 ·exact ok.tb n z
 ·rw [z]
  exact ⟨Int.emod_nonneg _ (by lia),Int.emod_lt_of_pos _ (by lia)⟩
theorem sc_24:FnScope ["_law_paper","_law_rules","_law_parts","_law_dues","_law_k","_law_found","_law_truth"] ["_law_paper","_law_rules","_law_parts","_law_dues"] (defScope s_24):=⟨rfl,rfl,rfl,by decide +kernel,rfl,by decide +kernel,by decide +kernel⟩
theorem ok_24 (T:Txt K mg t) (G_39:Has P w K mg base 2 t.f_39 ["_law_found","_law_due"] (spList73)) (G_4:Has P w K mg base 1 t.f_4 ["self"] (spTld t.c_10 "weights" "flows")) (G_5:Has P w K mg base 1 t.f_5 ["self"] (spTld t.c_18 "weights" "ring")) (G_2:Has P w K mg base 9 t.f_2 ["self","one"] (spHldK t.c_51 t.c_10)) (G_3:Has P w K mg base 9 t.f_3 ["self","one"] (spHldC t.c_51 t.c_18)):Has P w K mg base 10 t.f_24 ["_law_paper","_law_rules","_law_parts","_law_dues"] (spAsked73 t.c_51 t.c_10 t.c_18):=by
 refine has_mk0 T.d_24 sc_24 (fun _ _ _ _ _ _ us hl=>match us,hl with | [_,_,_,_],_=>rfl) (fun vs H Q E h=>?_) (fun cdv A outer s H vs Q E hr h=>?_)
 ·obtain ⟨x,pr,pp,pd,r0,r1,a0,a1,b0,b1,xs,ys,rfl,hpr,hpp,hpd,ha0,ha1,xl,yl,alt,q⟩:=h
  rfl
 obtain ⟨x,pr,pp,pd,r0,r1,a0,a1,b0,b1,xs,ys,rfl,hpr,hpp,hpd,ha0,ha1,xl,yl,alt,q⟩:=h
 refine ⟨_,(pss_cons (ps_for PassesOwn.never rfl (pi_list (pe_lst (pa_consC (pa_consC (pa_consC pa_nil))))) (pg_name (i:=4) sc_24.nd rfl (Or.inl rfl)) (pss_cons (ps_set (i:=5) sc_24.nd rfl (Or.inl rfl) (pe_alt (pe_meth0H (pv 0) T.th_10.cl T.me_4 G_4 (hr.mono (by decide)) passF) (pe_meth0H (pv 0) T.th_18.cl T.me_5 G_5 (hr.mono (by decide)) passF)))
  (pss_cons (ps_if (PW.pt (pw_or (pt_not (pt_val (pe_isi rfl T.z_isinstance (pv 5) (pe_ty rfl T.z_tuple PyProof.Rows.boot_tuple)))) (pw_or1 (pt_cmpR op_ne (pe_callB call_len_seq rfl T.z_len PySem.boot_len (pa_cons (pv 5) pa_nil)) pe_int (nomark _))))) (pss_one (ps_ret pe_bl)) pss_nil)
  (pss_cons (ps_if (PW.pt (pw_or (pt_not (pt_val (pe_callH G_39 (hr.mono (by decide)) rfl T.m_39 passF (pa_cons (pe_ix ix_tup (pv 5) pe_int (fun _ _=>rfl)) (pa_cons (pe_ix ix_list (pv 2) pe_int (fun _ _=>rfl)) pa_nil))))) (pw_or1 (pt_not (pt_val (pe_callH G_39 (hr.mono (by decide)) rfl T.m_39 passF (pa_cons (pe_ix ix_tup (pv 5) pe_int (fun _ _=>rfl)) (pa_cons (pe_ix ix_list (pv 2) pe_int (fun _ _=>rfl)) pa_nil)))))))) (pss_one (ps_ret pe_bl)) pss_nil)
  (pss_cons (ps_expr (pe_bm PySem.F.plainAttrs_list PySem.F.slot_list_append PySem.F.type_list_append mt_append (pe_ix ix_tup (pv 5) (pv 4) (fun _ _=>rfl)) (pa_consC pa_nil)))
  (pss_cons (ps_set (i:=6) sc_24.nd rfl (Or.inl rfl) (pe_alt (pe_methH (pv 0) T.th_10.cl T.me_2 G_2 (hr.mono (by decide)) passF (pa_cons (pe_ix ix_list (pv 1) (pv 4) (fun _ _=>rfl)) pa_nil)) (pe_methH (pv 0) T.th_18.cl T.me_3 G_3 (hr.mono (by decide)) passF (pa_cons (pe_ix ix_list (pv 1) (pv 4) (fun _ _=>rfl)) pa_nil))))
  (pss_one (ps_if (PW.pt (pw_or (pt_not (pt_val (pe_isi rfl T.z_isinstance (pv 6) (pe_ty rfl T.z_bool PyProof.Rows.boot_bool)))) (pw_or1 (pt_cmpR op_ne (pv 6) (pe_ix ix_list (pv 3) (pv 4) (fun _ _=>rfl)) (nomark _))))) (pss_one (ps_ret pe_bl)) pss_nil))))))))
  (pss_one (ps_ret (pe_and (pe_isi rfl T.z_isinstance (pv 0) (pe_cls rfl T.m_63)) (pe_one (pe_not (pe_isi rfl T.z_isinstance (pv 0) (pe_cls rfl T.m_37)))))))),?_⟩
 refine cut (fun σ HX=>(∃ x4 x5 x6,σ=[some (.ref x),some (.ref pr),some (.ref pp),some (.ref pd),x4,x5,x6])∧Same H HX) (fun N hN=>?_) ?_
 ·refine ⟨by decide,fun L hL=>⟨L,rfl,⟨_,SqL.of upd_same⟩,?_⟩⟩
  have eL:=Same.new hL (.lst [V.int 0,V.int 1,V.int 0])
  refine for_list (xs:=[V.int 0,V.int 1,V.int 0]) (fun i σ HX=>(∃ x4 x5 x6,σ=[some (.ref x),some (.ref pr),some (.ref pp),some (.ref pd),x4,x5,x6])∧Same (upd H L (.lst [V.int 0,V.int 1,V.int 0])) HX) ⟨⟨none,none,none,rfl⟩,Same.refl _⟩ (fun i σ HX _ z=>SqL.of (z.2 _ _ upd_same)) ?_ fun σ HX z=>hN _ _ ⟨z.1,eL.trans z.2⟩
  rintro i v σ HA hv ⟨⟨x4,x5,x6,rfl⟩,eA⟩
  obtain ⟨k,rfl,kk⟩:∃ k:Nat,v=.int (k:Int)∧(k=0∨k=1):=by
   rcases i with _ | _ | _ | i
   ·exact ⟨0,(Option.some.inj hv).symm,.inl rfl⟩
   ·exact ⟨1,(Option.some.inj hv).symm,.inr rfl⟩
   ·exact ⟨0,(Option.some.inj hv).symm,.inl rfl⟩
   ·cases hv
  have eH:=eL.trans eA
  refine cut (fun σ HX=>(∃ (tt p9 q9:Addr),σ=[some (.ref x),some (.ref pr),some (.ref pp),some (.ref pd),some (.int (k:Int)),some (.ref tt),x6]∧HX tt=some (.tup [.ref p9,.ref q9])∧HX p9=some (.lst (xs.map V.int))∧HX q9=some (.lst (ys.map V.int))∧HA p9=none∧HA q9=none∧p9≠q9)∧Same HA HX) (fun N2 hN2=>?_) ?_
  ·rcases alt with ⟨pv',_,_⟩ | ⟨pv',_,_⟩
   ·obtain ⟨dx,p1,p2,k1,k2,k3⟩:=pv'.same eH
    exact .inl ⟨_,rfl,x,dx,_,rfl,k1,rfl,x,xs,ys,rfl,pv'.same eH,fun tt p9 q9 H' e h1 h2 h3 n2 n3 ne=>hN2 _ _ ⟨⟨tt,p9,q9,rfl,h1,h2,h3,n2,n3,ne⟩,e⟩⟩
   ·obtain ⟨dx,p1,p2,k1,k2,k3⟩:=pv'.same eH
    exact .inr ⟨_,rfl,x,dx,_,rfl,k1,rfl,x,xs,ys,rfl,pv'.same eH,fun tt p9 q9 H' e h1 h2 h3 n2 n3 ne=>hN2 _ _ ⟨⟨tt,p9,q9,rfl,h1,h2,h3,n2,n3,ne⟩,e⟩⟩
  rintro σ HX ⟨⟨tt,p9,q9,rfl,h1,h2,h3,n2,n3,ne⟩,eX⟩
  have eHX:=eH.trans eX
  refine hide fun N2 hN2=>?_
  walk_at "rd"
  refine ⟨_,.of (.tup h1),_,ki_tt,?_⟩
  rw [if_neg (by intro z;cases z)]
  refine ⟨_,.inr (SqT.of h1),?_⟩
  rw [if_neg (fun z=>z rfl)]
  refine hN2 _ _ ?_
  clear hN2 N2
  refine hide fun N2 hN2=>?_
  walk_at "rd"
  refine ⟨tt,_,0,_,rfl,rfl,SqT.of h1,rfl,pp,_,0,_,rfl,rfl,SqL.of (eHX _ _ hpp),rfl,p9,a0,xs,rfl,h2,eHX _ _ ha0,true,rfl,?_⟩
  rw [if_neg (by intro z;cases z)]
  refine ⟨tt,_,1,_,rfl,rfl,SqT.of h1,rfl,pp,_,1,_,rfl,rfl,SqL.of (eHX _ _ hpp),rfl,q9,a1,ys,rfl,h3,eHX _ _ ha1,true,rfl,?_⟩
  rw [if_neg (by intro z;cases z)]
  refine hN2 _ _ ?_
  clear hN2 N2
  obtain ⟨rk,bk,hrk,hbk,altk⟩:∃ (rk:Addr) (bk:Bool),atI [V.ref r0,V.ref r1] (k:Int)=some (.ref rk)∧atI [V.bl b0,V.bl b1] (k:Int)=some (.bl bk)∧((PapV H x t.c_10 "weights" "flows" xs ys∧AnsK73 t.c_51 t.c_10 H x rk bk)∨(PapV H x t.c_18 "weights" "ring" xs ys∧AnsC73 t.c_51 t.c_18 H x rk bk)):=by
   rcases kk with rfl | rfl
   ·exact ⟨r0,b0,rfl,rfl,alt.elim (fun z=>.inl ⟨z.1,z.2.1⟩) fun z=>.inr ⟨z.1,z.2.1⟩⟩
   ·exact ⟨r1,b1,rfl,rfl,alt.elim (fun z=>.inl ⟨z.1,z.2.2⟩) fun z=>.inr ⟨z.1,z.2.2⟩⟩
  obtain ⟨zs,z9,hz9,hz,nz,zl⟩:∃ (zs:List Int) (z9:Addr),atI [V.ref p9,V.ref q9] (k:Int)=some (.ref z9)∧HX z9=some (.lst (zs.map V.int))∧HA z9=none∧zs.length≤900:=by
   rcases kk with rfl | rfl
   ·exact ⟨xs,p9,rfl,h2,n2,xl⟩
   ·exact ⟨ys,q9,rfl,h3,n3,yl⟩
  refine cut (fun σ HY=>σ=[some (.ref x),some (.ref pr),some (.ref pp),some (.ref pd),some (.int (k:Int)),some (.ref tt),x6]∧Same HA HY) (fun N2 hN2=>?_) ?_
  ·walk_at "rd"
   refine ⟨tt,_,_,_,rfl,rfl,SqT.of h1,hz9,.inl ⟨_,SqL.of hz⟩,z9,rfl,_,hz,?_,hN2 _ _ ⟨rfl,eX.into nz⟩⟩
   rw [List.length_map]
   exact small1000 (by lia)
  rintro σ HY ⟨rfl,eY⟩
  have eHY:=eH.trans eY
  refine cut (fun σ HZ=>σ=[some (.ref x),some (.ref pr),some (.ref pp),some (.ref pd),some (.int (k:Int)),some (.ref tt),some (.bl bk)]∧Same HA HZ) (fun N2 hN2=>?_) ?_
  ·rcases altk with ⟨pv',an⟩ | ⟨pv',an⟩
   ·obtain ⟨dx,p1,p2,k1,k2,k3⟩:=pv'.same eHY
    refine .inl ⟨_,rfl,x,dx,_,rfl,k1,rfl,_,rfl,_,rfl,pr,_,_,_,rfl,rfl,SqL.of (eHY _ _ hpr),hrk,?_⟩
    dsimp only [tNil]
    refine an HY _ _ eHY ?_
    exact fun H' e=>hN2 _ _ ⟨rfl,eY.trans e⟩
   ·obtain ⟨dx,p1,p2,k1,k2,k3⟩:=pv'.same eHY
    refine .inr ⟨_,rfl,x,dx,_,rfl,k1,rfl,_,rfl,_,rfl,pr,_,_,_,rfl,rfl,SqL.of (eHY _ _ hpr),hrk,?_⟩
    dsimp only [tNil]
    refine an HY _ _ eHY ?_
    exact fun H' e=>hN2 _ _ ⟨rfl,eY.trans e⟩
  rintro σ HZ ⟨rfl,eZ⟩
  walk_at "rd"
  have eHZ:=eH.trans eZ
  refine ⟨_,.of (.bl bk),_,ki_bb,?_⟩
  rw [if_neg (by intro z;cases z)]
  refine ⟨pd,_,_,_,rfl,rfl,SqL.of (eHZ _ _ hpd),hbk,rfl,?_⟩
  rw [if_neg (fun z=>z rfl)]
  exact ⟨⟨_,rfl⟩,eA.trans eZ⟩
 rintro σ HX ⟨⟨x4,x5,x6,rfl⟩,eX⟩
 walk_at "rd"
 rcases alt with ⟨pv',_,_⟩ | ⟨pv',_,_⟩
 ·obtain ⟨dx,p1,p2,k1,k2,k3⟩:=pv'.same eX
  refine ⟨_,T.th_10.ty k1,_,T.kt_10_63,?_⟩
  rw [if_pos rfl]
  exact ⟨_,T.th_10.ty k1,_,T.kt_10_37,q _ eX⟩
 ·obtain ⟨dx,p1,p2,k1,k2,k3⟩:=pv'.same eX
  refine ⟨_,T.th_18.ty k1,_,T.kt_18_63,?_⟩
  rw [if_pos rfl]
  exact ⟨_,T.th_18.ty k1,_,T.kt_18_37,q _ eX⟩
theorem sc_14:FnScope ["_law_paper","_law_cell","_law_signs","_law_part","_law_table_here","_law_came","error"] ["_law_paper","_law_cell"] (defScope s_14):=⟨rfl,rfl,rfl,by decide +kernel,rfl,by decide +kernel,by decide +kernel⟩
theorem ok_14 (T:Txt K mg t) (G_2:Has P w K mg base 9 t.f_2 ["self","one"] (spHldK t.c_51 t.c_10)) (G_3:Has P w K mg base 9 t.f_3 ["self","one"] (spHldC t.c_51 t.c_18)):Has P w K mg base 10 t.f_14 ["_law_paper","_law_cell"] (spRefused73 t.c_10 t.c_18):=by
 refine has_mk0 T.d_14 sc_14 (fun _ _ _ _ _ _ us hl=>match us,hl with | [_,_],_=>rfl) (fun vs H Q E h=>?_) (fun cdv A outer s H vs Q E hr h=>?_)
 ·obtain ⟨x,c,xs,ys,rfl,ap,q⟩:=h
  rfl
 obtain ⟨x,c,xs,ys,rfl,ap,q⟩:=h
 refine ⟨_,(pss_cons (ps_set (i:=2) sc_14.nd rfl (Or.inr rfl) (pe_op op_add pe_int (pe_op op_mod (pv 1) pe_int)))
  (pss_cons (ps_set (i:=3) sc_14.nd rfl (Or.inr rfl) (pe_ix ix_list (pe_lst (pa_consC (pa_consC (pa_consC (pa_consC (pa_consC pa_nil)))))) (pe_op op_sub (pv 2) pe_int) (fun _ _=>rfl)))
  (pss_cons (ps_comp (iy:=4) (fv:=[(2,"_law_signs"),(3,"_law_part")]) (cl:=[("_law_signs",_),("_law_part",_)]) rfl sc_14.nd rfl (Or.inl rfl) (pi_range1 rfl T.z_range (pa_cons (pe_op op_mul (pv 3) (pv 2)) pa_nil)) (by with_unfolding_all rfl) (by with_unfolding_all rfl) (by decide +kernel) rfl (by decide +kernel) rfl ⟨(by with_unfolding_all rfl),⟨(by with_unfolding_all rfl),trivial⟩⟩ (by with_unfolding_all rfl) ⟨⟨rfl,rfl,(by with_unfolding_all rfl),rfl⟩,⟨⟨rfl,rfl,(by with_unfolding_all rfl),rfl⟩,trivial⟩⟩ (by decide) (fun _ _ _ _=>pf_nil) (fun _ _ _ _=>(pe_op op_mod (pe_op op_add (pe_op op_fdiv (pv 0) (pv 2)) (pv 0)) (pv 1))))
  (pss_cons (ps_set (i:=5) sc_14.nd rfl (Or.inl rfl) pe_non)
  (pss_cons (ps_try (i:=6) (W:=fun σ cls D H'=>(∃ (g pt:Int) (b:Addr),σ=[some (.ref x),some (.int c),some (.int g),some (.int pt),some (.ref b),some .non,none])∧Same H H'∧D=none∧cls=.ref t.c_51) sc_14.nd rfl rfl rfl T.m_47 rfl rfl (fun _=>(pss_one (ps_expr (pe_alt (pe_methH (pv 0) T.th_10.cl T.me_2 G_2 (hr.mono (by decide)) passes_try (pa_cons (pe_tup (pa_cons (pv 2) (pa_consC (pa_cons (pe_callTy (call_tuple_ofK (K:=K) rfl) rfl T.z_tuple PyProof.Rows.boot_tuple (pa_cons (pv 4) pa_nil)) pa_nil)))) pa_nil)) (pe_methH (pv 0) T.th_18.cl T.me_3 G_3 (hr.mono (by decide)) passes_try (pa_cons (pe_tup (pa_cons (pv 2) (pa_consC (pa_cons (pe_callTy (call_tuple_ofK (K:=K) rfl) rfl T.z_tuple PyProof.Rows.boot_tuple (pa_cons (pv 4) pa_nil)) pa_nil)))) pa_nil)))))) (fun _=>(pss_one (ps_set (i:=5) sc_14.nd rfl (Or.inl rfl) (pv 6)))))
  (pss_cons (ps_if (PW.pt (pw_or (pt_cmpR op_isN (pv 5) pe_non (nomark _)) (pw_or (pt_not (pt_val (pe_isi rfl T.z_isinstance (pv 5) (pe_cls rfl T.m_51)))) (pw_or1 (pt_not (pt_val (pe_isi rfl T.z_isinstance (pv 5) (pe_ty rfl T.z_ValueError PyProof.Rows.Boot.«ValueError»)))))))) (pss_one (ps_ret pe_bl)) pss_nil)
  (pss_one (ps_ret (pe_and (pe_not (pe_isi rfl T.z_isinstance (pv 5) (pe_cls rfl T.m_62))) (pe_one (pe_not (pe_isi rfl T.z_isinstance (pv 5) (pe_cls rfl T.m_36))))))))))))),?_⟩
 refine hide fun N hN=>?_
 walk_at "rd"
 refine ⟨by decide,hN _ _ ?_⟩
 clear hN N
 obtain ⟨g,hg⟩:∃ g:Int,g=2+c%5:=⟨_,rfl⟩
 rw [←hg]
 have g2:2≤g:=by lia
 have g6:g≤6:=by lia
 clear hg
 obtain ⟨m,hx,m3,m8,sz,wd⟩:∃ m:Nat,atI [V.int 16,V.int 27,V.int 16,V.int 25,V.int 36] (g - 2)=some (V.int (g^(m - 1)))∧3≤m∧m≤8∧g^m≤256∧9<g^(m - 1):=by
  obtain rfl | rfl | rfl | rfl | rfl:g=2∨g=3∨g=4∨g=5∨g=6:=by lia
  ·exact ⟨5,rfl,by decide,by decide,by decide,by decide⟩
  ·exact ⟨4,rfl,by decide,by decide,by decide,by decide⟩
  ·exact ⟨3,rfl,by decide,by decide,by decide,by decide⟩
  ·exact ⟨3,rfl,by decide,by decide,by decide,by decide⟩
  ·exact ⟨3,rfl,by decide,by decide,by decide,by decide⟩
 refine hide fun N hN=>?_
 walk_at "rd"
 refine ⟨by decide,fun p hp=>⟨p,_,_,_,rfl,rfl,SqL.of upd_same,hx,hN _ _ ?_⟩⟩
 clear hN N hx
 have e1:=Same.new hp (.lst [V.int 16,V.int 27,V.int 16,V.int 25,V.int 36])
 refine forget (fun HX=>Same H HX) e1 ?_
 clear e1 hp
 intro H1 e1
 have gp:=RW.pow_pos g2 (m - 1)
 have gm:g^(m - 1)*g=g^m:=by rw [←Int.pow_succ,show (m - 1).succ=m by lia]
 have gmp:=RW.pow_pos g2 m
 have gmm:=pow_mono g2 (show m - 1≤m by lia)
 have hP:((g^(m - 1)).toNat:Int)=g^(m - 1):=by lia
 refine hide fun N hN=>?_
 refine ⟨_,rfl,_,rfl,_,_,rfl,rfl,.inr ⟨by lia,by lia⟩,_,rfl,by lia,by lia,fun D hD=>?_⟩
 rw [gm]
 refine comp_range (n:=(g^m).toNat) (fun i acc Hx=>acc=((List.range i).map fun k:Nat=>((k / (g^(m - 1)).toNat+k:Nat):Int)%g).map V.int∧Same H1 Hx∧Hx D=some (.lst acc)) ⟨rfl,Same.new hD _,upd_same⟩ ?_ ?_
 ·rintro i acc Hx hi ⟨rfl,ex,hDx⟩
  have ei:(0+(i:Int)) / g^(m - 1)+(0+(i:Int))=((i / (g^(m - 1)).toNat+i:Nat):Int):=by rw [Int.zero_add,Int.natCast_add,Int.natCast_ediv,hP]
  walk_at "rd"
  rw [ei]
  refine ⟨gp,by lia,by lia,hDx,?_,?_,ex.into hD,upd_same⟩
  ·rw [List.length_map,List.length_map,List.length_range]
   exact small1000 (by lia)
  ·rw [range_succ_map,List.map_append]
   rfl
 rintro acc H2 ⟨rfl,e2,h2⟩
 refine hN _ _ ?_
 clear hN N
 obtain ⟨gl,gf⟩:=great_frame g2 0 (m:=m) (by lia)
 have e12:=e1.trans e2
 refine hide fun N hN=>?_
 walk_at "rd"
 refine hN _ _ ?_
 clear hN N
 walk_at "rd"
 have lay:∀ (l p9:Addr),H2 l=none→upd H2 l (.tup ((greatT g m).map V.int)) p9=none→Same H (upd (upd H2 l (.tup ((greatT g m).map V.int))) p9 (.tup [.int g,.int 0,.ref l]))∧RuleOk (upd (upd H2 l (.tup ((greatT g m).map V.int))) p9 (.tup [.int g,.int 0,.ref l])) p9 g 0 (greatT g m) m:=fun l p9 hl hp9=>by
  have f8:=Same.new hl (.tup ((greatT g m).map V.int))
  have f9:=Same.new hp9 (.tup [.int g,.int 0,.ref l])
  exact ⟨(e12.trans f8).trans f9,⟨⟨l,upd_same,f9 _ _ upd_same⟩,g2,by lia,by lia,m8,gl,sz,greatT_lt g2 m⟩⟩
 refine ⟨?_,?_⟩
 ·rcases ap with pv' | pv'
  ·obtain ⟨dx,p1,p2,k1,k2,k3⟩:=pv'.same e12
   refine .inl ⟨_,rfl,x,dx,_,rfl,k1,rfl,_,rfl,_,rfl,D,rfl,_,.inl ⟨SqL.of h2,fun l hl=>⟨small1000 (show 2≤1000 by decide),fun p9 hp9=>?_⟩⟩⟩
   obtain ⟨s9,ok9⟩:=lay l p9 hl hp9
   exact ⟨x,p9,g,0,greatT g m,m,_,_,m,xs,ys,rfl,pv'.same s9,ok9,gf,fun _ H' e=>⟨⟨_,_,_,rfl⟩,s9.trans e,rfl,rfl⟩,fun z=>absurd z (by lia)⟩
  ·obtain ⟨dx,p1,p2,k1,k2,k3⟩:=pv'.same e12
   refine .inr ⟨_,rfl,x,dx,_,rfl,k1,rfl,_,rfl,_,rfl,D,rfl,_,.inl ⟨SqL.of h2,fun l hl=>⟨small1000 (show 2≤1000 by decide),fun p9 hp9=>?_⟩⟩⟩
   obtain ⟨s9,ok9⟩:=lay l p9 hl hp9
   exact ⟨x,p9,g,0,greatT g m,m,_,_,m,xs,ys,rfl,pv'.same s9,ok9,gf,fun _ H' e=>⟨⟨_,_,_,rfl⟩,s9.trans e,rfl,rfl⟩,fun z=>absurd z (by lia)⟩
 rintro σ' cls D' H' ⟨⟨g',pt',b',rfl⟩,e',rfl,rfl⟩
 refine ⟨T.em_51_47,fun ea hea=>?_⟩
 have he:upd H' ea (exo ea (.ref t.c_51) none false) ea=some (exo ea (.ref t.c_51) none false):=upd_same
 refine ⟨_,rfl,_,rfl,?_⟩
 rw [if_neg (by intro z;cases z)]
 refine ⟨_,rfl,_,.exc he T.ek_51,_,T.kt_51_51,?_⟩
 rw [if_neg (by decide)]
 refine ⟨_,rfl,_,.exc he T.ek_51,_,T.kt_TooWide_ValueError,?_⟩
 rw [if_neg (by decide)]
 have fe:=Same.new hea (exo ea (.ref t.c_51) none false)
 refine ⟨_,rfl,_,.exc he T.ek_51,_,T.kt_51_62,?_⟩
 rw [if_pos rfl]
 exact ⟨_,rfl,_,.exc he T.ek_51,_,T.kt_51_36,q _ (e'.trans fe)⟩
theorem sc_69:FnScope ["_law_script","_law_first","_law_signs","_law_table_here","_law_one","_law_here","_law_many","_law_k","_law_xs","_law_weights","_law_some","_law_handed","_law_paper","_law_rules","_law_ring_here","_law_other"] ["_law_script"] (defScope s_69):=⟨rfl,rfl,rfl,by decide +kernel,rfl,by decide +kernel,by decide +kernel⟩
theorem ok_69 {f:Addr} {fd:FuncData} (T:Txt K mg t) (F:Fun K "law" "law" s_69 f fd) (G_11:Has P w K mg base 1 t.f_11 ["_law_script","_law_k"] (spCell K)) (G_29:Has P w K mg base 2 t.f_29 ["_law_signs","_law_way","_law_xs"] (spTable66)) (G_25:Has P w K mg base 1 t.f_25 ["_law_one"] (spFrame65)) (G_13:Has P w K mg base 2 t.f_13 ["_law_script","_law_size"] (spNumbers73 K)) (G_28:Has P w K mg base 3 t.f_28 ["_law_signs","_law_table_here","_law_many","_law_xs"] (spSteps73)) (G_15:Has P w K mg base 1 t.f_15 ["_law_weights","_law_some","_law_way","_law_cell"] (spSpoiled73)) (G_0:Has P w K mg base 1 t.f_0 ["self","weights","flows"] (spIni t.c_10 "weights" "flows")) (G_40:Has P w K mg base 2 t.f_40 ["_law_script","_law_signs","_law_way"] (spRing73 K)) (G_1:Has P w K mg base 1 t.f_1 ["self","weights","ring"] (spIni t.c_18 "weights" "ring")) (G_24:Has P w K mg base 10 t.f_24 ["_law_paper","_law_rules","_law_parts","_law_dues"] (spAsked73 t.c_51 t.c_10 t.c_18)) (G_20:Has P w K mg base 1 t.f_20 ["_law_cell","_law_many"] (spStream)) (G_27:Has P w K mg base 1 t.f_27 ["_law_signs","_law_many"] (spPower)) (G_19:Has P w K mg base 1 t.f_19 ["_law_one","_law_cell"] (spSecond73)) (G_14:Has P w K mg base 10 t.f_14 ["_law_paper","_law_cell"] (spRefused73 t.c_10 t.c_18)) (G_12:Has P w K mg base 2 t.f_12 ["_law_one","_law_weights","_law_ring_here"] (spChanges73)) (G_38:Has P w K mg base 3 t.f_38 ["_law_one","_law_weights","_law_some"] (spHeld73)):FnOk P w K mg base (CXF P w) 11 f fd ["_law_script"] (spLaw K):=by
 refine F.ok0 sc_69 (fun vs H Q E h=>?_) (fun cdv A outer s H vs Q E hr h=>?_)
 ·obtain ⟨a,ns,rfl,hS,h63,q⟩:=h
  rfl
 obtain ⟨a,ns,rfl,hS,h63,q⟩:=h
 refine ⟨_,(PSsI.out (psi_cons (psi_set (i:=1) sc_69.nd rfl (Or.inl rfl) (.of (pe_callH G_11 (hr.mono (by decide)) rfl T.m_11 passF (pa_cons (pv 0) (pa_consC pa_nil)))) rfl (by first | exact .inl rfl | exact .inr rfl))
  (psi_cons (psi_set (i:=2) sc_69.nd rfl (Or.inl rfl) (pei_ix ix_list (pei_lst (pai_consC (pai_consC (pai_consC (pai_consC (pai_consC (pai_consC (pai_consC (pai_consC (pai_consC (pai_consC (pai_consC (pai_consC (pai_consC (pai_consC (pai_consC (pai_consC pai_nil))))))))))))))))) (.of (pe_op op_mod (pv 1) pe_int)) (fun _ _=>rfl)) rfl (by first | exact .inl rfl | exact .inr rfl))
  (psi_cons (psi_set (i:=3) sc_69.nd rfl (Or.inl rfl) (.of (pe_callH G_29 (hr.mono (by decide)) rfl T.m_29 passF (pa_cons (pv 2) (pa_cons (pe_op op_mod (pe_op op_fdiv (pv 1) pe_int) pe_int) (pa_cons (pe_callH G_20 (hr.mono (by decide)) rfl T.m_20 passF (pa_cons (pe_callH G_11 (hr.mono (by decide)) rfl T.m_11 passF (pa_cons (pv 0) (pa_consC pa_nil))) (pa_consC pa_nil))) pa_nil))))) rfl (by first | exact .inl rfl | exact .inr rfl))
  (psi_cons (psi_set (i:=4) sc_69.nd rfl (Or.inl rfl) (.of (pe_tup (pa_cons (pv 2) (pa_cons (pe_op op_sub (pe_op op_mod (pe_op op_fdiv (pv 1) pe_int) pe_int) pe_int) (pa_cons (pe_callTy call_tuple_of rfl T.z_tuple PyProof.Rows.boot_tuple (pa_cons (pv 3) pa_nil)) pa_nil))))) rfl (by first | exact .inl rfl | exact .inr rfl))
  (psi_cons (psi_set (i:=5) sc_69.nd rfl (Or.inl rfl) (.of (pe_callH G_25 (hr.mono (by decide)) rfl T.m_25 passF (pa_cons (pv 4) pa_nil))) rfl (by first | exact .inl rfl | exact .inr rfl))
  (psi_cons (psi_set (i:=6) sc_69.nd rfl (Or.inl rfl) (.of pe_int) rfl (by first | exact .inl rfl | exact .inr rfl))
  (psi_cons (.of (ps_for PassesOwn.never rfl (pi_range1 rfl T.z_range (pa_cons (pe_op op_mod (pe_callH G_11 (hr.mono (by decide)) rfl T.m_11 passF (pa_cons (pv 0) (pa_consC pa_nil))) pe_int) pa_nil)) (pg_name (i:=7) sc_69.nd rfl (Or.inl rfl)) (pss_one (ps_if (pt_cmpR op_le (pe_op op_mul (pe_callB call_len_seq rfl T.z_len PySem.boot_len (pa_cons (pv 5) pa_nil)) (pe_callH G_27 (hr.mono (by decide)) rfl T.m_27 passF (pa_cons (pv 2) (pa_cons (pv 6) pa_nil)))) (pe_ix ix_list (pe_lst (pa_consC (pa_consC pa_nil))) (pe_op op_fdiv (pe_op op_mod (pe_op op_fdiv (pv 1) pe_int) pe_int) pe_int) (fun _ _=>rfl)) (nomark _)) (pss_one (ps_set (i:=6) sc_69.nd rfl (Or.inl rfl) (pe_op op_add (pv 6) pe_int))) pss_nil))))
  (psi_cons (psi_set (i:=8) sc_69.nd rfl (Or.inr rfl) (.of (pe_callH G_13 (hr.mono (by decide)) rfl T.m_13 passF (pa_cons (pe_slice sl_list (pv 0) po_none (po_some pe_int)) (pa_cons (pe_callH G_27 (hr.mono (by decide)) rfl T.m_27 passF (pa_cons (pv 2) (pa_cons (pv 6) pa_nil))) pa_nil)))) rfl (by first | exact .inl rfl | exact .inr rfl))
  (psi_cons (.of (ps_asg (pe_callH G_28 (hr.mono (by decide)) rfl T.m_28 passF (pa_cons (pv 2) (pa_cons (pv 5) (pa_cons (pv 6) (pa_cons (pv 8) pa_nil))))) (pg_lst rfl (pgs_cons (pg_name (i:=9) sc_69.nd rfl (Or.inr rfl)) (pgs_cons (pg_name (i:=10) sc_69.nd rfl (Or.inr rfl)) pgs_nil)))))
  (psi_cons (psi_if (PW.pt (pw_and (pt_cmpR op_eq (pv 6) pe_int (nomark _)) (pw_and (pt_cmpR op_eq (pe_op op_mod (pe_op op_fdiv (pv 1) pe_int) pe_int) pe_int (nomark _)) (pw_and1 (pt_cmpR op_lt (pv 2) pe_int (nomark _)))))) (psi_one (.of (ps_set (i:=9) sc_69.nd rfl (Or.inr rfl) (pe_comp (fv:=[(8,"_law_xs")]) (cl:=[("_law_xs",_)]) rfl (pi_range1 rfl T.z_range (pa_cons (pv 2) pa_nil)) (by with_unfolding_all rfl) (by decide +kernel) rfl (by decide +kernel) rfl ⟨(by with_unfolding_all rfl),trivial⟩ (by with_unfolding_all rfl) ⟨⟨rfl,rfl,(by with_unfolding_all rfl),rfl⟩,trivial⟩ (by decide) (fun _ _ _ _=>pf_nil) (fun _ _ _ _=>(pe_op op_mul (pv 0) (pe_ix (ix_listK (K:=K) rfl) (pv 1) pe_int (fun _ _=>rfl))))) (hs:=by with_unfolding_all rfl)))) psi_nil)
  (psi_cons (.of (ps_asg (pe_callH G_15 (hr.mono (by decide)) rfl T.m_15 passF (pa_cons (pv 9) (pa_cons (pv 10) (pa_cons (pe_op op_mod (pe_op op_fdiv (pv 1) pe_int) pe_int) (pa_cons (pe_op op_fdiv (pv 1) pe_int) pa_nil))))) (pg_lst rfl (pgs_cons (pg_name (i:=9) sc_69.nd rfl (Or.inr rfl)) (pgs_cons (pg_name (i:=10) sc_69.nd rfl (Or.inr rfl)) pgs_nil)))))
  (psi_cons (psi_set (i:=11) sc_69.nd rfl (Or.inl rfl) (.of (pe_lst (pa_cons (pe_callTy call_list_of rfl T.z_list PyProof.Rows.boot_list (pa_cons (pv 9) pa_nil)) (pa_cons (pe_callTy call_list_of rfl T.z_list PyProof.Rows.boot_list (pa_cons (pv 10) pa_nil)) pa_nil)))) rfl (by first | exact .inl rfl | exact .inr rfl))
  (psi_cons (psi_set (i:=12) sc_69.nd rfl (Or.inl rfl) (.of (pe_makeH T.mk_10 G_0 (hr.mono (by decide)) rfl T.m_10 (pa_cons (pe_ix ix_list (pv 11) pe_int (fun _ _=>rfl)) (pa_cons (pe_ix ix_list (pv 11) pe_int (fun _ _=>rfl)) pa_nil)))) rfl (by first | exact .inl rfl | exact .inr rfl))
  (psi_cons (.of (ps_expr (pe_bm0 PySem.F.plainAttrs_list PySem.F.slot_list_clear PySem.F.type_list_clear mt_clear (pe_ix ix_list (pv 11) pe_int (fun _ _=>rfl)))))
  (psi_cons (.of (ps_expr (pe_bm PySem.F.plainAttrs_list PySem.F.slot_list_append PySem.F.type_list_append mt_append (pe_ix ix_list (pv 11) pe_int (fun _ _=>rfl)) (pa_consC pa_nil))))
  (psi_cons (psi_if (PW.pt (pw_or (pt_val (pe_isi rfl T.z_isinstance (pv 12) (pe_cls rfl T.m_18))) (pw_or1 (pt_not (pt_val (pe_callH G_14 (hr.mono (by decide)) rfl T.m_14 passF (pa_cons (pv 12) (pa_cons (pv 1) pa_nil)))))))) (psi_one (.of (ps_ret pe_bl))) psi_nil)
  (psi_cons (psi_set (i:=13) sc_69.nd rfl (Or.inl rfl) (.of (pe_lst (pa_cons (pv 4) (pa_cons (pe_callH G_19 (hr.mono (by decide)) rfl T.m_19 passF (pa_cons (pv 4) (pa_cons (pe_op op_fdiv (pe_callH G_11 (hr.mono (by decide)) rfl T.m_11 passF (pa_cons (pv 0) (pa_consC pa_nil))) pe_int) pa_nil))) pa_nil)))) rfl (by first | exact .inl rfl | exact .inr rfl))
  (psi_cons (psi_if (pt_cmpR op_gt (pe_op op_mul (pe_callB call_len_seq rfl T.z_len PySem.boot_len (pa_cons (pe_callH G_25 (hr.mono (by decide)) rfl T.m_25 passF (pa_cons (pe_ix ix_list (pv 13) pe_int (fun _ _=>rfl)) pa_nil)) pa_nil)) (pe_callH G_27 (hr.mono (by decide)) rfl T.m_27 passF (pa_cons (pv 2) (pa_cons (pe_op op_sub (pv 6) pe_int) pa_nil)))) pe_int (nomark _)) (psi_one (.of (ps_asg (pe_tup (pa_cons (pv 2) (pa_cons (pe_op op_add (pe_ix ix_tup (pv 4) pe_int (fun _ _=>rfl)) pe_int) (pa_cons (pe_ix ix_tup (pv 4) pe_int (fun _ _=>rfl)) pa_nil)))) (pg_sub (pv 13) pe_int set_list)))) psi_nil)
  (psi_cons (psi_if (pt_not (pt_val (pe_callH G_24 (hr.mono (by decide)) rfl T.m_24 passF (pa_cons (pv 12) (pa_cons (pv 13) (pa_cons (pe_lst (pa_cons (pv 9) (pa_cons (pv 10) pa_nil))) (pa_cons (pe_comp (fv:=[(9,"_law_weights"),(10,"_law_some")]) (cl:=[("_law_weights",_),("_law_some",_)]) rfl (pi_list (pv 13)) (by with_unfolding_all rfl) (by decide +kernel) rfl (by decide +kernel) rfl ⟨(by with_unfolding_all rfl),⟨(by with_unfolding_all rfl),trivial⟩⟩ (by with_unfolding_all rfl) ⟨⟨rfl,rfl,(by with_unfolding_all rfl),rfl⟩,⟨⟨rfl,rfl,(by with_unfolding_all rfl),rfl⟩,trivial⟩⟩ (by decide) (fun _ _ _ _=>pf_nil) (fun _ _ _ _=>(pe_callH G_38 (hr.mono (by decide)) rfl T.m_38 passF (pa_cons (pv 0) (pa_cons (pv 1) (pa_cons (pv 2) pa_nil)))))) pa_nil))))))) (psi_one (.of (ps_ret pe_bl))) psi_nil)
  (psi_cons (psi_set (i:=14) sc_69.nd rfl (Or.inr rfl) (.of (pe_callH G_40 (hr.mono (by decide)) rfl T.m_40 passF (pa_cons (pv 0) (pa_cons (pv 2) (pa_cons (pe_op op_mod (pe_op op_fdiv (pe_callH G_11 (hr.mono (by decide)) rfl T.m_11 passF (pa_cons (pv 0) (pa_consC pa_nil))) pe_int) pe_int) pa_nil))))) rfl (by first | exact .inl rfl | exact .inr rfl))
  (psi_cons (psi_set (i:=11) sc_69.nd rfl (Or.inl rfl) (.of (pe_lst (pa_cons (pe_callTy call_list_of rfl T.z_list PyProof.Rows.boot_list (pa_cons (pv 9) pa_nil)) (pa_cons (pe_callTy call_list_of rfl T.z_list PyProof.Rows.boot_list (pa_cons (pv 14) pa_nil)) pa_nil)))) rfl (by first | exact .inl rfl | exact .inr rfl))
  (psi_cons (psi_set (i:=15) sc_69.nd rfl (Or.inl rfl) (.of (pe_makeH T.mk_18 G_1 (hr.mono (by decide)) rfl T.m_18 (pa_cons (pe_ix ix_list (pv 11) pe_int (fun _ _=>rfl)) (pa_cons (pe_ix ix_list (pv 11) pe_int (fun _ _=>rfl)) pa_nil)))) rfl (by first | exact .inl rfl | exact .inr rfl))
  (psi_cons (.of (ps_expr (pe_bm PySem.F.plainAttrs_list PySem.F.slot_list_append PySem.F.type_list_append mt_append (pe_ix ix_list (pv 11) pe_int (fun _ _=>rfl)) (pa_consC pa_nil))))
  (psi_cons (.of (ps_expr (pe_bm0 PySem.F.plainAttrs_list PySem.F.slot_list_clear PySem.F.type_list_clear mt_clear (pe_ix ix_list (pv 11) pe_int (fun _ _=>rfl)))))
  (psi_cons (psi_if (PW.pt (pw_or (pt_val (pe_isi rfl T.z_isinstance (pv 15) (pe_cls rfl T.m_10))) (pw_or1 (pt_not (pt_val (pe_callH G_14 (hr.mono (by decide)) rfl T.m_14 passF (pa_cons (pv 15) (pa_cons (pv 1) pa_nil)))))))) (psi_one (.of (ps_ret pe_bl))) psi_nil)
  (psi_one (.of (ps_ret (pe_callH G_24 (hr.mono (by decide)) rfl T.m_24 passF (pa_cons (pv 15) (pa_cons (pv 13) (pa_cons (pe_lst (pa_cons (pv 9) (pa_cons (pv 14) pa_nil))) (pa_cons (pe_comp (fv:=[(9,"_law_weights"),(14,"_law_ring_here")]) (cl:=[("_law_weights",_),("_law_ring_here",_)]) rfl (pi_list (pv 13)) (by with_unfolding_all rfl) (by decide +kernel) rfl (by decide +kernel) rfl ⟨(by with_unfolding_all rfl),⟨(by with_unfolding_all rfl),trivial⟩⟩ (by with_unfolding_all rfl) ⟨⟨rfl,rfl,(by with_unfolding_all rfl),rfl⟩,⟨⟨rfl,rfl,(by with_unfolding_all rfl),rfl⟩,trivial⟩⟩ (by decide) (fun _ _ _ _=>pf_nil) (fun _ _ _ _=>(pe_callH G_12 (hr.mono (by decide)) rfl T.m_12 passF (pa_cons (pv 0) (pa_cons (pv 1) (pa_cons (pv 2) pa_nil)))))) pa_nil)))))))))))))))))))))))))))))))))),?_⟩
 refine hide fun N hN=>?_
 walk_at "rd"
 refine ⟨a,ns,0,rfl,hS,h63,hN _ _ ?_⟩
 clear hN N
 obtain ⟨c0,hc0⟩:∃ c:Int,c=ns.getD 0 0:=⟨_,rfl⟩
 rw [←hc0]
 obtain ⟨c1,hc1⟩:∃ c:Int,c=ns.getD 1 0:=⟨_,rfl⟩
 have z0:=Int.emod_nonneg c0 (show (16:Int)≠0 by decide)
 have z1:=Int.emod_lt_of_pos c0 (show (0:Int)<16 by decide)
 obtain ⟨g,hgx,g2,g9⟩:∃ g:Int,atI (([2,3,2,4,2,3,6,2,4,3,5,8,3,4,7,9]:List Int).map V.int) (c0%16)=some (.int g)∧2≤g∧g≤9:=by
  refine ⟨_,getAtZ z0 (by show _<16;lia),?_⟩
  have key:∀ k,k<16→2≤([2,3,2,4,2,3,6,2,4,3,5,8,3,4,7,9]:List Int).getD k 0∧([2,3,2,4,2,3,6,2,4,3,5,8,3,4,7,9]:List Int).getD k 0≤9:=by decide
  exact key _ (by lia)
 refine hide fun N hN=>?_
 walk_at "rd"
 refine ⟨by decide,fun p hp=>⟨by decide,p,_,_,_,rfl,rfl,SqL.of upd_same,hgx,hN _ _ ?_⟩⟩
 clear hN N hgx z0 z1
 have e1:=Same.new hp (.lst (([2,3,2,4,2,3,6,2,4,3,5,8,3,4,7,9]:List Int).map V.int))
 refine forget (fun HX=>Same H HX) e1 ?_
 clear e1 hp p
 intro H1 e1
 refine cut (fun σ HX=>∃ (pt:Addr) (tab:List Int) (m:Nat),σ=[some (.ref a),some (.int c0),some (.int g),some (.ref pt),none,none,none,none,none,none,none,none,none,none,none,none]∧Same H HX∧HX pt=some (.lst (tab.map V.int))∧(tab.length:Int)=g^m∧(m=2∨m=3∧g<4)∧∀ n∈tab,0≤n∧n<g) (fun N hN=>?_) ?_
 ·walk_at "rd"
  exact ⟨by decide,by decide,by decide,a,ns,1,rfl,e1.seq hS,h63,_,90,rfl,by decide,by decide,fun ps H2 l hl e2 _ h2=>⟨g,_,ps,l,rfl,g2,g9,h2,hl,fun pt H3 tab m n3 tl hm tb=>hN _ _ ⟨pt,tab,m,rfl,(e1.trans e2).trans n3.1,n3.2.2,tl,hm,tb⟩⟩⟩
 rintro σ H2 ⟨pt,tab,m,rfl,e2,ht,tl,hm,tb⟩
 have gm:g^m≤256:=by
  have gg:g*g≤9*9:=Int.mul_le_mul g9 g9 (by lia) (by decide)
  rcases hm with rfl | ⟨rfl,g4⟩
  ·rw [show (2:Nat)=0+1+1 from rfl,Int.pow_succ,Int.pow_succ,Int.pow_zero,Int.one_mul]
   omega
  ·obtain rfl | rfl:g=2∨g=3:=by lia
   ·decide
   ·decide
 refine cut (fun σ HX=>∃ (one:Addr) (lo:Int),σ=[some (.ref a),some (.int c0),some (.int g),some (.ref pt),some (.ref one),none,none,none,none,none,none,none,none,none,none,none]∧Same H HX∧RuleOk HX one g lo tab m) (fun N hN=>?_) ?_
 ·walk_at "rd"
  refine ⟨by decide,by decide,by decide,_,.inl ⟨SqL.of ht,fun l hl=>⟨by decide,fun p9 hp9=>hN _ _ ⟨p9,c0 / 64%7 - 3,rfl,?_,?_⟩⟩⟩⟩
  ·exact (e2.trans (Same.new hl (.tup (tab.map V.int)))).trans (Same.new hp9 _)
  ·exact ⟨⟨l,upd_same,(Same.new hp9 (.tup [V.int g,V.int (c0 / 64%7 - 3),V.ref l])) _ _ upd_same⟩,g2,g9,by lia,by lia,tl,gm,tb⟩
 rintro σ H3 ⟨one,lo,rfl,e3,ok⟩
 clear ht e2 H2
 refine hide fun N hN=>?_
 walk_at "rd"
 refine ⟨one,g,lo,tab,m,rfl,ok,fun pf lf tf mf H4 e4 fw hf tfl mf8=>hN _ _ ?_⟩
 clear hN N
 have mf2:=fw.two
 have tfb:=FrameW.lt g2 ok.tb fw
 have f9:g^(mf - 1)≤9:=by
  have g1:g^1=g:=by rw [Int.pow_succ,Int.pow_zero,Int.one_mul]
  have:=fw.le g2 ok.len ok.len fun _ _=>rfl
  by_cases y:mf=2
  ·rw [y,g1];exact g9
  ·have y3:mf=3:=by lia
   have g4:g<4:=by
    rcases hm with h | h
    ·lia
    ·exact h.2
   rw [y3,show (3 - 1:Nat)=1+1 from rfl,Int.pow_succ,g1]
   exact Int.le_trans (Int.mul_le_mul (show g≤3 by lia) (show g≤3 by lia) (by lia) (by lia)) (by decide)
 have gp:=RW.pow_pos g2 (mf - 1)
 have e34:=e3.trans e4
 have ok4:=ok.same e4
 refine hide fun N hN=>?_
 walk_at "rd"
 refine hN _ _ ?_
 clear hN N
 refine cut (fun σ HX=>∃ (x7:Option V) (mw:Nat),σ=[some (.ref a),some (.int c0),some (.int g),some (.ref pt),some (.ref one),some (.ref pf),some (.int (mw:Int)),x7,none,none,none,none,none,none,none,none]∧Same H4 HX∧1≤mw∧mw≤4∧g^(mf - 1)*g^mw≤729) (fun N hN=>?_) ?_
 ·have y0:=Int.emod_nonneg (ns.getD 1 0) (show (4:Int)≠0 by decide)
  have y1:=Int.emod_lt_of_pos (ns.getD 1 0) (show (0:Int)<4 by decide)
  refine ⟨_,rfl,a,ns,1,rfl,e34.seq hS,h63,_,_,rfl,rfl,(by show (0:Int)<4;decide),_,rfl,by lia,by lia,?_⟩
  refine for_range (n:=(ns.getD 1 0%4).toNat) (fun i σ HX=>∃ (x7:Option V) (mw:Nat),σ=[some (.ref a),some (.int c0),some (.int g),some (.ref pt),some (.ref one),some (.ref pf),some (.int (mw:Int)),x7,none,none,none,none,none,none,none,none]∧Same H4 HX∧1≤mw∧mw≤i+1∧g^(mf - 1)*g^mw≤729) ⟨none,1,rfl,Same.refl _,by decide,by decide,?_⟩ ?_ ?_
  ·rw [show (1:Nat)=0+1 from rfl,Int.pow_succ,Int.pow_zero,Int.one_mul]
   exact Int.le_trans (Int.mul_le_mul f9 g9 (by lia) (by decide)) (by decide)
  ·rintro i σ HX hi ⟨x7,mw,rfl,eX,w1,wi,s7⟩
   have x0:=Int.emod_nonneg (c0 / 64) (show (8:Int)≠0 by decide)
   have x1:=Int.emod_lt_of_pos (c0 / 64) (show (0:Int)<8 by decide)
   obtain ⟨mx,hmx,mx7⟩:∃ mx:Int,atI [V.int 256,V.int 729] (c0 / 64%8 / 7)=some (.int mx)∧mx≤729:=by
    obtain z | z:c0 / 64%8 / 7=0∨c0 / 64%8 / 7=1:=by lia
    ·exact ⟨256,by rw [z];rfl,by decide⟩
    ·exact ⟨729,by rw [z];rfl,by decide⟩
   have gmf:=pow_mono g2 (show mf≤8 from mf8)
   have tf8:(tf.length:Int)≤81:=by
    rw [tfl,show mf=mf - 1+1 by lia,Int.pow_succ]
    exact Int.le_trans (Int.mul_le_mul f9 g9 (by lia) (by decide)) (by decide)
   walk_at "rd"
   refine ⟨_,.inl (SqL.of (eX _ _ hf)),g,_,rfl,g2,g9,by lia,by lia,_,rfl,.inl ⟨by rw [List.length_map];lia,by rw [List.length_map];lia⟩,by decide,fun p hp=>⟨by decide,by decide,by decide,by decide,by decide,p,_,_,_,rfl,rfl,SqL.of upd_same,hmx,_,rfl,?_⟩⟩
   have en:=Same.new hp (.lst [V.int 256,V.int 729])
   rw [List.length_map,tfl,Int.toNat_natCast]
   split
   ·rename_i y
    refine ⟨_,mw+1,by lia,rfl,eX.trans en,by lia,by lia,?_⟩
    rw [show g^(mf - 1)*g^(mw+1)=g^mf*g^mw by rw [←Int.pow_add,←Int.pow_add];congr 1;lia]
    lia
   ·exact ⟨_,mw,rfl,rfl,eX.trans en,w1,by lia,s7⟩
  ·rintro σ HX ⟨x7,mw,rfl,eX,w1,wi,s7⟩
   exact hN _ _ ⟨x7,mw,rfl,eX,w1,by lia,s7⟩
 rintro σ H5 ⟨x7,mw,rfl,e5,w1,w4,s7⟩
 have e45:=e34.trans e5
 have gw:=RW.pow_pos g2 mw
 have pg:g≤g^(mf - 1):=by
  have:=pow_mono g2 (show 1≤mf - 1 by lia)
  rw [Int.pow_succ,Int.pow_zero,Int.one_mul] at this
  exact this
 have gw2:g^mw≤243:=by
  obtain rfl | g3:g=2∨3≤g:=by lia
  ·have:=pow_mono g2 (show mw≤4 from w4)
   exact Int.le_trans this (by decide)
  ·have:=Int.mul_le_mul_of_nonneg_right (show (3:Int)≤g^(mf - 1) by lia) (Int.le_of_lt gw)
   lia
 refine cut (fun σ HX=>∃ (px:Addr) (xs:List Int),σ=[some (.ref a),some (.int c0),some (.int g),some (.ref pt),some (.ref one),some (.ref pf),some (.int (mw:Int)),x7,some (.ref px),none,none,none,none,none,none,none]∧Same H4 HX∧HX px=some (.lst (xs.map V.int))∧(xs.length:Int)=g^mw+2) (fun N hN=>?_) ?_
 ·refine ⟨_,rfl,63,rfl,?_⟩
  dsimp only [tNoPart]
  refine sl_new (e45.seq hS) fun p1 H6 e6 _ h6=>?_
  rw [cutV_int] at h6
  refine ⟨_,rfl,_,rfl,g,_,rfl,g2,g9,by lia,by lia,p1,_,_,rfl,SqL.of h6,Nat.le_trans (cut_len _ _ _) h63,?_,?_,fun px H7 xs n7 xl=>hN _ _ ⟨px,xs,rfl,(e5.trans e6).trans n7.1,n7.2.2,by rw [xl,Int.toNat_natCast]⟩⟩
  ·rw [Int.toNat_natCast];lia
  ·rw [Int.toNat_natCast];lia
 rintro σ H6 ⟨px,xs,rfl,e6,hx,xl⟩
 have e46:=e34.trans e6
 refine cut (fun σ HX=>∃ (pa pb:Addr) (ws fl:List Int),σ=[some (.ref a),some (.int c0),some (.int g),some (.ref pt),some (.ref one),some (.ref pf),some (.int (mw:Int)),x7,some (.ref px),some (.ref pa),some (.ref pb),none,none,none,none,none]∧Same H6 HX∧HX pa=some (.lst (ws.map V.int))∧HX pb=some (.lst (fl.map V.int))∧(ws.length:Int)=g^mw∧1≤fl.length∧fl.length≤729) (fun N hN=>?_) ?_
 ·exact ⟨_,rfl,_,rfl,_,rfl,_,rfl,pf,px,g,tf,xs,mf,mw,rfl,g2,g9,e6 _ _ hf,tfl,mf2,mf8,tfb,w1,by lia,s7,hx,xl,fun p pa pb H7 ws fl e7 hp ha hb wl f1 f7=>⟨p,_,rfl,SqL.of hp,rfl,_,_,rfl,_,_,rfl,rfl,hN _ _ ⟨pa,pb,ws,fl,rfl,e7,ha,hb,wl,f1,f7⟩⟩⟩
 rintro σ H7 ⟨pa,pb,ws,fl,rfl,e7,ha,hb,wl,fl1,fl7⟩
 refine cut (fun σ HX=>∃ (pa:Addr) (ws:List Int),σ=[some (.ref a),some (.int c0),some (.int g),some (.ref pt),some (.ref one),some (.ref pf),some (.int (mw:Int)),x7,some (.ref px),some (.ref pa),some (.ref pb),none,none,none,none,none]∧Same H7 HX∧HX pa=some (.lst (ws.map V.int))∧(ws.length:Int)=g^mw) (fun N hN=>?_) ?_
 ·have stay:=hN _ _ ⟨pa,ws,rfl,Same.refl _,ha,wl⟩
  walk_at "rd"
  by_cases y1:(mw:Int)=1
  ·rw [if_pos y1]
   refine ⟨by decide,by decide,by decide,?_⟩
   by_cases y2:c0 / 16%4=1
   ·rw [if_pos y2]
    by_cases y3:g<4
    ·rw [if_pos y3]
     refine ⟨_,rfl,_,rfl,by lia,by lia,fun D hD=>?_⟩
     refine comp_range (n:=g.toNat) (fun i acc Hx=>∃ zs:List Int,acc=zs.map V.int∧zs.length=i∧Same H7 Hx∧Hx D=some (.lst acc)) ⟨[],rfl,rfl,Same.new hD _,upd_same⟩ ?_ ?_
     ·rintro i acc Hx hi ⟨zs,rfl,zl,ex,hDx⟩
      walk_at "rd"
      refine ⟨px,_,0,_,rfl,rfl,SqL.of (ex _ _ (e7 _ _ hx)),getAtZ (by decide) (by show 0<_;lia),_,rfl,.inl ⟨by lia,by lia⟩,hDx,?_,zs++[(0+(i:Int))*xs.getD (0:Int).toNat 0],by rw [List.map_append];rfl,by rw [List.length_append,zl];rfl,ex.into hD,upd_same⟩
      rw [List.length_map,zl]
      exact small1000 (by lia)
     ·rintro acc H9 ⟨zs,rfl,zl,e9,h9⟩
      refine hN _ _ ⟨D,zs,rfl,e9,h9,?_⟩
      rw [show mw=0+1 by lia,Int.pow_succ,Int.pow_zero,Int.one_mul]
      omega
    ·rw [if_neg y3]
     exact stay
   ·rw [if_neg y2]
    exact stay
  ·rw [if_neg y1]
   exact stay
 clear ha wl ws pa
 rintro σ H8 ⟨pa,ws,rfl,e8,ha,wl⟩
 have hb8:=e8 _ _ hb
 refine cut (fun σ HX=>∃ (pa' pb':Addr) (ws' fl':List Int),σ=[some (.ref a),some (.int c0),some (.int g),some (.ref pt),some (.ref one),some (.ref pf),some (.int (mw:Int)),x7,some (.ref px),some (.ref pa'),some (.ref pb'),none,none,none,none,none]∧Same H8 HX∧HX pa'=some (.lst (ws'.map V.int))∧HX pb'=some (.lst (fl'.map V.int))∧(ws'.length=ws.length∨ws'.length=ws.length+1∨ws'.length≤1)∧fl'.length≤730) (fun N hN=>?_) ?_
 ·walk_at "rd"
  refine ⟨by decide,by decide,by decide,by decide,by decide,pa,pb,_,_,ws,fl,rfl,ha,hb8,by lia,by lia,fl1,fl7,fun p pa' pb' H9 ws' fl' e9 hp ha' hb' hw' hf'=>?_⟩
  exact ⟨p,_,rfl,SqL.of hp,rfl,_,_,rfl,_,_,rfl,rfl,hN _ _ ⟨pa',pb',ws',fl',rfl,e9,ha',hb',hw',hf'⟩⟩
 rintro σ H9 ⟨pa',pb',ws',fl',rfl,e9,ha',hb',hw',hf'⟩
 refine cut (fun σ HX=>∃ (hd q1 q2:Addr),σ=[some (.ref a),some (.int c0),some (.int g),some (.ref pt),some (.ref one),some (.ref pf),some (.int (mw:Int)),x7,some (.ref px),some (.ref pa'),some (.ref pb'),some (.ref hd),none,none,none,none]∧Same H9 HX∧HX hd=some (.lst [.ref q1,.ref q2])∧HX q1=some (.lst (ws'.map V.int))∧HX q2=some (.lst (fl'.map V.int))∧H9 q1=none∧H9 q2=none∧H9 hd=none∧q1≠q2) (fun N hN=>?_) ?_
 ·walk_at "rd"
  refine ⟨_,.inl (SqL.of ha'),fun l1 hl1=>⟨_,.inl (SqL.of ((Same.new hl1 _) _ _ hb')),fun l2 hl2=>⟨by decide,fun p hp=>?_⟩⟩⟩
  have f1:=Same.new hl1 (.lst (ws'.map V.int))
  have f2:=Same.new hl2 (.lst (fl'.map V.int))
  have f3:=Same.new hp (.lst [V.ref l1,V.ref l2])
  have ne:l1≠l2:=fun e=>by rw [←e,upd_same] at hl2;cases hl2
  exact hN _ _ ⟨p,l1,l2,rfl,(f1.trans f2).trans f3,upd_same,(f2.trans f3) _ _ upd_same,f3 _ _ upd_same,hl1,f1.free hl2,(f1.trans f2).free hp,ne⟩
 rintro σ H10 ⟨hd,q1,q2,rfl,e10,hhd,hq1,hq2,n1,n2,nh,ne⟩
 refine cut (fun σ HX=>∃ x:Addr,σ=[some (.ref a),some (.int c0),some (.int g),some (.ref pt),some (.ref one),some (.ref pf),some (.int (mw:Int)),x7,some (.ref px),some (.ref pa'),some (.ref pb'),some (.ref hd),some (.ref x),none,none,none]∧Same H10 HX∧PapN H10 HX x t.c_10 "weights" "flows" ws' fl'∧H10 x=none) (fun N hN=>?_) ?_
 ·refine ⟨_,rfl,hd,_,0,_,rfl,rfl,SqL.of hhd,rfl,_,rfl,hd,_,1,_,rfl,rfl,SqL.of hhd,rfl,fun x dx hx' hdx ne'=>?_⟩
  have m1:=Same.new hdx (.own x)
  have hx2:upd H10 dx (.own x) x=none:=by rw [upd_ne (fun e=>ne' e.symm)];exact hx'
  have mm:=m1.trans (Same.new hx2 (.ins t.c_10 dx []))
  refine ⟨x,dx,q1,q2,ws',fl',rfl,upd_same,mm _ _ hq1,mm _ _ hq2,fun H' sm pn=>⟨rfl,hN _ _ ⟨x,rfl,sm H10 mm hx',?_,hx'⟩⟩⟩
  obtain ⟨dx',p,q',a1,a2,a3,f1,f2⟩:=pn
  exact ⟨dx',p,q',a1,a2,a3,mm.free f1,mm.free f2⟩
 rintro σ H11 ⟨x,rfl,e11,pn,nx⟩
 refine cut (fun σ HX=>σ=[some (.ref a),some (.int c0),some (.int g),some (.ref pt),some (.ref one),some (.ref pf),some (.int (mw:Int)),x7,some (.ref px),some (.ref pa'),some (.ref pb'),some (.ref hd),some (.ref x),none,none,none]∧HX=upd H11 q1 (.lst [])) (fun N hN=>?_) ?_
 ·walk_at "rd"
  exact ⟨_,rfl,hd,_,0,_,rfl,rfl,SqL.of (e11 _ _ hhd),rfl,.inl ⟨rfl,_,SqL.of (e11 _ _ hq1)⟩,q1,_,rfl,rfl,e11 _ _ hq1,hN _ _ ⟨rfl,rfl⟩⟩
 rintro σ H12 ⟨rfl,h12⟩
 refine cut (fun σ HX=>σ=[some (.ref a),some (.int c0),some (.int g),some (.ref pt),some (.ref one),some (.ref pf),some (.int (mw:Int)),x7,some (.ref px),some (.ref pa'),some (.ref pb'),some (.ref hd),some (.ref x),none,none,none]∧Same H9 HX∧PapV HX x t.c_10 "weights" "flows" ws' fl') (fun N hN=>?_) ?_
 ·walk_at "rd"
  have hq12:hd≠q1:=fun e=>by
   rw [e,hq1] at hhd
   have:=congrArg List.head? (HO.lst.inj (Option.some.inj hhd))
   cases ws' with
   | nil=>cases this
   | cons w0 wr=>cases this
  have k1:H12 hd=some (.lst [.ref q1,.ref q2]):=by rw [h12,upd_ne hq12];exact e11 _ _ hhd
  have k2:H12 q2=some (.lst (fl'.map V.int)):=by rw [h12,upd_ne (fun e=>ne e.symm)];exact e11 _ _ hq2
  have s12:Same H9 H12:=by rw [h12];exact (e10.trans e11).into n1
  refine ⟨hd,_,1,_,rfl,rfl,SqL.of k1,rfl,.inl ⟨_,SqL.of k2⟩,q2,rfl,_,k2,?_,hN _ _ ⟨rfl,s12.into n2,?_⟩⟩
  ·rw [List.length_map]
   exact small1000 (by lia)
  ·obtain ⟨dx',p,q',a1,a2,a3,f1,f2⟩:=pn
   have aw:∀ {y z:Addr} {o:HO},H10 y=none→H10 z=some o→y≠z:=fun hy hz e=>by rw [e,hz] at hy;cases hy
   refine ⟨dx',p,q',?_,?_,?_⟩
   ·rw [upd_ne (aw nx hq2),h12,upd_ne (aw nx hq1)];exact a1
   ·rw [upd_ne (aw f1 hq2),h12,upd_ne (aw f1 hq1)];exact a2
   ·rw [upd_ne (aw f2 hq2),h12,upd_ne (aw f2 hq1)];exact a3
 rintro σ H13 ⟨rfl,e13,pv13⟩
 refine cut (fun σ HX=>σ=[some (.ref a),some (.int c0),some (.int g),some (.ref pt),some (.ref one),some (.ref pf),some (.int (mw:Int)),x7,some (.ref px),some (.ref pa'),some (.ref pb'),some (.ref hd),some (.ref x),none,none,none]∧Same H13 HX) (fun N hN=>?_) ?_
 ·walk_at "rd"
  obtain ⟨dx',p',q',k1,k2,k3⟩:=id pv13
  refine ⟨_,T.th_10.ty k1,_,T.kt_10_18,?_⟩
  rw [if_neg (by intro z;cases z)]
  refine ⟨x,c0,ws',fl',rfl,.inl pv13,fun H14 e14=>⟨true,rfl,?_⟩⟩
  rw [if_neg (by intro z;cases z)]
  exact hN _ _ ⟨rfl,e14⟩
 rintro σ H14 ⟨rfl,e14⟩
 have e914:=e13.trans e14
 have e49:=((e6.trans e7).trans e8).trans e9
 have e4X:=e49.trans e914
 have ok14:=ok4.same e4X
 have hp14:=pv13.same e14
 refine cut (fun σ HX=>∃ (pr r1:Addr) (lo1:Int) (tab1:List Int),σ=[some (.ref a),some (.int c0),some (.int g),some (.ref pt),some (.ref one),some (.ref pf),some (.int (mw:Int)),x7,some (.ref px),some (.ref pa'),some (.ref pb'),some (.ref hd),some (.ref x),some (.ref pr),none,none]∧Same H14 HX∧HX pr=some (.lst [.ref one,.ref r1])∧H14 pr=none∧RuleOk HX r1 g lo1 tab1 m) (fun N hN=>?_) ?_
 ·walk_at "rd"
  exact ⟨a,ns,2,rfl,(e34.trans e4X).seq hS,h63,_,rfl,by decide,by decide,one,_,g,lo,tab,m,rfl,ok14,fun r1 H15 lo1 tab1 e15 ok1=>⟨by decide,fun p hp=>hN _ _ ⟨p,r1,lo1,tab1,rfl,e15.trans (Same.new hp _),upd_same,e15.free hp,ok1.same (Same.new hp _)⟩⟩⟩
 rintro σ H15 ⟨pr,r1,lo1,tab1,rfl,e15,hpr,npr,ok1⟩
 refine cut (fun σ HX=>∃ (r1:Addr) (lo1:Int) (tab1:List Int) (lf1:Int) (tf1:List Int) (mf1:Nat),σ=[some (.ref a),some (.int c0),some (.int g),some (.ref pt),some (.ref one),some (.ref pf),some (.int (mw:Int)),x7,some (.ref px),some (.ref pa'),some (.ref pb'),some (.ref hd),some (.ref x),some (.ref pr),none,none]∧Same H14 HX∧HX pr=some (.lst [.ref one,.ref r1])∧RuleOk HX r1 g lo1 tab1 m∧FrameW g lo1 tab1 m lf1 tf1 mf1∧g^(mf1 - 1)*g^mw≤729) (fun N hN=>?_) ?_
 ·walk_at "rd"
  refine ⟨pr,_,1,_,rfl,rfl,SqL.of hpr,rfl,r1,g,lo1,tab1,m,rfl,ok1,fun pf1 lf1 tf1 mf1 H16 e16 fw1 hf1 tfl1 mf18=>?_⟩
  have mf1m:mf1≤m:=by
   have:=fw1.le g2 ok1.len ok1.len fun _ _=>rfl
   lia
  have mf12:=fw1.two
  have tf18:(tf1.length:Int)≤256:=by
   have:=pow_mono g2 mf1m
   lia
  refine ⟨pf1,rfl,_,.inl (SqL.of hf1),g,_,rfl,g2,g9,by lia,by lia,_,rfl,.inl ⟨by rw [List.length_map];lia,by rw [List.length_map];lia⟩,?_⟩
  rw [List.length_map,tfl1,show ((mw:Int) - 1).toNat=mw - 1 by lia]
  have e1416:=e15.trans e16
  by_cases y:729<g^mf1*g^(mw - 1)
  ·rw [if_pos y]
   obtain ⟨tb1,h1,h2⟩:=id ok14.v
   have h1':=e1416 _ _ h1
   refine ⟨one,_,1,_,rfl,rfl,SqT.of h1',rfl,_,rfl,one,_,2,_,rfl,rfl,SqT.of h1',rfl,by decide,fun p hp=>?_⟩
   have fp:=Same.new hp (.tup [V.int g,V.int (lo+1),V.ref tb1])
   have ppr:p≠pr:=fun e=>by
    have:=e16 _ _ hpr
    rw [←e,hp] at this
    cases this
   refine ⟨_,rfl,pr,_,1,1,rfl,rfl,fp _ _ (e16 _ _ hpr),rfl,?_⟩
   obtain ⟨lf',tf',fw'⟩:=frame_next73 (lo':=lo+1) fw
   have S:=(e1416.trans fp).into npr (o:=.lst [V.ref one,V.ref p])
   exact hN _ _ ⟨p,lo+1,tab,lf',tf',mf,rfl,S,upd_same,⟨⟨tb1,by rw [upd_ne ppr];exact upd_same,S _ _ h2⟩,g2,g9,by lia,by lia,tl,gm,tb⟩,fw',s7⟩
  ·rw [if_neg y]
   refine hN _ _ ⟨r1,lo1,tab1,lf1,tf1,mf1,rfl,e1416,e16 _ _ hpr,ok1.same e16,fw1,?_⟩
   rw [show g^(mf1 - 1)*g^mw=g^mf1*g^(mw - 1) by rw [←Int.pow_add,←Int.pow_add];congr 1;lia]
   lia
 rintro σ H16 ⟨r1',lo1',tab1',lf1,tf1,mf1,rfl,e16,hpr',ok1',fw1,s71⟩
 have okA:=ok14.same e16
 have hp16:=hp14.same e16
 have ha16:=(e914.trans e16) _ _ ha'
 have hb16:=(e914.trans e16) _ _ hb'
 have mf1m:mf1≤m:=by
  have:=fw1.le g2 ok1'.len ok1'.len fun _ _=>rfl
  lia
 have mf12:=fw1.two
 have f91:g^(mf1 - 1)≤9:=by
  have g1:g^1=g:=by rw [Int.pow_succ,Int.pow_zero,Int.one_mul]
  by_cases y:mf1=2
  ·rw [y,g1];exact g9
  ·have y3:mf1=3:=by lia
   have g4:g<4:=by
    rcases hm with h | h
    ·lia
    ·exact h.2
   rw [y3,show (3 - 1:Nat)=1+1 from rfl,Int.pow_succ,g1]
   exact Int.le_trans (Int.mul_le_mul (show g≤3 by lia) (show g≤3 by lia) (by lia) (by lia)) (by decide)
 have bnd:∀ k:Nat,g^(k - 1)≤9→g^(k - 1)*g^mw≤729→(∃ j:Nat,(ws'.length:Int)=g^j)→g^(k - 1)*(ws'.length:Int)≤729:=fun k k9 k7 ⟨j,hj⟩=>by
  rcases hw' with h | h | h
  ·rw [show (ws'.length:Int)=g^mw by lia]
   exact k7
  ·exfalso
   have b1:g^mw=g^(mw - 1)*g:=by rw [←Int.pow_succ,show (mw - 1).succ=mw by lia]
   by_cases j0:j=0
   ·rw [j0,Int.pow_zero] at hj
    lia
   ·have b2:g^j=g^(j - 1)*g:=by rw [←Int.pow_succ,show (j - 1).succ=j by lia]
    have b3:1+g^(mw - 1)*g=g^(j - 1)*g:=by lia
    have b4:(1+g^(mw - 1)*g)%g=g^(j - 1)*g%g:=by rw [b3]
    rw [Int.add_mul_emod_self_right,Int.mul_emod_left,Int.emod_eq_of_lt (by decide) (by lia)] at b4
    cases b4
  ·have:=RW.pow_pos g2 (k - 1)
   have:=Int.mul_le_mul k9 (show (ws'.length:Int)≤1 by lia) (by lia) (by decide)
   lia
 have wb:ws'.length≤300:=by lia
 have anK:∀ {r:Addr} {lo:Int} {tab:List Int} {lf:Int} {tf:List Int} {mf:Nat} {HX:Hp} {b:Bool},RuleOk HX r g lo tab m→FrameW g lo tab m lf tf mf→g^(mf - 1)≤9→g^(mf - 1)*g^mw≤729→PapV HX x t.c_10 "weights" "flows" ws' fl'→(b=true↔HeldP g tf mf ws' fl')→AnsK73 t.c_51 t.c_10 HX x r b:=fun {r lo tab lf tf mf HX b} ok fw k9 k7 pv hb HY QA EA e qq =>
  ⟨x,r,g,lo,tab,m,lf,tf,mf,ws',fl',rfl,pv.same e,ok.same e,fw,fun h=>absurd h (by lia),fun _=>⟨⟨by lia,by lia,bnd mf k9 k7⟩,fun b' H' e' hb'=>by
   rw [show b'=b from Bool.eq_iff_iff.mpr (hb'.trans hb.symm)]
   exact qq H' e'⟩⟩
 refine cut (fun σ HX=>σ=[some (.ref a),some (.int c0),some (.int g),some (.ref pt),some (.ref one),some (.ref pf),some (.int (mw:Int)),x7,some (.ref px),some (.ref pa'),some (.ref pb'),some (.ref hd),some (.ref x),some (.ref pr),none,none]∧Same H16 HX) (fun N hN=>?_) ?_
 ·walk_at "rd"
  refine ⟨by decide,fun pp hpp=>?_⟩
  have ep:=Same.new hpp (.lst [V.ref pa',V.ref pb'])
  refine ⟨_,rfl,pr,rfl,⟨_,SqL.of (ep _ _ hpr')⟩,fun D hD=>?_⟩
  refine comp_list (xs:=[V.ref one,V.ref r1']) (fun i acc Hx=>((i=0∧acc=[])∨(i=1∧∃ b0,acc=[V.bl b0]∧(b0=true↔HeldP g tf mf ws' fl'))∨(i=2∧∃ b0 b1,acc=[V.bl b0,V.bl b1]∧(b0=true↔HeldP g tf mf ws' fl')∧(b1=true↔HeldP g tf1 mf1 ws' fl')))∧Same (upd H16 pp (.lst [V.ref pa',V.ref pb'])) Hx∧Hx D=some (.lst acc)) ⟨.inl ⟨rfl,rfl⟩,Same.new hD _,upd_same⟩ (fun i acc Hx _ z=>SqL.of ((ep.trans z.2.1) _ _ hpr')) ?_ ?_
  ·rintro i v acc Hx hv ⟨cs,ex,hDx⟩
   have eX:=ep.trans ex
   have sm:acc.length<sizeLine:=small1000 (by
    rcases cs with ⟨_,z⟩ | ⟨_,b0,z,_⟩ | ⟨_,b0,b1,z,_⟩
    ·rw [z];decide
    ·rw [z];show 1≤1000;decide
    ·rw [z];show 2≤1000;decide)
   rcases i with _ | _ | i
   ·obtain rfl:V.ref one=v:=Option.some.inj hv
    obtain rfl:acc=[]:=by
     rcases cs with ⟨_,z⟩ | ⟨z,_⟩ | ⟨z,_⟩
     ·exact z
     ·cases z
     ·cases z
    walk_at "rd"
    refine ⟨one,pa',pb',g,lo,tab,m,ws',fl',rfl,okA.same eX,eX _ _ ha16,eX _ _ hb16,by lia,by lia,fun lf' tf' mf' fw'=>?_⟩
    obtain ⟨rfl,rfl⟩:=frame_uniq73 g2 ok.len fw' fw
    exact ⟨bnd _ f9 s7,fun c H5 e5 hc=>⟨e5 _ _ hDx,sm,(by first | exact ⟨c,rfl,hc⟩ | exact .inl ⟨c,rfl,hc⟩ | exact .inr (.inl ⟨c,rfl,hc⟩) | exact .inr (.inl ⟨c,⟨rfl,rfl⟩,hc⟩) | (simp;exact hc)),(ex.trans e5).into hD,upd_same⟩⟩
   ·obtain rfl:V.ref r1'=v:=Option.some.inj hv
    obtain ⟨b0,rfl,hb0⟩:∃ b0,acc=[V.bl b0]∧(b0=true↔HeldP g tf mf ws' fl'):=by
     rcases cs with ⟨z,_⟩ | ⟨_,z⟩ | ⟨z,_⟩
     ·cases z
     ·exact z
     ·cases z
    walk_at "rd"
    refine ⟨r1',pa',pb',g,lo1',tab1',m,ws',fl',rfl,ok1'.same eX,eX _ _ ha16,eX _ _ hb16,by lia,by lia,fun lf' tf' mf' fw'=>?_⟩
    obtain ⟨rfl,rfl⟩:=frame_uniq73 g2 ok1'.len fw' fw1
    exact ⟨bnd _ f91 s71,fun c H5 e5 hc=>⟨e5 _ _ hDx,sm,(by first | exact ⟨b0,c,rfl,hb0,hc⟩ | exact .inr ⟨b0,c,rfl,hb0,hc⟩ | exact .inr (.inr ⟨b0,c,rfl,hb0,hc⟩) | exact .inr (.inr ⟨b0,c,⟨rfl,rfl⟩,hb0,hc⟩) | (simp;exact ⟨hb0,hc⟩)),(ex.trans e5).into hD,upd_same⟩⟩
   ·cases hv
  ·rintro acc H18 ⟨cs,e18,h18⟩
   obtain ⟨b0,b1,rfl,hb0,hb1⟩:∃ b0 b1,acc=[V.bl b0,V.bl b1]∧(b0=true↔HeldP g tf mf ws' fl')∧(b1=true↔HeldP g tf1 mf1 ws' fl'):=by
    rcases cs with ⟨z,_⟩ | ⟨z,_⟩ | ⟨_,z⟩
    ·cases z
    ·cases z
    ·exact z
   have e1618:=ep.trans e18
   have pv18:=hp16.same e1618
   refine ⟨x,pr,pp,D,one,r1',pa',pb',b0,b1,ws',fl',rfl,e1618 _ _ hpr',e18 _ _ upd_same,h18,e1618 _ _ ha16,e1618 _ _ hb16,by lia,by lia,.inl ⟨pv18,anK (okA.same e1618) fw f9 s7 pv18 hb0,anK (ok1'.same e1618) fw1 f91 s71 pv18 hb1⟩,fun H19 e19=>⟨true,rfl,?_⟩⟩
   rw [if_neg (by intro z;cases z)]
   exact hN _ _ ⟨rfl,e1618.trans e19⟩
 rintro σ H17 ⟨rfl,e17⟩
 have hprX:=e17 _ _ hpr'
 have okB:=okA.same e17
 have okC:=ok1'.same e17
 have ha17:=e17 _ _ ha16
 have eH17:=(e34.trans e4X).trans (e16.trans e17)
 refine cut (fun σ HX=>∃ (pg:Addr) (ring:List Int),σ=[some (.ref a),some (.int c0),some (.int g),some (.ref pt),some (.ref one),some (.ref pf),some (.int (mw:Int)),x7,some (.ref px),some (.ref pa'),some (.ref pb'),some (.ref hd),some (.ref x),some (.ref pr),some (.ref pg),none]∧Same H17 HX∧HX pg=some (.lst (ring.map V.int))∧ring.length≤200) (fun N hN=>?_) ?_
 ·walk_at "rd"
  refine ⟨a,ns,1,rfl,eH17.seq hS,h63,_,rfl,by decide,by decide,by decide,a,ns,g,_,rfl,eH17.seq hS,h63,g2,g9,fun pg H18 ring n18 rl=>hN _ _ ⟨pg,ring,rfl,n18.1,n18.2.2,rl⟩⟩
 rintro σ H18 ⟨pg,ring,rfl,e18,hg,rl⟩
 have ha18:=e18 _ _ ha17
 refine cut (fun σ HX=>∃ (hd q1 q2:Addr),σ=[some (.ref a),some (.int c0),some (.int g),some (.ref pt),some (.ref one),some (.ref pf),some (.int (mw:Int)),x7,some (.ref px),some (.ref pa'),some (.ref pb'),some (.ref hd),some (.ref x),some (.ref pr),some (.ref pg),none]∧Same H18 HX∧HX hd=some (.lst [.ref q1,.ref q2])∧HX q1=some (.lst (ws'.map V.int))∧HX q2=some (.lst (ring.map V.int))∧H18 q1=none∧H18 q2=none∧H18 hd=none∧q1≠q2) (fun N hN=>?_) ?_
 ·walk_at "rd"
  refine ⟨_,.inl (SqL.of ha18),fun l1 hl1=>⟨_,.inl (SqL.of ((Same.new hl1 _) _ _ hg)),fun l2 hl2=>⟨by decide,fun p hp=>?_⟩⟩⟩
  have f1:=Same.new hl1 (.lst (ws'.map V.int))
  have f2:=Same.new hl2 (.lst (ring.map V.int))
  have f3:=Same.new hp (.lst [V.ref l1,V.ref l2])
  have ne:l1≠l2:=fun e=>by rw [←e,upd_same] at hl2;cases hl2
  exact hN _ _ ⟨p,l1,l2,rfl,(f1.trans f2).trans f3,upd_same,(f2.trans f3) _ _ upd_same,f3 _ _ upd_same,hl1,f1.free hl2,(f1.trans f2).free hp,ne⟩
 clear hhd hq1 hq2 n1 n2 nh ne hd q1 q2 pn nx h12
 rintro σ H19 ⟨hd,q1,q2,rfl,e19,hhd,hq1,hq2,n1,n2,nh,ne⟩
 refine cut (fun σ HX=>∃ y:Addr,σ=[some (.ref a),some (.int c0),some (.int g),some (.ref pt),some (.ref one),some (.ref pf),some (.int (mw:Int)),x7,some (.ref px),some (.ref pa'),some (.ref pb'),some (.ref hd),some (.ref x),some (.ref pr),some (.ref pg),some (.ref y)]∧Same H19 HX∧PapN H19 HX y t.c_18 "weights" "ring" ws' ring∧H19 y=none) (fun N hN=>?_) ?_
 ·refine ⟨_,rfl,hd,_,0,_,rfl,rfl,SqL.of hhd,rfl,_,rfl,hd,_,1,_,rfl,rfl,SqL.of hhd,rfl,fun y dx hx' hdx ne'=>?_⟩
  have m1:=Same.new hdx (.own y)
  have hx2:upd H19 dx (.own y) y=none:=by rw [upd_ne (fun e=>ne' e.symm)];exact hx'
  have mm:=m1.trans (Same.new hx2 (.ins t.c_18 dx []))
  refine ⟨y,dx,q1,q2,ws',ring,rfl,upd_same,mm _ _ hq1,mm _ _ hq2,fun H' sm pn=>⟨rfl,hN _ _ ⟨y,rfl,sm H19 mm hx',?_,hx'⟩⟩⟩
  obtain ⟨dx',p,q',a1,a2,a3,f1,f2⟩:=pn
  exact ⟨dx',p,q',a1,a2,a3,mm.free f1,mm.free f2⟩
 rintro σ H20 ⟨y,rfl,e20,pn,ny⟩
 refine cut (fun σ HX=>σ=[some (.ref a),some (.int c0),some (.int g),some (.ref pt),some (.ref one),some (.ref pf),some (.int (mw:Int)),x7,some (.ref px),some (.ref pa'),some (.ref pb'),some (.ref hd),some (.ref x),some (.ref pr),some (.ref pg),some (.ref y)]∧HX=upd H20 q1 (.lst (ws'.map V.int++[V.int 0]))) (fun N hN=>?_) ?_
 ·walk_at "rd"
  refine ⟨hd,_,0,_,rfl,rfl,SqL.of (e20 _ _ hhd),rfl,.inl ⟨_,SqL.of (e20 _ _ hq1)⟩,q1,rfl,_,e20 _ _ hq1,?_,hN _ _ ⟨rfl,rfl⟩⟩
  rw [List.length_map]
  exact small1000 (by lia)
 rintro σ H21 ⟨rfl,h21⟩
 refine cut (fun σ HX=>σ=[some (.ref a),some (.int c0),some (.int g),some (.ref pt),some (.ref one),some (.ref pf),some (.int (mw:Int)),x7,some (.ref px),some (.ref pa'),some (.ref pb'),some (.ref hd),some (.ref x),some (.ref pr),some (.ref pg),some (.ref y)]∧Same H18 HX∧PapV HX y t.c_18 "weights" "ring" ws' ring) (fun N hN=>?_) ?_
 ·have hq12:hd≠q1:=fun e=>by
   rw [e,hq1] at hhd
   have:=congrArg List.head? (HO.lst.inj (Option.some.inj hhd))
   cases ws' with
   | nil=>cases this
   | cons w0 wr=>cases this
  have k1:H21 hd=some (.lst [.ref q1,.ref q2]):=by rw [h21,upd_ne hq12];exact e20 _ _ hhd
  have k2:H21 q2=some (.lst (ring.map V.int)):=by rw [h21,upd_ne (fun e=>ne e.symm)];exact e20 _ _ hq2
  have s21:Same H18 H21:=by rw [h21];exact (e19.trans e20).into n1
  refine ⟨_,rfl,hd,_,1,_,rfl,rfl,SqL.of k1,rfl,.inl ⟨rfl,_,SqL.of k2⟩,q2,_,rfl,rfl,k2,hN _ _ ⟨rfl,s21.into n2,?_⟩⟩
  obtain ⟨dx',p,q',a1,a2,a3,f1,f2⟩:=pn
  have aw:∀ {y z:Addr} {o:HO},H19 y=none→H19 z=some o→y≠z:=fun hy hz e=>by rw [e,hz] at hy;cases hy
  refine ⟨dx',p,q',?_,?_,?_⟩
  ·rw [upd_ne (aw ny hq2),h21,upd_ne (aw ny hq1)];exact a1
  ·rw [upd_ne (aw f1 hq2),h21,upd_ne (aw f1 hq1)];exact a2
  ·rw [upd_ne (aw f2 hq2),h21,upd_ne (aw f2 hq1)];exact a3
 rintro σ H22 ⟨rfl,e22,pv22⟩
 refine cut (fun σ HX=>σ=[some (.ref a),some (.int c0),some (.int g),some (.ref pt),some (.ref one),some (.ref pf),some (.int (mw:Int)),x7,some (.ref px),some (.ref pa'),some (.ref pb'),some (.ref hd),some (.ref x),some (.ref pr),some (.ref pg),some (.ref y)]∧Same H22 HX) (fun N hN=>?_) ?_
 ·walk_at "rd"
  obtain ⟨dx',p',q',k1,k2,k3⟩:=id pv22
  refine ⟨_,T.th_18.ty k1,_,T.kt_18_10,?_⟩
  rw [if_neg (by intro z;cases z)]
  refine ⟨y,c0,ws',ring,rfl,.inr pv22,fun H14 e14=>⟨true,rfl,?_⟩⟩
  rw [if_neg (by intro z;cases z)]
  exact hN _ _ ⟨rfl,e14⟩
 rintro σ H23 ⟨rfl,e23⟩
 have e1723:=(e18.trans e22).trans e23
 have pv23:=pv22.same e23
 have hg23:=(e22.trans e23) _ _ hg
 have ha23:=e1723 _ _ ha17
 have hpr23:=e1723 _ _ hprX
 have ok0D:=okB.same e1723
 have ok1D:=okC.same e1723
 have anC:∀ {r:Addr} {lo:Int} {tab:List Int} {lf:Int} {tf:List Int} {mf:Nat} {HX:Hp} {b:Bool},RuleOk HX r g lo tab m→FrameW g lo tab m lf tf mf→g^(mf - 1)≤9→PapV HX y t.c_18 "weights" "ring" ws' ring→(b=true↔ChgP g lo tab m ws' ring)→AnsC73 t.c_51 t.c_18 HX y r b:=fun {r lo tab lf tf mf HX b} ok fw k9 pv hb HY QA EA e qq =>
  ⟨y,r,g,lo,tab,m,lf,tf,mf,ws',ring,rfl,pv.same e,ok.same e,fw,fun h=>absurd h (by lia),fun _=>⟨⟨by lia,by lia⟩,fun b' H' e' hb'=>by
   rw [show b'=b from Bool.eq_iff_iff.mpr (hb'.trans hb.symm)]
   exact qq H' e'⟩⟩
 walk_at "rd"
 refine ⟨by decide,fun pp hpp=>?_⟩
 have ep:=Same.new hpp (.lst [V.ref pa',V.ref pg])
 refine ⟨_,rfl,pr,rfl,⟨_,SqL.of (ep _ _ hpr23)⟩,fun D hD=>?_⟩
 refine comp_list (xs:=[V.ref one,V.ref r1']) (fun i acc Hx=>((i=0∧acc=[])∨(i=1∧∃ b0,acc=[V.bl b0]∧(b0=true↔ChgP g lo tab m ws' ring))∨(i=2∧∃ b0 b1,acc=[V.bl b0,V.bl b1]∧(b0=true↔ChgP g lo tab m ws' ring)∧(b1=true↔ChgP g lo1' tab1' m ws' ring)))∧Same (upd H23 pp (.lst [V.ref pa',V.ref pg])) Hx∧Hx D=some (.lst acc)) ⟨.inl ⟨rfl,rfl⟩,Same.new hD _,upd_same⟩ (fun i acc Hx _ z=>SqL.of ((ep.trans z.2.1) _ _ hpr23)) ?_ ?_
 ·rintro i v acc Hx hv ⟨cs,ex,hDx⟩
  have eX:=ep.trans ex
  have sm:acc.length<sizeLine:=small1000 (by
   rcases cs with ⟨_,z⟩ | ⟨_,b0,z,_⟩ | ⟨_,b0,b1,z,_⟩
   ·rw [z];decide
   ·rw [z];show 1≤1000;decide
   ·rw [z];show 2≤1000;decide)
  rcases i with _ | _ | i
  ·obtain rfl:V.ref one=v:=Option.some.inj hv
   obtain rfl:acc=[]:=by
    rcases cs with ⟨_,z⟩ | ⟨z,_⟩ | ⟨z,_⟩
    ·exact z
    ·cases z
    ·cases z
   walk_at "rd"
   exact ⟨one,pa',pg,g,lo,tab,m,ws',ring,rfl,ok0D.same eX,eX _ _ ha23,eX _ _ hg23,by lia,by lia,fun c H5 e5 hc=>⟨e5 _ _ hDx,sm,(by first | exact ⟨c,rfl,hc⟩ | exact .inl ⟨c,rfl,hc⟩ | exact .inr (.inl ⟨c,rfl,hc⟩) | (simp;exact hc)),(ex.trans e5).into hD,upd_same⟩⟩
  ·obtain rfl:V.ref r1'=v:=Option.some.inj hv
   obtain ⟨b0,rfl,hb0⟩:∃ b0,acc=[V.bl b0]∧(b0=true↔ChgP g lo tab m ws' ring):=by
    rcases cs with ⟨z,_⟩ | ⟨_,z⟩ | ⟨z,_⟩
    ·cases z
    ·exact z
    ·cases z
   walk_at "rd"
   exact ⟨r1',pa',pg,g,lo1',tab1',m,ws',ring,rfl,ok1D.same eX,eX _ _ ha23,eX _ _ hg23,by lia,by lia,fun c H5 e5 hc=>⟨e5 _ _ hDx,sm,(by first | exact ⟨b0,c,rfl,hb0,hc⟩ | exact .inr ⟨b0,c,rfl,hb0,hc⟩ | exact .inr (.inr ⟨b0,c,rfl,hb0,hc⟩) | (simp;exact ⟨hb0,hc⟩)),(ex.trans e5).into hD,upd_same⟩⟩
  ·cases hv
 ·rintro acc H24 ⟨cs,e24,h24⟩
  obtain ⟨b0,b1,rfl,hb0,hb1⟩:∃ b0 b1,acc=[V.bl b0,V.bl b1]∧(b0=true↔ChgP g lo tab m ws' ring)∧(b1=true↔ChgP g lo1' tab1' m ws' ring):=by
   rcases cs with ⟨z,_⟩ | ⟨z,_⟩ | ⟨_,z⟩
   ·cases z
   ·cases z
   ·exact z
  have e2324:=ep.trans e24
  have pv24:=pv23.same e2324
  exact ⟨y,pr,pp,D,one,r1',pa',pg,b0,b1,ws',ring,rfl,e2324 _ _ hpr23,e24 _ _ upd_same,h24,e2324 _ _ ha23,e2324 _ _ hg23,by lia,by lia,.inr ⟨pv24,anC (ok0D.same e2324) fw f9 pv24 hb0,anC (ok1D.same e2324) fw1 f91 pv24 hb1⟩,fun H' _=>q H'⟩
end
theorem all_mk {l:PySem.W.OpenLaw} {w:World} {K:PySem.W.Frag} {h:Heap} {mg:Str→Option Value} {fa c_47 c_57 c_62 c_58 c_46 c_51 c_36 c_63 c_37 c_10 c_18 f_7 f_50 f_53 f_54 f_52 f_33 f_16 f_45 f_56 f_32 f_35 f_17 f_21 f_68 f_61 f_44 f_65 f_67 f_43 f_59 f_48 f_6 f_42 f_60 f_55 f_64 f_66 f_23 f_34 f_49 f_22 f_9 f_0 f_4 f_2 f_1 f_5 f_3 f_31 f_11 f_20 f_27 f_8 f_26 f_29 f_25 f_41 f_13 f_28 f_15 f_38 f_30 f_12 f_40 f_39 f_19 f_24 f_14 f_69:Addr} {g_LONGEST_TABLE g_MOST_NODES:Tok} (X:K.In h) (G:h.Ns mainGlobals mg) (hfa:mg "law"=some (.ref fa))
  (n_47:PySem.W.nsIn K mainGlobals "RowError"=some (some (.ref c_47)))
  (n_57:PySem.W.nsIn K mainGlobals "NoRule"=some (some (.ref c_57)))
  (n_62:PySem.W.nsIn K mainGlobals "NoRow"=some (some (.ref c_62)))
  (n_58:PySem.W.nsIn K mainGlobals "NoSuch"=some (some (.ref c_58)))
  (n_46:PySem.W.nsIn K mainGlobals "NoWindow"=some (some (.ref c_46)))
  (n_51:PySem.W.nsIn K mainGlobals "TooWide"=some (some (.ref c_51)))
  (n_36:PySem.W.nsIn K mainGlobals "NoWeights"=some (some (.ref c_36)))
  (n_63:PySem.W.nsIn K mainGlobals "Paper"=some (some (.ref c_63)))
  (n_37:PySem.W.nsIn K mainGlobals "OntoPaper"=some (some (.ref c_37)))
  (n_10:PySem.W.nsIn K mainGlobals "KeepingPaper"=some (some (.ref c_10)))
  (n_18:PySem.W.nsIn K mainGlobals "ChangePaper"=some (some (.ref c_18)))
  (a_7:PySem.W.findIn K (.ref c_62) "__init__"=some (some (.ref f_7)))
  (h_7:∃ fd,Fun K "__init__" "NoRow.__init__" s_7 f_7 fd)
  (h_50:HasDef K "is_whole" s_50 f_50)
  (h_53:HasDef K "is_sign" s_53 f_53)
  (h_54:HasDef K "is_word" s_54 f_54)
  (h_52:HasDef K "is_ring" s_52 f_52)
  (h_33:HasDef K "check_word" s_33 f_33)
  (h_16:HasDef K "check_length" s_16 f_16)
  (h_45:HasDef K "number_of" s_45 f_45)
  (h_56:HasDef K "word_of" s_56 f_56)
  (h_32:HasDef K "check_head" s_32 f_32)
  (h_35:HasDef K "places_for" s_35 f_35)
  (h_17:HasDef K "table_length" s_17 f_17)
  (h_21:HasDef K "check_table" s_21 f_21)
  (h_68:HasDef K "rule" s_68 f_68)
  (h_61:HasDef K "places" s_61 f_61)
  (h_44:HasDef K "next_sign" s_44 f_44)
  (h_65:HasDef K "heads" s_65 f_65)
  (h_67:HasDef K "lead" s_67 f_67)
  (h_43:HasDef K "lead_ring" s_43 f_43)
  (h_59:HasDef K "counts" s_59 f_59)
  (h_48:HasDef K "counting" s_48 f_48)
  (h_6:HasDef K "sign_or_nought" s_6 f_6)
  (h_42:HasDef K "by_window" s_42 f_42)
  (h_60:HasDef K "narrow" s_60 f_60)
  (h_55:HasDef K "widened" s_55 f_55)
  (h_64:HasDef K "frame" s_64 f_64)
  (h_66:HasDef K "weigh" s_66 f_66)
  (h_23:HasDef K "gain_places" s_23 f_23)
  (h_34:HasDef K "many_gains" s_34 f_34)
  (h_49:HasDef K "gains_by" s_49 f_49)
  (h_22:HasDef K "first_wrong" s_22 f_22)
  (h_9:HasDef K "changes_total" s_9 f_9)
  (a_0:PySem.W.findIn K (.ref c_10) "__init__"=some (some (.ref f_0)))
  (h_0:∃ fd,Fun K "__init__" "KeepingPaper.__init__" s_0 f_0 fd)
  (a_4:PySem.W.findIn K (.ref c_10) "told"=some (some (.ref f_4)))
  (h_4:∃ fd,Fun K "told" "KeepingPaper.told" s_4 f_4 fd)
  (a_2:PySem.W.findIn K (.ref c_10) "holds"=some (some (.ref f_2)))
  (h_2:∃ fd,Fun K "holds" "KeepingPaper.holds" s_2 f_2 fd)
  (a_1:PySem.W.findIn K (.ref c_18) "__init__"=some (some (.ref f_1)))
  (h_1:∃ fd,Fun K "__init__" "ChangePaper.__init__" s_1 f_1 fd)
  (a_5:PySem.W.findIn K (.ref c_18) "told"=some (some (.ref f_5)))
  (h_5:∃ fd,Fun K "told" "ChangePaper.told" s_5 f_5 fd)
  (a_3:PySem.W.findIn K (.ref c_18) "holds"=some (some (.ref f_3)))
  (h_3:∃ fd,Fun K "holds" "ChangePaper.holds" s_3 f_3 fd)
  (h_31:HasDef K "_law_whole" s_31 f_31)
  (h_11:HasDef K "_law_cell_at" s_11 f_11)
  (h_20:HasDef K "_law_stream" s_20 f_20)
  (h_27:HasDef K "_law_power" s_27 f_27)
  (h_8:HasDef K "_law_exponent" s_8 f_8)
  (h_26:HasDef K "_law_going" s_26 f_26)
  (h_29:HasDef K "_law_table" s_29 f_29)
  (h_25:HasDef K "_law_frame" s_25 f_25)
  (h_41:HasDef K "_law_word" s_41 f_41)
  (h_13:HasDef K "_law_numbers" s_13 f_13)
  (h_28:HasDef K "_law_steps" s_28 f_28)
  (h_15:HasDef K "_law_spoiled" s_15 f_15)
  (h_38:HasDef K "_law_held" s_38 f_38)
  (h_30:HasDef K "_law_total" s_30 f_30)
  (h_12:HasDef K "_law_changes" s_12 f_12)
  (h_40:HasDef K "_law_ring" s_40 f_40)
  (h_39:HasDef K "_law_list" s_39 f_39)
  (h_19:HasDef K "_law_second" s_19 f_19)
  (h_24:HasDef K "_law_asked" s_24 f_24)
  (h_14:HasDef K "_law_refused" s_14 f_14)
  (h_69:HasDef K "law" s_69 f_69)
  (z_len:PySem.W.nsIn K mainGlobals "len"=some none)
  (z_list:PySem.W.nsIn K mainGlobals "list"=some none)
  (z_reversed:PySem.W.nsIn K mainGlobals "reversed"=some none)
  (z_isinstance:PySem.W.nsIn K mainGlobals "isinstance"=some none)
  (z_range:PySem.W.nsIn K mainGlobals "range"=some none)
  (z_int:PySem.W.nsIn K mainGlobals "int"=some none)
  (z_bool:PySem.W.nsIn K mainGlobals "bool"=some none)
  (z_ValueError:PySem.W.nsIn K mainGlobals "ValueError"=some none)
  (z_tuple:PySem.W.nsIn K mainGlobals "tuple"=some none)
  (z_enumerate:PySem.W.nsIn K mainGlobals "enumerate"=some none)
  (z_min:PySem.W.nsIn K mainGlobals "min"=some none)
  (z_max:PySem.W.nsIn K mainGlobals "max"=some none)
  (z_sum:PySem.W.nsIn K mainGlobals "sum"=some none)
  (z_all:PySem.W.nsIn K mainGlobals "all"=some none)
  (w_LONGEST_TABLE:PySem.W.nsIn K mainGlobals "LONGEST_TABLE"=some (some (.int 256 g_LONGEST_TABLE)))
  (w_MOST_NODES:PySem.W.nsIn K mainGlobals "MOST_NODES"=some (some (.int 9 g_MOST_NODES)))
  (pg_10:PySem.W.plainGet K c_10 Str.empty=true)
  (hd_10:PySem.W.hasDictIn K c_10=true)
  (po_10:PySem.W.plainOver K c_10=true)
  (sa_10:PySem.W.findIn K (.ref c_10) "__setattr__"=some (some (.builtin "object.__setattr__")))
  (ca_10:PySem.W.findIn K (.ref c_10) "__class__"=some (some (.builtin "object.__class__")))
  (sg_10:PySem.W.specialIn K (.builtin "object.__class__") "__get__"=some (some (.builtin "getset_descriptor.__get__")))
  (tk_10:PySem.W.takesIn K (.builtin "object.__class__")=some true)
  (mo_10:PySem.W.mroIn K c_10 (.type "object")=some true)
  (na_KeepingPaper_weights:PySem.W.findIn K (.ref c_10) "weights"=some none)
  (na_KeepingPaper_flows:PySem.W.findIn K (.ref c_10) "flows"=some none)
  (ms_10:PySem.W.makesIn K c_10=true)
  (if_10:PySem.W.isFn K (.ref f_0)=true)
  (kc_10:PySem.W.keepIn K (.ref c_10)=true)
  (mf_4:PySem.W.isFn K (.ref f_4)=true)
  (mp_4:PySem.W.keepIn K (.ref f_4)=true)
  (mf_2:PySem.W.isFn K (.ref f_2)=true)
  (mp_2:PySem.W.keepIn K (.ref f_2)=true)
  (pg_18:PySem.W.plainGet K c_18 Str.empty=true)
  (hd_18:PySem.W.hasDictIn K c_18=true)
  (po_18:PySem.W.plainOver K c_18=true)
  (sa_18:PySem.W.findIn K (.ref c_18) "__setattr__"=some (some (.builtin "object.__setattr__")))
  (ca_18:PySem.W.findIn K (.ref c_18) "__class__"=some (some (.builtin "object.__class__")))
  (sg_18:PySem.W.specialIn K (.builtin "object.__class__") "__get__"=some (some (.builtin "getset_descriptor.__get__")))
  (tk_18:PySem.W.takesIn K (.builtin "object.__class__")=some true)
  (mo_18:PySem.W.mroIn K c_18 (.type "object")=some true)
  (na_ChangePaper_weights:PySem.W.findIn K (.ref c_18) "weights"=some none)
  (na_ChangePaper_ring:PySem.W.findIn K (.ref c_18) "ring"=some none)
  (ms_18:PySem.W.makesIn K c_18=true)
  (if_18:PySem.W.isFn K (.ref f_1)=true)
  (kc_18:PySem.W.keepIn K (.ref c_18)=true)
  (mf_5:PySem.W.isFn K (.ref f_5)=true)
  (mp_5:PySem.W.keepIn K (.ref f_5)=true)
  (mf_3:PySem.W.isFn K (.ref f_3)=true)
  (mp_3:PySem.W.keepIn K (.ref f_3)=true)
  (x_57:PySem.W.excIn K c_57 bmVE "ValueError.__new__"=true)
  (x_58:PySem.W.excIn K c_58 bmVE "ValueError.__new__"=true)
  (x_46:PySem.W.excIn K c_46 bmVE "ValueError.__new__"=true)
  (x_51:PySem.W.excIn K c_51 bmVE "ValueError.__new__"=true)
  (xi_62:exI K c_62 f_7=true)
  (xt_62:PySem.W.typeIn K (.ref f_7)=some (.type "function"))
  (xk_62:PySem.W.keepIn K (.ref c_62)=true)
  (ci_62:(PySem.W.clsIn K c_62).isSome=true)
  (ga_62:PySem.W.findIn K (.ref c_62) "__getattribute__"=some (some (.builtin "BaseException.__getattribute__")))
  (gn_62:PySem.W.findIn K (.ref c_62) "__getattr__"=some none)
  (ca_62:PySem.W.findIn K (.ref c_62) "__class__"=some (some (.builtin "object.__class__")))
  (sg_62:PySem.W.specialIn K (.builtin "object.__class__") "__get__"=some (some (.builtin "getset_descriptor.__get__")))
  (tk_62:PySem.W.takesIn K (.builtin "object.__class__")=some true)
  (mo_62:PySem.W.mroIn K c_62 (.type "object")=some true)
  (mb_62:PySem.W.mroIn K c_62 (.type "BaseException")=some true)
  (ci_51:(PySem.W.clsIn K c_51).isSome=true)
  (ga_51:PySem.W.findIn K (.ref c_51) "__getattribute__"=some (some (.builtin "BaseException.__getattribute__")))
  (gn_51:PySem.W.findIn K (.ref c_51) "__getattr__"=some none)
  (ca_51:PySem.W.findIn K (.ref c_51) "__class__"=some (some (.builtin "object.__class__")))
  (sg_51:PySem.W.specialIn K (.builtin "object.__class__") "__get__"=some (some (.builtin "getset_descriptor.__get__")))
  (tk_51:PySem.W.takesIn K (.builtin "object.__class__")=some true)
  (mo_51:PySem.W.mroIn K c_51 (.type "object")=some true)
  (mb_51:PySem.W.mroIn K c_51 (.type "BaseException")=some true)
  (sa_62:PySem.W.findIn K (.ref c_62) "__setattr__"=some (some (.builtin "object.__setattr__")))
  (hd_62:PySem.W.hasDictIn K c_62=true)
  (mr_62:mroT K c_62 c_47=true)
  (no_62:PySem.W.findIn K (.ref c_62) "at"=some none)
  (kt_51_51:PySem.W.kitOne K (.ref c_51) (.ref c_51)=some true)
  (kt_TooWide_ValueError:PySem.W.kitOne K (.ref c_51) (.type "ValueError")=some true)
  (kt_51_62:PySem.W.kitOne K (.ref c_51) (.ref c_62)=some false)
  (kt_51_36:PySem.W.kitOne K (.ref c_51) (.ref c_36)=some false)
  (kt_10_18:PySem.W.kitOne K (.ref c_10) (.ref c_18)=some false)
  (kt_10_63:PySem.W.kitOne K (.ref c_10) (.ref c_63)=some true)
  (kt_10_37:PySem.W.kitOne K (.ref c_10) (.ref c_37)=some false)
  (kt_18_10:PySem.W.kitOne K (.ref c_18) (.ref c_10)=some false)
  (kt_18_63:PySem.W.kitOne K (.ref c_18) (.ref c_63)=some true)
  (kt_18_37:PySem.W.kitOne K (.ref c_18) (.ref c_37)=some false)
  (em_51_47:PySem.W.exmOne K (.ref c_51) (.ref c_47)=some true)
  : ∃ fd:FuncData,(∀ (s:Shared) (v:Value),BindsTo s fd ⟨[v],[]⟩ [("_law_script",v)])∧∀ base:Heap,K.In base→base.Ns mainGlobals mg→FnOk l.prog w K mg base (CXF l.prog w) 11 fa fd ["_law_script"] (spLaw K):=by
 have T:Txt K mg ⟨c_47,c_57,c_62,c_58,c_46,c_51,c_36,c_63,c_37,c_10,c_18,f_7,f_50,f_53,f_54,f_52,f_33,f_16,f_45,f_56,f_32,f_35,f_17,f_21,f_68,f_61,f_44,f_65,f_67,f_43,f_59,f_48,f_6,f_42,f_60,f_55,f_64,f_66,f_23,f_34,f_49,f_22,f_9,f_0,f_4,f_2,f_1,f_5,f_3,f_31,f_11,f_20,f_27,f_8,f_26,f_29,f_25,f_41,f_13,f_28,f_15,f_38,f_30,f_12,f_40,f_39,f_19,f_24,f_14,f_69⟩:=⟨PySem.W.mg_of X G n_47,PySem.W.mg_of X G n_57,PySem.W.mg_of X G n_62,PySem.W.mg_of X G n_58,PySem.W.mg_of X G n_46,PySem.W.mg_of X G n_51,PySem.W.mg_of X G n_36,PySem.W.mg_of X G n_63,PySem.W.mg_of X G n_37,PySem.W.mg_of X G n_10,PySem.W.mg_of X G n_18,h_7,PySem.W.mg_of X G h_50.2,h_50.1,PySem.W.mg_of X G h_53.2,h_53.1,PySem.W.mg_of X G h_54.2,h_54.1,PySem.W.mg_of X G h_52.2,h_52.1,PySem.W.mg_of X G h_33.2,h_33.1,PySem.W.mg_of X G h_16.2,h_16.1,PySem.W.mg_of X G h_45.2,h_45.1,PySem.W.mg_of X G h_56.2,h_56.1,PySem.W.mg_of X G h_32.2,h_32.1,PySem.W.mg_of X G h_35.2,h_35.1,PySem.W.mg_of X G h_17.2,h_17.1,PySem.W.mg_of X G h_21.2,h_21.1,PySem.W.mg_of X G h_68.2,h_68.1,PySem.W.mg_of X G h_61.2,h_61.1,PySem.W.mg_of X G h_44.2,h_44.1,PySem.W.mg_of X G h_65.2,h_65.1,PySem.W.mg_of X G h_67.2,h_67.1,PySem.W.mg_of X G h_43.2,h_43.1,PySem.W.mg_of X G h_59.2,h_59.1,PySem.W.mg_of X G h_48.2,h_48.1,PySem.W.mg_of X G h_6.2,h_6.1,PySem.W.mg_of X G h_42.2,h_42.1,PySem.W.mg_of X G h_60.2,h_60.1,PySem.W.mg_of X G h_55.2,h_55.1,PySem.W.mg_of X G h_64.2,h_64.1,PySem.W.mg_of X G h_66.2,h_66.1,PySem.W.mg_of X G h_23.2,h_23.1,PySem.W.mg_of X G h_34.2,h_34.1,PySem.W.mg_of X G h_49.2,h_49.1,PySem.W.mg_of X G h_22.2,h_22.1,PySem.W.mg_of X G h_9.2,h_9.1,h_0,h_4,h_2,h_1,h_5,h_3,PySem.W.mg_of X G h_31.2,h_31.1,PySem.W.mg_of X G h_11.2,h_11.1,PySem.W.mg_of X G h_20.2,h_20.1,PySem.W.mg_of X G h_27.2,h_27.1,PySem.W.mg_of X G h_8.2,h_8.1,PySem.W.mg_of X G h_26.2,h_26.1,PySem.W.mg_of X G h_29.2,h_29.1,PySem.W.mg_of X G h_25.2,h_25.1,PySem.W.mg_of X G h_41.2,h_41.1,PySem.W.mg_of X G h_13.2,h_13.1,PySem.W.mg_of X G h_28.2,h_28.1,PySem.W.mg_of X G h_15.2,h_15.1,PySem.W.mg_of X G h_38.2,h_38.1,PySem.W.mg_of X G h_30.2,h_30.1,PySem.W.mg_of X G h_12.2,h_12.1,PySem.W.mg_of X G h_40.2,h_40.1,PySem.W.mg_of X G h_39.2,h_39.1,PySem.W.mg_of X G h_19.2,h_19.1,PySem.W.mg_of X G h_24.2,h_24.1,PySem.W.mg_of X G h_14.2,h_14.1,PySem.W.mg_of X G h_69.2,h_69.1,PySem.W.mg_none_of X G z_len,PySem.W.mg_none_of X G z_list,PySem.W.mg_none_of X G z_reversed,PySem.W.mg_none_of X G z_isinstance,PySem.W.mg_none_of X G z_range,PySem.W.mg_none_of X G z_int,PySem.W.mg_none_of X G z_bool,PySem.W.mg_none_of X G z_ValueError,PySem.W.mg_none_of X G z_tuple,PySem.W.mg_none_of X G z_enumerate,PySem.W.mg_none_of X G z_min,PySem.W.mg_none_of X G z_max,PySem.W.mg_none_of X G z_sum,PySem.W.mg_none_of X G z_all,⟨_,PySem.W.mg_of X G w_LONGEST_TABLE⟩,⟨_,PySem.W.mg_of X G w_MOST_NODES⟩,⟨⟨pg_10,hd_10,po_10,sa_10⟩,ca_10,sg_10,tk_10,mo_10⟩,na_KeepingPaper_weights,na_KeepingPaper_flows,⟨ms_10,a_0,if_10,kc_10⟩,⟨a_4,mf_4,mp_4⟩,⟨a_2,mf_2,mp_2⟩,⟨⟨pg_18,hd_18,po_18,sa_18⟩,ca_18,sg_18,tk_18,mo_18⟩,na_ChangePaper_weights,na_ChangePaper_ring,⟨ms_18,a_1,if_18,kc_18⟩,⟨a_5,mf_5,mp_5⟩,⟨a_3,mf_3,mp_3⟩,x_57,x_58,x_46,x_51,⟨xi_62,xt_62,xk_62⟩,⟨ci_62,ga_62,gn_62,ca_62,sg_62,tk_62,mo_62,mb_62⟩,⟨ci_51,ga_51,gn_51,ca_51,sg_51,tk_51,mo_51,mb_51⟩,⟨sa_62,hd_62,mr_62,no_62,⟨ci_62,ga_62,gn_62,ca_62,sg_62,tk_62,mo_62,mb_62⟩⟩,kt_51_51,kt_TooWide_ValueError,kt_51_62,kt_51_36,kt_10_18,kt_10_63,kt_10_37,kt_18_10,kt_18_63,kt_18_37,em_51_47⟩
 have e:=hfa.symm.trans T.m_69
 cases e
 obtain ⟨fd,F⟩:=T.d_69
 obtain ⟨oc,od,kV,doc,pm,an,cdv,ct,osl,ef,lk,hcd⟩:=F.ex
 refine ⟨fd,fun s v=>by rw [ef];exact .of_eq rfl,fun base _ _=>?_⟩
 have G_7:=ok_7 (P:=l.prog) (w:=w) (base:=base) T
 have G_50:=ok_50 (P:=l.prog) (w:=w) (base:=base) T
 have G_53:=ok_53 (P:=l.prog) (w:=w) (base:=base) T G_50
 have G_54:=ok_54 (P:=l.prog) (w:=w) (base:=base) T G_53
 have G_52:=ok_52 (P:=l.prog) (w:=w) (base:=base) T G_54
 have G_33:=ok_33 (P:=l.prog) (w:=w) (base:=base) T G_53 G_7
 have G_16:=ok_16 (P:=l.prog) (w:=w) (base:=base) T G_33 G_7
 have G_45:=ok_45 (P:=l.prog) (w:=w) (base:=base) T G_33
 have G_56:=ok_56 (P:=l.prog) (w:=w) (base:=base) T
 have G_32:=ok_32 (P:=l.prog) (w:=w) (base:=base) T G_50
 have G_35:=ok_35 (P:=l.prog) (w:=w) (base:=base) T
 have G_17:=ok_17 (P:=l.prog) (w:=w) (base:=base) T
 have G_21:=ok_21 (P:=l.prog) (w:=w) (base:=base) T G_35 G_53
 have G_68:=ok_68 (P:=l.prog) (w:=w) (base:=base) T G_32 G_21
 have G_61:=ok_61 (P:=l.prog) (w:=w) (base:=base) T G_35
 have G_44:=ok_44 (P:=l.prog) (w:=w) (base:=base) T G_16 G_61 G_45
 have G_65:=ok_65 (P:=l.prog) (w:=w) (base:=base) T
 have G_67:=ok_67 (P:=l.prog) (w:=w) (base:=base) T G_61
 have G_43:=ok_43 (P:=l.prog) (w:=w) (base:=base) T G_67 G_61
 have G_59:=ok_59 (P:=l.prog) (w:=w) (base:=base) T
 have G_48:=ok_48 (P:=l.prog) (w:=w) (base:=base) T G_61 G_59
 have G_6:=ok_6 (P:=l.prog) (w:=w) (base:=base) T
 have G_42:=ok_42 (P:=l.prog) (w:=w) (base:=base) T G_68 G_17 G_56 G_44 G_6 G_61
 have G_60:=ok_60 (P:=l.prog) (w:=w) (base:=base) T G_48 G_42
 have G_55:=ok_55 (P:=l.prog) (w:=w) (base:=base) T G_48 G_42 G_17
 have G_64:=ok_64 (P:=l.prog) (w:=w) (base:=base) T G_60 G_61 G_55 G_65
 have G_72:=ok_72 (P:=l.prog) (w:=w) (base:=base) T G_35
 have G_70:=ok_70 (P:=l.prog) (w:=w) (base:=base) T G_72
 have G_71:=ok_71 (P:=l.prog) (w:=w) (base:=base) T G_70 G_72
 have G_66:=ok_66 (P:=l.prog) (w:=w) (base:=base) T G_71
 have G_23:=ok_23 (P:=l.prog) (w:=w) (base:=base) T G_61 G_35
 have G_34:=ok_34 (P:=l.prog) (w:=w) (base:=base) T G_65
 have G_49:=ok_49 (P:=l.prog) (w:=w) (base:=base) T G_23 G_34 G_45 G_67 G_56 G_65
 have G_22:=ok_22 (P:=l.prog) (w:=w) (base:=base) T
 have G_9:=ok_9 (P:=l.prog) (w:=w) (base:=base) T G_66 G_43
 have G_0:=ok_0 (P:=l.prog) (w:=w) (base:=base) T
 have G_4:=ok_4 (P:=l.prog) (w:=w) (base:=base) T
 have G_2:=ok_2 (P:=l.prog) (w:=w) (base:=base) T G_64 G_35 G_34 G_22 G_49
 have G_1:=ok_1 (P:=l.prog) (w:=w) (base:=base) T
 have G_5:=ok_5 (P:=l.prog) (w:=w) (base:=base) T
 have G_3:=ok_3 (P:=l.prog) (w:=w) (base:=base) T G_64 G_9 G_35 G_52
 have G_31:=ok_31 (P:=l.prog) (w:=w) (base:=base) T
 have G_11:=ok_11 (P:=l.prog) (w:=w) (base:=base) T
 have G_20:=ok_20 (P:=l.prog) (w:=w) (base:=base) T
 have G_27:=ok_27 (P:=l.prog) (w:=w) (base:=base) T
 have G_8:=ok_8 (P:=l.prog) (w:=w) (base:=base) T
 have G_26:=ok_26 (P:=l.prog) (w:=w) (base:=base) T
 have G_29:=ok_29 (P:=l.prog) (w:=w) (base:=base) T G_26
 have G_25:=ok_25 (P:=l.prog) (w:=w) (base:=base) T
 have G_41:=ok_41 (P:=l.prog) (w:=w) (base:=base) T G_27
 have G_13:=ok_13 (P:=l.prog) (w:=w) (base:=base) T G_11 G_20
 have G_28:=ok_28 (P:=l.prog) (w:=w) (base:=base) T G_27 G_41
 have G_15:=ok_15 (P:=l.prog) (w:=w) (base:=base) T
 have G_38:=ok_38 (P:=l.prog) (w:=w) (base:=base) T G_25 G_8 G_41
 have G_30:=ok_30 (P:=l.prog) (w:=w) (base:=base) T
 have G_12:=ok_12 (P:=l.prog) (w:=w) (base:=base) T G_8 G_30
 have G_40:=ok_40 (P:=l.prog) (w:=w) (base:=base) T G_11
 have G_39:=ok_39 (P:=l.prog) (w:=w) (base:=base) T G_31
 have G_19:=ok_19 (P:=l.prog) (w:=w) (base:=base) T
 have G_24:=ok_24 (P:=l.prog) (w:=w) (base:=base) T G_39 G_4 G_5 G_2 G_3
 have G_14:=ok_14 (P:=l.prog) (w:=w) (base:=base) T G_2 G_3
 exact ok_69 T F G_11 G_29 G_25 G_13 G_28 G_15 G_0 G_40 G_1 G_24 G_20 G_27 G_19 G_14 G_12 G_38
theorem walk {l:PySem.W.OpenLaw} {q:Program} {loose:List Str} {XP:(Str→Option Value)→Heap→Prop} {YP:World→Heap→Prop} {d:PySem.DefRec} {K:PySem.Params→PySem.W.Frag} (hn:l.most=some 63) (hdf:d.params.defaults=[])
  (hY:∀ (w:World) (h:Heap),YP w h→(K w.params).In h)
  (F:∀ (w:World) (mg:Str→Option Value) (fa:Addr) (h:Heap),(K w.params).In h→h.Ns mainGlobals mg→mg d.name=some (.ref fa) →
   ∃ fd:FuncData,(∀ (s:Shared) (u:Value),BindsTo s fd ⟨[u],[]⟩ [("_law_script",u)])∧∀ base:Heap,(K w.params).In base→base.Ns mainGlobals mg→FnOk l.prog w (K w.params) mg base (CXF l.prog w) 11 fa fd ["_law_script"] (spLaw (K w.params))) :
  PySem.W.WalkO q loose XP YP l.row.toRowW d [] (fun f vs=>PySem.call f vs) :=
 L2.walk_of (n:=63) (k:=11) (x:="_law_script") (CX:=fun w=>CXF l.prog w) (sp:=fun w=>spLaw (K w.params)) hn (by decide) hdf ⟨rfl,by decide,by decide⟩ hY F (fun _ _ a ns hl _ hS=>⟨a,ns,rfl,hS,hl,fun _=>rfl⟩) fun _ _ _ _ _ ⟨_,_,_,_,_,_,_,_,z⟩=>z
end K73
def PySem.W.Fast.tw584181874215006836:=PySem.Challenge.pw_rowrules_k73_papers_of_sums
theorem PySem.W.Fast.te584181874215006836:PySem.Challenge.pw_rowrules_k73_papers_of_sums=PySem.W.Fast.tw584181874215006836:=rfl
namespace PySem.W.Fast
def tw2563243096068004359:Unit:=()
def tw7879938866941735638:Unit:=()
def tw4288437408195026858:Unit:=()
def tw14474759734887412613:Unit:=()
def tw14974220550930484307:Unit:=()
def tw4252656376079434669:Unit:=()
def tw7679235122004652411:Unit:=()
def tw2891132524671209800:Unit:=()
def tw753773412418229300:Unit:=()
def tw3047425374091044617:Unit:=()
def tw4343940314750124825:Unit:=()
def tw8123942521023218148:Unit:=()
def tw6966295510918927086:Unit:=()
def tw11012556022223083033:Unit:=()
def tw4074701734317870383:Unit:=()
def tw13531934109853522036:Unit:=()
def tw2171559023287396109:Unit:=()
def tw7313564486736548961:Unit:=()
def tw16164252663950440015:Unit:=()
def tw16710424913046924725:Unit:=()
def tw11637281548132123651:Unit:=()
def tw1166442798158536755:Unit:=()
def tw9885914323525812316:Unit:=()
def tw8963329978198301394:Unit:=()
def tw5033616674626480043:Unit:=()
def tw13610310374503363072:Unit:=()
def tw1905922586319513818:Unit:=()
def tw6905777242765797675:Unit:=()
def tw18212796664355318717:Unit:=()
def tw2757401630909013055:Unit:=()
def tw2869732895242692934:Unit:=()
def tw17855078217451018602:Unit:=()
def tw10568778280529169011:Unit:=()
def tw5491561219248691807:Unit:=()
def tw3400741988769190406:Unit:=()
def tw15367125506232616382:Unit:=()
def tw15564177213985815728:Unit:=()
def tw9664037111073788038:Unit:=()
def tw18177271542655345747:Unit:=()
def tw10609382228813947568:Unit:=()
def tw16015346432908855462:Unit:=()
def tw16017312669157720854:Unit:=()
def tw13285425465935918990:Unit:=()
def tw158096844444585154:Unit:=()
def tw14036216139093420661:Unit:=()
def tw12335454245485908191:Unit:=()
def tw403189718547510303:Unit:=()
def tw15927441944254342583:Unit:=()
def tw11128317474220009809:Unit:=()
def tw16734628113505066717:Unit:=()
def tw4575082046651169928:Unit:=()
def tw17500585864299484938:Unit:=()
def tw2759777863300649047:Unit:=()
def tw17627822605830969116:Unit:=()
def tw3659868458269299956:Unit:=()
def tw13925790303124030092:Unit:=()
def tw8592769919426603123:Unit:=()
def tw5256331154563541159:Unit:=()
def tw4756482940816826230:Unit:=()
def tw16305671277668616034:Unit:=()
def tw6237160412870877655:Unit:=()
def tw18245750723440972498:Unit:=()
def tw12332688316694960809:Unit:=()
def tw9828020978377757703:Unit:=()
def tw9193448313732442527:Unit:=()
def tw7696589005716776102:Unit:=()
def tw2992735044775706919:Unit:=()
def tw10839117528045498249:Unit:=()
def tw17947795213699197920:Unit:=()
def tw3698833995455794418:Unit:=()
def tw17834213487119243150:Unit:=()
def tw17326583511419848202:Unit:=()
def tw8922788488021679392:Unit:=()
def tw10381076203561885164:Unit:=()
def tw17090151280660324183:Unit:=()
def tw16114883220259332395:Unit:=()
def tw15250953005492117387:Unit:=()
def tw16724866952322003213:Unit:=()
def tw12239075083119385695:Unit:=()
def tw11343991782982715086:Unit:=()
def tw11152585320026498560:Unit:=()
def tw4146142052879775971:Unit:=()
def tw9113745428187423862:Unit:=()
def tw10541232163243715871:Unit:=()
def tw11828682199216431029:Unit:=()
def tw2705099739742743337:Unit:=()
def tw5820161102464146296:Unit:=()
def tw2284174081274999624:Unit:=()
def tw14184034997538028182:Unit:=()
def tw7423201466232837973:Unit:=()
def tw2253922117142540642:Unit:=()
def tw14827234450217566649:Unit:=()
def tw6992535154484342999:Unit:=()
def tw12388749585663085625:Unit:=()
def tw1002768510390112432:Unit:=()
def tw17820625302927813103:Unit:=()
def tw12357322393876109420:Unit:=()
def tw16269450507380161001:Unit:=()
def tw14754412292363535155:Unit:=()
def tw9072936951726941660:Unit:=()
def tw10957511185729474263:Unit:=()
def tw6786932111971157687:Unit:=()
def tw15738273193799034595:Unit:=()
def tw5187064321575338352:Unit:=()
def tw6496432312828817513:Unit:=()
def tw6295795987920555100:Unit:=()
def tw16497189720922884821:Unit:=()
def tw2164361592917517028:Unit:=()
def tw369039566030219013:Unit:=()
def tw6892138722025760349:Unit:=()
def tw13543752409034177079:Unit:=()
def tw713317368937181429:Unit:=()
def tw15292868863065432362:Unit:=()
def tw12060019828438305053:Unit:=()
def tw2753452931968672375:Unit:=()
def tw5693063683871269575:Unit:=()
def tw5642118728699051370:Unit:=()
def tw10264859699365522653:Unit:=()
def tw6771673275101029141:Unit:=()
def tw8872772128030984764:Unit:=()
def tw12320980239165037035:Unit:=()
def tw13943928334000304920:Unit:=()
def tw3219752804135707314:Unit:=()
def tw1505849651820285874:Unit:=()
def tw2818870637731210342:Unit:=()
def tw15634939730248067404:Unit:=()
def tw12932380420877816608:Unit:=()
def tw2114994868715533129:Unit:=()
def tw13054679409200963174:Unit:=()
def tw9227012840333006847:Unit:=()
def tw17953362031721666141:Unit:=()
def tw15389721128034137084:Unit:=()
def tw10552683235537715857:Unit:=()
def tw17077038771216695588:Unit:=()
def tw12186644034943499775:Unit:=()
def tw7603121493029828673:Unit:=()
def tw7938116031819384084:Unit:=()
def tw1455665364718418238:Unit:=()
def tw18189162250635191692:Unit:=()
def tw15464004179870972266:Unit:=()
def tw13190550330867345208:Unit:=()
def tw1781740343824972186:Unit:=()
def tw8323747154465369723:Unit:=()
def tw11426270525969765755:Unit:=()
def tw4159545693256227949:Unit:=()
def tw18395213477307008265:Unit:=()
def tw13610803131162794297:Unit:=()
def tw12818394319716599301:Unit:=()
def tw5647933342467357420:Unit:=()
def tw6659269141590333852:Unit:=()
def tw17813537285764436405:Unit:=()
def tw10613427835525008822:Unit:=()
def tw8809321130650904471:Unit:=()
def tw1940398549163375164:Unit:=()
def tw18324667424538885755:Unit:=()
def tw8753003319121406498:Unit:=()
def tw1134683467740646080:Unit:=()
def tw10749874656325701949:Unit:=()
def tw2667786190355399311:Unit:=()
def tw12765685751363784:Unit:=()
def tw3816786441941117524:Unit:=()
def tw16010601217687580465:Unit:=()
def tw17182764224037867300:Unit:=()
def tw15503123909602835527:Unit:=()
def tw16026990385416276062:Unit:=()
def tw11498859401618727265:Unit:=()
def tw10229472410935372429:Unit:=()
def tw7312529982609940075:Unit:=()
def tw5395247881858157062:Unit:=()
def tw6814343122890512769:Unit:=()
def tw18296658710382736965:Unit:=()
def tw13374267658171563415:Unit:=()
def tw7342496071547589666:Unit:=()
def tw11053343975942861731:Unit:=()
def tw17191253760441152680:Unit:=()
def tw6381977086278291900:Unit:=()
def tw16790805476851843182:Unit:=()
def tw9237894528396864526:Unit:=()
def tw5844739245540092523:Unit:=()
def tw7555865908846017103:Unit:=()
def tw8227469568742667328:Unit:=()
def tw17684343748937610458:Unit:=()
def tw11180016019433356208:Unit:=()
def tw16486444755886610798:Unit:=()
def tw8799751092861475229:Unit:=()
def tw17130878258696746565:Unit:=()
def tw17874466858500276112:Unit:=()
def tw11328766964215460729:Unit:=()
def tw10785042920289482330:Unit:=()
def tw15614708780959749835:Unit:=()
def tw13993563325003201615:Unit:=()
def tw12902105803399133989:Unit:=()
def tw17116885227569993021:Unit:=()
def tw13554567877108881711:Unit:=()
def tw16480453116589349123:Unit:=()
def tw17180673298053338491:Unit:=()
def tw5230875135488607750:Unit:=()
def tw2650925126478351106:Unit:=()
def tw11347905583832257483:Unit:=()
def tw4182929651749776179:Unit:=()
def tw7402465097897787787:Unit:=()
def tw10404513174261364357:Unit:=()
def tw14701537686480237856:Unit:=()
def tw13482241324851514529:Unit:=()
def tw7129567492476478380:Unit:=()
def tw16210534300504090664:Unit:=()
def tw4762683707824887965:Unit:=()
def tw359226574666344392:Unit:=()
def tw4084016271567811461:Unit:=()
def tw2053054180926294403:Unit:=()
def tw18134120174735199069:Unit:=()
def tw10255048498978585390:Unit:=()
def tw10554485899176148079:Unit:=()
def tw279184679674295716:Unit:=()
def tw2561581908129974558:Unit:=()
def tw1015662295950979210:Unit:=()
def tw1171122117357999536:Unit:=()
def tw2752690012739384994:Unit:=()
def tw12511064163696376250:Unit:=()
def tw11526484515000010222:Unit:=()
def tw8200314270399638152:Unit:=()
def tw16784043515319398066:Unit:=()
def tw6376787619446912757:Unit:=()
def tw16489317237811851812:Unit:=()
def tw2419897176975867871:Unit:=()
def tw10612899614337435025:Unit:=()
def tw10458585887779633794:Unit:=()
def tw15959893752965123527:Unit:=()
def tw9024505745833022235:Unit:=()
def tw10479055410664752546:Unit:=()
def tw14159867105107771053:Unit:=()
def tw14385917682836009611:Unit:=()
def tw3215721926385283691:Unit:=()
def tw17381238107349302547:Unit:=()
def tw16476016386675814657:Unit:=()
def tw17171806389004041672:Unit:=()
def tw12875782558253048007:Unit:=()
def tw913533063299156383:Unit:=()
def tw118758248157611364:Unit:=()
def tw17713496051824810984:Unit:=()
def tw7933955163881860330:Unit:=()
def tw2437369063544378083:Unit:=()
def tw724067250959239733:Unit:=()
def tw16903792240240501402:Unit:=()
def tw9962830425362828161:Unit:=()
def tw3019983768300581955:Unit:=()
def tw10554725300376020247:Unit:=()
def tw5467693167520259059:Unit:=()
def tw15871609679307025607:Unit:=()
def tw17135902408111107414:Unit:=()
def tw18309070316984284081:Unit:=()
def tw13517162097188358040:Unit:=()
def tw3680904435539936398:Unit:=()
def tw1953810122034774788:Unit:=()
def tw17289762837171526488:Unit:=()
def tw8900177267169024877:Unit:=()
def tw6874103310391858934:Unit:=()
def tw6697898862395172723:Unit:=()
def tw11386423392802982117:Unit:=()
def tw7188270603753112412:Unit:=()
def tw5281246137492308550:Unit:=()
def tw7857358385878683613:Unit:=()
def tw11306866363863766909:Unit:=()
def tw13928210462842754844:Unit:=()
def tw8281263128691390055:Unit:=()
def tw15798415079532907821:Unit:=()
def tw16007786907790212377:Unit:=()
def tw6864198676097375563:Unit:=()
def tw4134341888216762190:Unit:=()
def tw4327086224458536501:Unit:=()
def tw4985962245743209589:Unit:=()
def tw6068984543966497563:Unit:=()
def tw10192355716412528520:Unit:=()
def tw1146938641726599267:Unit:=()
def tw10928593032064631395:Unit:=()
def tw1052588634528043940:Unit:=()
def tw13749793383938116167:Unit:=()
def tw15421917622330206395:Unit:=()
def tw12697941544454285054:Unit:=()
def tw6421239086910131196:Unit:=()
def tw11725560599518326340:Unit:=()
def tw6809852196260018521:Unit:=()
def tw18437097430340310506:Unit:=()
def tw10350885708047239062:Unit:=()
def tw11240577741122876099:Unit:=()
def tw4720096181647283490:Unit:=()
def tw7430611660223122266:Unit:=()
def tw5439367560583263123:Unit:=()
def tw14923576788444765236:Unit:=()
def tw13056130575061315296:Unit:=()
def tw8674709426634624157:Unit:=()
def tw3096300655918702280:Unit:=()
def tw4175914719374138344:Unit:=()
def tw4290095402000913980:Unit:=()
def tw15409942619365575127:Unit:=()
def tw17746551077996946962:Unit:=()
def tw15063394810062946549:Unit:=()
def tw1209840389546414992:Unit:=()
def tw7048661235748518841:Unit:=()
def tw17345310004965772757:Unit:=()
def tw7944304109704296788:Unit:=()
def tw3433969155809361734:Unit:=()
def tw11417389817276435813:Unit:=()
def tw956364420312766591:Unit:=()
def tw13937969693977006698:Unit:=()
def tw1868759858024155255:Unit:=()
def tw14223450268206202673:Unit:=()
def tw8326373896727118577:Unit:=()
def tw13225139091952132554:Unit:=()
def tw15522878663340749322:Unit:=()
def tw536640554909647644:Unit:=()
def tw193760234394204933:Unit:=()
def tw3354736044950862696:Unit:=()
def tw3994091456093327992:Unit:=()
def tw830040570669386265:Unit:=()
def tw10955014793459961501:Unit:=()
def tw14568866589318370146:Unit:=()
def tw18304978799321441106:Unit:=()
def tw16918905695650242244:Unit:=()
def tw355362794652183016:Unit:=()
def tw483422730415260408:Unit:=()
def tw14599268252084650944:Unit:=()
def tw3502153976876965747:Unit:=()
def tw9836132420957715473:Unit:=()
def tw13037510030793546189:Unit:=()
def tw9244715906275157545:Unit:=()
def tw941941205157587497:Unit:=()
def tw1955158696315667476:Unit:=()
def tw11949996234236918564:Unit:=()
def tw16363050452272364568:Unit:=()
def tw3646745196416812105:Unit:=()
def tw15614400715515863097:Unit:=()
def tw6584661939299925763:Unit:=()
def tw10372824467270649427:Unit:=()
def tw10282518307025776931:Unit:=()
def tw7916793787211377532:Unit:=()
def tw2980312259406814850:Unit:=()
def tw6117178800620033572:Unit:=()
def tw544773153787174326:Unit:=()
def tw10214239778755809705:Unit:=()
end PySem.W.Fast
open PySem PySem.W PyProof.Rows
set_option maxRecDepth 100000 in
set_option maxHeartbeats 0 in
theorem PySem.Challenge.cw_rowrules_k73_papers_of_sums_holds : PySem.Challenge.rw_rowrules_k73_papers_of_sums.Holds := by
 w_on;o_law;k_head;(case hw=>w_witness2)
 k_fill
 refine K73.walk (l:=PySem.Challenge.rw_rowrules_k73_papers_of_sums) rfl rfl (fun w h Y=>PySem.W.kIn_of Y) ?F
 case F =>
  intro w mg fa h KX G hmg
  refine' K73.all_mk KX G hmg ?n_47 ?n_57 ?n_62 ?n_58 ?n_46 ?n_51 ?n_36 ?n_63 ?n_37 ?n_10 ?n_18 ?a_7 ⟨_,L2.fun_mk ?l_7 ?e_7 ?k_7⟩ (L2.def_mk ?a_50 ?l_50 ?e_50 ?k_50) (L2.def_mk ?a_53 ?l_53 ?e_53 ?k_53) (L2.def_mk ?a_54 ?l_54 ?e_54 ?k_54) (L2.def_mk ?a_52 ?l_52 ?e_52 ?k_52) (L2.def_mk ?a_33 ?l_33 ?e_33 ?k_33) (L2.def_mk ?a_16 ?l_16 ?e_16 ?k_16) (L2.def_mk ?a_45 ?l_45 ?e_45 ?k_45) (L2.def_mk ?a_56 ?l_56 ?e_56 ?k_56) (L2.def_mk ?a_32 ?l_32 ?e_32 ?k_32) (L2.def_mk ?a_35 ?l_35 ?e_35 ?k_35) (L2.def_mk ?a_17 ?l_17 ?e_17 ?k_17) (L2.def_mk ?a_21 ?l_21 ?e_21 ?k_21) (L2.def_mk ?a_68 ?l_68 ?e_68 ?k_68) (L2.def_mk ?a_61 ?l_61 ?e_61 ?k_61) (L2.def_mk ?a_44 ?l_44 ?e_44 ?k_44) (L2.def_mk ?a_65 ?l_65 ?e_65 ?k_65) (L2.def_mk ?a_67 ?l_67 ?e_67 ?k_67) (L2.def_mk ?a_43 ?l_43 ?e_43 ?k_43) (L2.def_mk ?a_59 ?l_59 ?e_59 ?k_59) (L2.def_mk ?a_48 ?l_48 ?e_48 ?k_48) (L2.def_mk ?a_6 ?l_6 ?e_6 ?k_6) (L2.def_mk ?a_42 ?l_42 ?e_42 ?k_42) (L2.def_mk ?a_60 ?l_60 ?e_60 ?k_60) (L2.def_mk ?a_55 ?l_55 ?e_55 ?k_55) (L2.def_mk ?a_64 ?l_64 ?e_64 ?k_64) (L2.def_mk ?a_66 ?l_66 ?e_66 ?k_66) (L2.def_mk ?a_23 ?l_23 ?e_23 ?k_23) (L2.def_mk ?a_34 ?l_34 ?e_34 ?k_34) (L2.def_mk ?a_49 ?l_49 ?e_49 ?k_49) (L2.def_mk ?a_22 ?l_22 ?e_22 ?k_22) (L2.def_mk ?a_9 ?l_9 ?e_9 ?k_9) ?a_0 ⟨_,L2.fun_mk ?l_0 ?e_0 ?k_0⟩ ?a_4 ⟨_,L2.fun_mk ?l_4 ?e_4 ?k_4⟩ ?a_2 ⟨_,L2.fun_mk ?l_2 ?e_2 ?k_2⟩ ?a_1 ⟨_,L2.fun_mk ?l_1 ?e_1 ?k_1⟩ ?a_5 ⟨_,L2.fun_mk ?l_5 ?e_5 ?k_5⟩ ?a_3 ⟨_,L2.fun_mk ?l_3 ?e_3 ?k_3⟩ (L2.def_mk ?a_31 ?l_31 ?e_31 ?k_31) (L2.def_mk ?a_11 ?l_11 ?e_11 ?k_11) (L2.def_mk ?a_20 ?l_20 ?e_20 ?k_20) (L2.def_mk ?a_27 ?l_27 ?e_27 ?k_27) (L2.def_mk ?a_8 ?l_8 ?e_8 ?k_8) (L2.def_mk ?a_26 ?l_26 ?e_26 ?k_26) (L2.def_mk ?a_29 ?l_29 ?e_29 ?k_29) (L2.def_mk ?a_25 ?l_25 ?e_25 ?k_25) (L2.def_mk ?a_41 ?l_41 ?e_41 ?k_41) (L2.def_mk ?a_13 ?l_13 ?e_13 ?k_13) (L2.def_mk ?a_28 ?l_28 ?e_28 ?k_28) (L2.def_mk ?a_15 ?l_15 ?e_15 ?k_15) (L2.def_mk ?a_38 ?l_38 ?e_38 ?k_38) (L2.def_mk ?a_30 ?l_30 ?e_30 ?k_30) (L2.def_mk ?a_12 ?l_12 ?e_12 ?k_12) (L2.def_mk ?a_40 ?l_40 ?e_40 ?k_40) (L2.def_mk ?a_39 ?l_39 ?e_39 ?k_39) (L2.def_mk ?a_19 ?l_19 ?e_19 ?k_19) (L2.def_mk ?a_24 ?l_24 ?e_24 ?k_24) (L2.def_mk ?a_14 ?l_14 ?e_14 ?k_14) (L2.def_mk ?a_69 ?l_69 ?e_69 ?k_69) ?z_len ?z_list ?z_reversed ?z_isinstance ?z_range ?z_int ?z_bool ?z_ValueError ?z_tuple ?z_enumerate ?z_min ?z_max ?z_sum ?z_all ?w_LONGEST_TABLE ?w_MOST_NODES ?pg_10 ?hd_10 ?po_10 ?sa_10 ?ca_10 ?sg_10 ?tk_10 ?mo_10 ?na_KeepingPaper_weights ?na_KeepingPaper_flows ?ms_10 ?if_10 ?kc_10 ?mf_4 ?mp_4 ?mf_2 ?mp_2 ?pg_18 ?hd_18 ?po_18 ?sa_18 ?ca_18 ?sg_18 ?tk_18 ?mo_18 ?na_ChangePaper_weights ?na_ChangePaper_ring ?ms_18 ?if_18 ?kc_18 ?mf_5 ?mp_5 ?mf_3 ?mp_3 ?x_57 ?x_58 ?x_46 ?x_51 ?xi_62 ?xt_62 ?xk_62 ?ci_62 ?ga_62 ?gn_62 ?ca_62 ?sg_62 ?tk_62 ?mo_62 ?mb_62 ?ci_51 ?ga_51 ?gn_51 ?ca_51 ?sg_51 ?tk_51 ?mo_51 ?mb_51 ?sa_62 ?hd_62 ?mr_62 ?no_62 ?kt_51_51 ?kt_TooWide_ValueError ?kt_51_62 ?kt_51_36 ?kt_10_18 ?kt_10_63 ?kt_10_37 ?kt_18_10 ?kt_18_63 ?kt_18_37 ?em_51_47
  (case n_47=>k_is)
  (case n_57=>k_is)
  (case n_62=>k_is)
  (case n_58=>k_is)
  (case n_46=>k_is)
  (case n_51=>k_is)
  (case n_36=>k_is)
  (case n_63=>k_is)
  (case n_37=>k_is)
  (case n_10=>k_is)
  (case n_18=>k_is)
  (case a_7=>k_is)
  (case l_7=>k_is)
  (case e_7=>k_is)
  (case k_7=>k_is)
  (case a_50=>k_is)
  (case l_50=>k_is)
  (case e_50=>k_is)
  (case k_50=>k_is)
  (case a_53=>k_is)
  (case l_53=>k_is)
  (case e_53=>k_is)
  (case k_53=>k_is)
  (case a_54=>k_is)
  (case l_54=>k_is)
  (case e_54=>k_is)
  (case k_54=>k_is)
  (case a_52=>k_is)
  (case l_52=>k_is)
  (case e_52=>k_is)
  (case k_52=>k_is)
  (case a_33=>k_is)
  (case l_33=>k_is)
  (case e_33=>k_is)
  (case k_33=>k_is)
  (case a_16=>k_is)
  (case l_16=>k_is)
  (case e_16=>k_is)
  (case k_16=>k_is)
  (case a_45=>k_is)
  (case l_45=>k_is)
  (case e_45=>k_is)
  (case k_45=>k_is)
  (case a_56=>k_is)
  (case l_56=>k_is)
  (case e_56=>k_is)
  (case k_56=>k_is)
  (case a_32=>k_is)
  (case l_32=>k_is)
  (case e_32=>k_is)
  (case k_32=>k_is)
  (case a_35=>k_is)
  (case l_35=>k_is)
  (case e_35=>k_is)
  (case k_35=>k_is)
  (case a_17=>k_is)
  (case l_17=>k_is)
  (case e_17=>k_is)
  (case k_17=>k_is)
  (case a_21=>k_is)
  (case l_21=>k_is)
  (case e_21=>k_is)
  (case k_21=>k_is)
  (case a_68=>k_is)
  (case l_68=>k_is)
  (case e_68=>k_is)
  (case k_68=>k_is)
  (case a_61=>k_is)
  (case l_61=>k_is)
  (case e_61=>k_is)
  (case k_61=>k_is)
  (case a_44=>k_is)
  (case l_44=>k_is)
  (case e_44=>k_is)
  (case k_44=>k_is)
  (case a_65=>k_is)
  (case l_65=>k_is)
  (case e_65=>k_is)
  (case k_65=>k_is)
  (case a_67=>k_is)
  (case l_67=>k_is)
  (case e_67=>k_is)
  (case k_67=>k_is)
  (case a_43=>k_is)
  (case l_43=>k_is)
  (case e_43=>k_is)
  (case k_43=>k_is)
  (case a_59=>k_is)
  (case l_59=>k_is)
  (case e_59=>k_is)
  (case k_59=>k_is)
  (case a_48=>k_is)
  (case l_48=>k_is)
  (case e_48=>k_is)
  (case k_48=>k_is)
  (case a_6=>k_is)
  (case l_6=>k_is)
  (case e_6=>k_is)
  (case k_6=>k_is)
  (case a_42=>k_is)
  (case l_42=>k_is)
  (case e_42=>k_is)
  (case k_42=>k_is)
  (case a_60=>k_is)
  (case l_60=>k_is)
  (case e_60=>k_is)
  (case k_60=>k_is)
  (case a_55=>k_is)
  (case l_55=>k_is)
  (case e_55=>k_is)
  (case k_55=>k_is)
  (case a_64=>k_is)
  (case l_64=>k_is)
  (case e_64=>k_is)
  (case k_64=>k_is)
  (case a_66=>k_is)
  (case l_66=>k_is)
  (case e_66=>k_is)
  (case k_66=>k_is)
  (case a_23=>k_is)
  (case l_23=>k_is)
  (case e_23=>k_is)
  (case k_23=>k_is)
  (case a_34=>k_is)
  (case l_34=>k_is)
  (case e_34=>k_is)
  (case k_34=>k_is)
  (case a_49=>k_is)
  (case l_49=>k_is)
  (case e_49=>k_is)
  (case k_49=>k_is)
  (case a_22=>k_is)
  (case l_22=>k_is)
  (case e_22=>k_is)
  (case k_22=>k_is)
  (case a_9=>k_is)
  (case l_9=>k_is)
  (case e_9=>k_is)
  (case k_9=>k_is)
  (case a_0=>k_is)
  (case l_0=>k_is)
  (case e_0=>k_is)
  (case k_0=>k_is)
  (case a_4=>k_is)
  (case l_4=>k_is)
  (case e_4=>k_is)
  (case k_4=>k_is)
  (case a_2=>k_is)
  (case l_2=>k_is)
  (case e_2=>k_is)
  (case k_2=>k_is)
  (case a_1=>k_is)
  (case l_1=>k_is)
  (case e_1=>k_is)
  (case k_1=>k_is)
  (case a_5=>k_is)
  (case l_5=>k_is)
  (case e_5=>k_is)
  (case k_5=>k_is)
  (case a_3=>k_is)
  (case l_3=>k_is)
  (case e_3=>k_is)
  (case k_3=>k_is)
  (case a_31=>k_is)
  (case l_31=>k_is)
  (case e_31=>k_is)
  (case k_31=>k_is)
  (case a_11=>k_is)
  (case l_11=>k_is)
  (case e_11=>k_is)
  (case k_11=>k_is)
  (case a_20=>k_is)
  (case l_20=>k_is)
  (case e_20=>k_is)
  (case k_20=>k_is)
  (case a_27=>k_is)
  (case l_27=>k_is)
  (case e_27=>k_is)
  (case k_27=>k_is)
  (case a_8=>k_is)
  (case l_8=>k_is)
  (case e_8=>k_is)
  (case k_8=>k_is)
  (case a_26=>k_is)
  (case l_26=>k_is)
  (case e_26=>k_is)
  (case k_26=>k_is)
  (case a_29=>k_is)
  (case l_29=>k_is)
  (case e_29=>k_is)
  (case k_29=>k_is)
  (case a_25=>k_is)
  (case l_25=>k_is)
  (case e_25=>k_is)
  (case k_25=>k_is)
  (case a_41=>k_is)
  (case l_41=>k_is)
  (case e_41=>k_is)
  (case k_41=>k_is)
  (case a_13=>k_is)
  (case l_13=>k_is)
  (case e_13=>k_is)
  (case k_13=>k_is)
  (case a_28=>k_is)
  (case l_28=>k_is)
  (case e_28=>k_is)
  (case k_28=>k_is)
  (case a_15=>k_is)
  (case l_15=>k_is)
  (case e_15=>k_is)
  (case k_15=>k_is)
  (case a_38=>k_is)
  (case l_38=>k_is)
  (case e_38=>k_is)
  (case k_38=>k_is)
  (case a_30=>k_is)
  (case l_30=>k_is)
  (case e_30=>k_is)
  (case k_30=>k_is)
  (case a_12=>k_is)
  (case l_12=>k_is)
  (case e_12=>k_is)
  (case k_12=>k_is)
  (case a_40=>k_is)
  (case l_40=>k_is)
  (case e_40=>k_is)
  (case k_40=>k_is)
  (case a_39=>k_is)
  (case l_39=>k_is)
  (case e_39=>k_is)
  (case k_39=>k_is)
  (case a_19=>k_is)
  (case l_19=>k_is)
  (case e_19=>k_is)
  (case k_19=>k_is)
  (case a_24=>k_is)
  (case l_24=>k_is)
  (case e_24=>k_is)
  (case k_24=>k_is)
  (case a_14=>k_is)
  (case l_14=>k_is)
  (case e_14=>k_is)
  (case k_14=>k_is)
  (case a_69=>k_is)
  (case l_69=>k_is)
  (case e_69=>k_is)
  (case k_69=>k_is)
  (case z_len=>k_is)
  (case z_list=>k_is)
  (case z_reversed=>k_is)
  (case z_isinstance=>k_is)
  (case z_range=>k_is)
  (case z_int=>k_is)
  (case z_bool=>k_is)
  (case z_ValueError=>k_is)
  (case z_tuple=>k_is)
  (case z_enumerate=>k_is)
  (case z_min=>k_is)
  (case z_max=>k_is)
  (case z_sum=>k_is)
  (case z_all=>k_is)
  (case w_LONGEST_TABLE=>k_is)
  (case w_MOST_NODES=>k_is)
  (case pg_10=>k_is)
  (case hd_10=>k_is)
  (case po_10=>k_is)
  (case sa_10=>k_is)
  (case ca_10=>k_is)
  (case sg_10=>k_is)
  (case tk_10=>k_is)
  (case mo_10=>k_is)
  (case na_KeepingPaper_weights=>k_is)
  (case na_KeepingPaper_flows=>k_is)
  (case ms_10=>k_is)
  (case if_10=>k_is)
  (case kc_10=>k_is)
  (case mf_4=>k_is)
  (case mp_4=>k_is)
  (case mf_2=>k_is)
  (case mp_2=>k_is)
  (case pg_18=>k_is)
  (case hd_18=>k_is)
  (case po_18=>k_is)
  (case sa_18=>k_is)
  (case ca_18=>k_is)
  (case sg_18=>k_is)
  (case tk_18=>k_is)
  (case mo_18=>k_is)
  (case na_ChangePaper_weights=>k_is)
  (case na_ChangePaper_ring=>k_is)
  (case ms_18=>k_is)
  (case if_18=>k_is)
  (case kc_18=>k_is)
  (case mf_5=>k_is)
  (case mp_5=>k_is)
  (case mf_3=>k_is)
  (case mp_3=>k_is)
  (case x_57=>k_exc)
  (case x_58=>k_exc)
  (case x_46=>k_exc)
  (case x_51=>k_exc)
  (case xi_62=>kernel_rfl)
  (case xt_62=>k_is)
  (case xk_62=>k_is)
  (case ci_62=>show PySem.W.isClsIn _ _=true;k_is)
  (case ga_62=>k_is)
  (case gn_62=>k_is)
  (case ca_62=>k_is)
  (case sg_62=>k_is)
  (case tk_62=>k_is)
  (case mo_62=>k_is)
  (case mb_62=>k_is)
  (case ci_51=>show PySem.W.isClsIn _ _=true;k_is)
  (case ga_51=>k_is)
  (case gn_51=>k_is)
  (case ca_51=>k_is)
  (case sg_51=>k_is)
  (case tk_51=>k_is)
  (case mo_51=>k_is)
  (case mb_51=>k_is)
  (case sa_62=>k_is)
  (case hd_62=>k_is)
  (case mr_62=>kernel_rfl)
  (case no_62=>k_is)
  (case kt_51_51=>kit_is)
  (case kt_TooWide_ValueError=>kit_is)
  (case kt_51_62=>kit_is)
  (case kt_51_36=>kit_is)
  (case kt_10_18=>kit_is)
  (case kt_10_63=>kit_is)
  (case kt_10_37=>kit_is)
  (case kt_18_10=>kit_is)
  (case kt_18_63=>kit_is)
  (case kt_18_37=>kit_is)
  (case em_51_47=>kts_exm)
