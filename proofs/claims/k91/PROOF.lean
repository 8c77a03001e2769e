import PyProof.Rows.All
import Wide.All
import OpenK.AllK
import Wide.FinOn
import Lean
import PyProof.EqAt
import PyProof.EqKinds
import PyProof.TupleCall
import PySem.Challenge.RW_rowrules_k91_whole_both_and_only_both
set_option Elab.async false
set_option linter.all false
set_option maxRecDepth 100000
theorem byG{T:Prop}(h:∀G:Prop,(T->G)->G):T:=h T id
local macro_rules|`(tactic|rcases $e:term with⟨$p,*⟩)=>`(tactic|(refine byG fun G h=>?_;obtain⟨$p,*⟩:=$e;refine h ?_;clear h G))
set_option compiler.extract_closed false in
open Lean in
local macro_rules|`($n:num#$m:num)=>return((("dl.length,s.heap.objs.size,g.toNat,model prog w,model X.prog X.w,compEnvC scope cl C X.env,pv 0,xs.length,pv 1,tf.length,V.int,AA #6 AB,X.env,kvs.length,s1.heap.objs.size,.ref p,ns.length,ls.map V.ref,ns.map #10,pv 2,AA #8 AB,.ref D,.ref d,X.env.locals,.ref r,its.toArray.size,.ref a,pv 3,List.length_map,s2.heap.objs.size,ps.length,ls2.map V.ref,vs.length,X.s₀.heap.objs.size,ps.map V.ref,CL K,.lst xs,Ca K,Or.inl rfl,row.length,Ek g lo dl m low M,List.length_range,starEach es #12,A.length,w.length,vs.toArray,.inl rfl,a₀.toList,AZ H d u',AA #19 AB,.lst j5,.dK kvs,s.toks,.ref d2,Ai.of h1,its.toArray,pv 4,.ref f,Decidable.byContradiction,EP X ad σ Q,A5 X.prog X.w,us.length,List.size_toArray,I.ok.hd hc,X.stack,tupleKind_room_in1 hu,AH st,envOfC qual #66 s.heap.objs.size f j6,.ref it,True.intro,k.map kV,.lst #34,X.A.units,AA #27 AB,a.size,r.length,l.length,Ej CX P w K mg base N qual scope f j6 A outer s H E,.Name x pos,a₀.size,ns.map PyData.int,BJ g tf,.ref r',.int i,DM rfl T.g_LONGEST_TABLE,Cn g lo dl m x,ring.length,model P w,pv 5,CG hr,.tup xs,o.data,scope.names,Cc g lo dl m ring,BZ g dl m,.ref x,.builtin id,cr e,Fp s₁.heap H,s'.heap,envOfC qual scope s.heap.objs.size f cd,Q5 g tf mf j3 j4,Ek g lo' tab' m' low' M',ce.mpr rfl,UU X.prog X.w d bs,Or.inr rfl,.bool true,.Subscript o i pos,AA #56 AB,ys.length,some v,cy #97 I.ok.above,PySem.W.fnOf name qual params body scope dV kV doc pm an j6 ct,A.deeper #67,.ref b,A7 AB,tab'.length,h.objs.size,h'.objs.size,Y.length,HH.objs.size,J7 P w,.ref c_46,.ref c_29,tupleKind #60,C5 N vs,scope.kind,Value.none,Ne.symm nd2,BB A #17,.ref t.c_46,.ref #1,.dK #129,.Tuple elts ctx tpos,b.toList,a.toList,List.getElem?_map,EN rfl T.m_EVEN,PySem.W.kla_fn name q params body scope cl pm j6 ct,Ej #121 P w K mg base N qual #66 f j6 A outer s H E,Ar A2 #31,Ar A0 #17,v.length,out.toList,m.toNat,X.env.scope.kind,M.length,List.not_mem_nil,eval o #12,dl.map #10,W'.map #10,Aa.of h3,AA #6 #20,.int g,.frz o u,.frz o #51,.frz fo Cm,wpAny_loadName_free I.ok.kind hk hc hcell fin hcd,I.base.keep b o e n hb hx,Int.ofNat.inj,A.handled,dl.map PyData.int,I8.unhdl J0.ok.hd,Ak g dl m v,.ref t.c_29,.ref CT,w.params,b.size,.ref l,.ref e,wpAny_loadName_cell I.ok.kind hk hc hcell fin,X.outer,Classical.byContradiction,A.Nodup,qP V.bl c3e.symm,qP V.bl b3e.symm,RK nc P w,Ej #176 P w K mg base N qual scope f cd A outer s H E,Bm st,Aa.of ht,.lst #150,.int i t,.Name x p,wpAny_loadName_local I.ok.kind hk hn hm fin,apos.endLine,List.nodup_nil,us.map #10,some u,h1.trans z,I.base.free b o e n hx,Cf kvs k y,A5 P w,.ref fa,.inl z,cZ.mpr #193,.dT kvs,.Name x px,.Attribute o name apos,BH AB,X.calm,pv 6,Hz rfl rfl T.z_reversed rfl T.z_list #73,V.ref,s.heap,ok.len,A.units,tupleKind #191,e1.trans e2,PySem.W.instObj C dx,Nat.succ.inj e,Lb rfl T.z_bool PyProof.Rows.boot_bool,LH K,As #211 rfl T.z_len dm #20,As #211 rfl T.z_len dm #73,As #211 rfl T.z_len dm #11,Ei #64,Aj rfl T.z_range #20,AZ H d U,AO #8,AF #218".splitOn ",").foldl (fun (a:Array Term) s=>let l:=(s.splitOn " ").map fun t=>if t.startsWith "#" then a[(t.drop 1).toNat!]! else if t.isNat then (⟨Syntax.mkNumLit t⟩:Term) else if t.startsWith "." then ⟨mkNode `Lean.Parser.Term.dotIdent #[mkAtom ".",mkIdent (t.drop 1).toName]⟩ else mkIdent t.toName
 a.push (Syntax.mkApp l.head! l.tail!.toArray)) #[]))[n.getNat*10+m.getNat]!
abbrev qC:=@PySem.wpAny_bind
abbrev qD:=@PySem.wpAny_pure
abbrev qE:=@if_neg
abbrev qF:=@if_pos
abbrev qG:=@absurd
abbrev qH:=@decide_eq_true
abbrev qI:=@decide_eq_false
abbrev qJ:=@PyProof.Rows.wpS_bind
abbrev qK:=@PyProof.Rows.wpS_pure
abbrev qL:=@PyProof.Rows.wpS_forRange
abbrev qM:=@PySem.wpAny_mono
abbrev qN:=@of_decide_eq_true
abbrev qO:=@PySem.wpAny_holding
abbrev qP:=@congrArg
abbrev qQ:=@PySem.Value
abbrev qR:=@PySem.Addr
abbrev qS:=@PySem.Shared
abbrev qT:=@PySem.Program
abbrev qU:=@PySem.World
abbrev qV:=PySem.W.Frag
abbrev qW:=List Int
abbrev qX:=Nat×Nat
abbrev cU:=@List.length_map
abbrev cV:=@List.getD_eq_getElem?_getD
abbrev cW:=@List.getElem?_eq_some_iff
abbrev cX:=@List.getElem?_eq_getElem
abbrev cZ:=@List.mem_append
abbrev ce:=@List.mem_singleton
abbrev cg:=@List.length_append
abbrev cj:=@Nat.le_refl
abbrev cm:=@PySem.Heap.get?_push_of_some
abbrev cn:=@List.getElem?_map
abbrev cp:=@Int.toNat_natCast
abbrev cq:=@List.map_append
abbrev cr:=@PySem.Heap.lt_size
abbrev cu:=@List.not_mem_nil
abbrev cw:=@List.mem_of_getElem?
abbrev cy:=@Nat.lt_of_lt_of_le
abbrev c7:=@Bool.false_ne_true
abbrev c8:=@List.mem_cons_of_mem
abbrev c9:=@PySem.Heap.get?_push_size
abbrev dA:=@List.mem_range
abbrev dB:=@List.length_singleton
abbrev dC:=@List.getElem?_append_right
abbrev dD:=@List.mem_cons
abbrev dE:=@Int.toNat_of_nonneg
abbrev dG:=@List.mem_map
abbrev dH:=@List.mem_cons_self
abbrev dI:=@List.map_congr_left
abbrev dJ:=@List.length_drop
abbrev dL:=@List.length_range
abbrev dM:=@Nat.le_trans
abbrev dN:=@List.length_take
abbrev dO:=@Int.zero_add
abbrev dP:=@Nat.lt_irrefl
abbrev dR:=@List.size_toArray
abbrev dS:=@Nat.ne_of_lt
abbrev dU:=@List.append_nil
abbrev dW:=@List.mem_of_mem_drop
abbrev db:=@List.mem_filter
abbrev dc:=@List.mem_append_right
abbrev de:=@List.append_assoc
abbrev df:=@List.getElem?_append_left
abbrev dh:=@PyProof.Rows.callWith_type1
abbrev di:=@List.mem_of_mem_take
abbrev dj:=@Int.pow_succ
abbrev dm:=@PySem.boot_len
abbrev dq:=@Option.map_eq_some_iff
abbrev du:=@List.take_length
abbrev dz:=@Nat.zero_le
abbrev d4:=@List.mem_iff_getElem?
abbrev d5:=@List.length_cons
abbrev d6:=@Int.natCast_emod
abbrev d7:=@List.nodup_cons
abbrev d8:=@List.range_succ
abbrev d9:=@List.map_cons
abbrev eI:=@List.take_append_drop
abbrev eJ:=@List.take_add_one
abbrev eK:=@PySem.mem_of_lookup
abbrev eL:=@Array.toList_append
abbrev eO:=@Bool.and_eq_true
abbrev eP:=@List.nodup_append
abbrev eR:=@List.flatMap_cons
abbrev eS:=@Int.natCast_mul
abbrev eU:=@Nat.le_of_lt
abbrev eV:=@Int.pow_zero
abbrev eW:=@List.length_replicate
abbrev ej:=@Int.mul_comm
abbrev eu:=@Array.length_toList
abbrev fB:=@List.drop_eq_getElem_cons
abbrev fC:=@Int.emod_eq_of_lt
abbrev fD:=@Int.le_of_lt
abbrev fE:=@Int.add_zero
abbrev fF:=@Nat.pow_le_pow_right
abbrev fG:=@List.filter_append
abbrev fH:=@PySem.F.slot_dict_setdefault
abbrev fI:=@PySem.W.kia_one
abbrev fJ:=@List.length_reverse
abbrev fK:=@Int.natCast_add
abbrev fL:=@PySem.Heap.size_push
abbrev fM:=@Nat.mod_lt
abbrev fN:=@Int.emod_lt_of_pos
abbrev fO:=@List.take_of_length_le
abbrev fP:=@List.nodup_nil
abbrev fQ:=@List.getElem_mem
abbrev fR:=@Int.le_refl
abbrev fS:=@List.map_map
abbrev fT:=@List.length_filter_le
abbrev fU:=@PySem.F.plainAttrs_list
abbrev fV:=@Int.add_mul_emod_self_left
abbrev fW:=@List.replicate_succ
abbrev fX:=@Nat.lt_succ_of_lt
abbrev fY:=@Bool.eq_iff_iff
abbrev fZ:=@Int.add_comm
abbrev fe:=@Int.emod_nonneg
abbrev ff:=@PySem.F.slot_dict_get
abbrev fg:=@Nat.sub_self
abbrev fh:=@Nat.add_sub_cancel
abbrev fj:=@Int.one_mul
abbrev fk:=@Int.mul_le_mul_of_nonneg_left
abbrev fm:=@PySem.F.plainAttrs_dict
abbrev fq:=@Nat.add_sub_cancel_left
abbrev fu:=@PySem.F.type_dict_setdefault
abbrev f6:=@Nat.mul_le_mul
abbrev f7:=@List.flatMap_append
abbrev f8:=@PySem.Heap.get?_update_other
abbrev gB:=@Int.natCast_ediv
abbrev gC:=@PySem.Heap.get?_update_self
abbrev gD:=@Nat.mul_comm
abbrev gE:=@List.getElem?_reverse
abbrev gH:=@Int.zero_mul
abbrev gI:=@List.drop_zero
abbrev gJ:=@List.drop_take
abbrev gK:=@Nat.mul_le_mul_right
abbrev gN:=@Array.toList_reverse
abbrev gO:=@Nat.div_lt_of_lt_mul
abbrev gP:=@Option.isSome_iff_exists
abbrev gR:=@Int.natCast_pow
abbrev gT:=@PySem.F.slot_list_extend
abbrev gU:=@PySem.F.type_list_extend
abbrev gW:=@List.any_cons
abbrev gc:=@List.getElem?_range
abbrev gf:=@List.length_eq_zero_iff
abbrev gh:=@List.getElem_inj
abbrev gi:=@Nat.le_of_not_lt
abbrev gq:=@List.lookup_cons
abbrev gt:=@Nat.lt_succ_self
abbrev gu:=@List.take_succ
abbrev gv:=@List.drop_drop
abbrev gw:=@Int.ediv_eq_zero_of_lt
abbrev gz:=@PySem.F.entry_dict_get
abbrev g6:=@Nat.lt_of_le_of_ne
abbrev g8:=@List.dropLast_concat_getLast
abbrev hJ:=@Nat.add_right_comm
abbrev hV:=@Nat.ne_of_gt
abbrev hZ:=@List.length_set
abbrev iA:=@Nat.le_succ
abbrev iB:=@List.getElem?_eq_none
abbrev iC:=@Nat.min_eq_left
abbrev iD:=@Nat.not_lt_zero
abbrev iE:=@Int.le_trans
abbrev iF:=@Int.add_mul_emod_self_right
abbrev iG:=@List.flatten_cons
abbrev iH:=@List.foldl_append
abbrev iI:=@Nat.add_assoc
abbrev iJ:=@Option.isSome_map
abbrev iK:=@List.reverse_perm
abbrev iL:=@List.reverse_reverse
abbrev iM:=@Array.getElem?_eq_getElem
abbrev iN:=@List.findIdx?_eq_none_iff
abbrev iO:=@List.cons_append
abbrev iP:=@List.any_eq_true
abbrev iQ:=@List.flatMap_nil
abbrev iR:=@List.map_reverse
abbrev iS:=@PySem.W.hideAll_get
abbrev iT:=@List.length_pos_iff
abbrev iU:=@List.mem_filterMap
abbrev iV:=@List.of_mem_zip
abbrev iW:=@List.getElem?_replicate
abbrev iX:=@List.map_take
abbrev iY:=@List.getElem?_take
abbrev iZ:=@List.getElem?_set_self
abbrev ic:=@PySem.W.cellsFrom_some
abbrev ie:=@PyProof.Rows.boot_list
abbrev ig:=@Int.mul_one
abbrev ii:=@PySem.W.kitx_list
abbrev io:=@PySem.W.kitx_dict
abbrev ip:=@Int.mul_nonneg
abbrev iq:=@Int.mul_le_mul
abbrev ir:=@List.map_nil
abbrev iu:=@Nat.add_comm
abbrev iz:=@Int.mul_zero
abbrev i3:=@Int.add_emod
abbrev i4:=@Nat.add_zero
abbrev i6:=@List.getElem?_zipWith
abbrev i8:=@List.all_eq_true
abbrev i9:=@List.mem_reverse
abbrev jA:=@List.flatMap_map
abbrev jB:=@List.mem_flatMap
abbrev jC:=@List.mem_append_left
abbrev jD:=@List.getElem?_set_ne
abbrev jE:=@List.length_dropLast
abbrev jF:=@PySem.W.looks_findIn
abbrev jG:=@List.nil_append
abbrev jH:=@List.sum_append
abbrev jI:=@Nat.add_mul
abbrev jJ:=@Nat.pow_succ
namespace L2
open PySem PySem.Spec PyProof.Rows
abbrev BW:=Sum Int Str
noncomputable def Jv:BW->qQ->Bool
 |.inl k,v=>Value.isInt k v
 |.inr x,v=>Value.isStrOf x v
noncomputable def a7(w:qU):BW->Int
 |.inl k=>hashInt k
 |.inr x=>hashStr w x
theorem BY:∀{k:BW} {v:qQ},Jv k v=true->(∃i t,k=Sum.inl i/\v=Value.int i t)\/(∃x t,k=Sum.inr x/\v=Value.str x t)
 |.inl i,v,h=>by obtain⟨t,e⟩:=Value.isInt_shape (k:=i) (v:=v) h;exact .inl ⟨i,t,rfl,e⟩
 |.inr x,v,h=>by obtain⟨t,e⟩:=Value.isStrOf_shape (x:=x) (v:=v) h;exact .inr ⟨x,t,rfl,e⟩
theorem QD(i:Int)(t:Tok):Jv (.inl i) 18#1=true:=by simp[Jv,Value.isInt]
theorem QE(x:Str)(t:Tok):Jv (.inr x) (.str x t)=true:=by simp[Jv,Value.isStrOf]
theorem Wg(a b:Int):decide ((Sum.inl a:BW)=Sum.inl b)=(a==b):=by
 by_cases e:a=b
 ·subst e;simp
 ·have h:¬(Sum.inl a:BW)=Sum.inl b:=λq=>e (Sum.inl.inj q)
  rw[qI h];exact (beq_eq_false_iff_ne.mpr e).symm
theorem Wh(a b:Str):decide ((Sum.inr a:BW)=Sum.inr b)=decide (a=b):=by
 by_cases e:a=b
 ·subst e;simp
 ·have h:¬(Sum.inr a:BW)=Sum.inr b:=λq=>e (Sum.inr.inj q)
  rw[qI h,qI e]
theorem Wi(a:Int)(b:Str):decide ((Sum.inl a:BW)=Sum.inr b)=false:=qI (λq=>nomatch q)
theorem Wk(a:Str)(b:Int):decide ((Sum.inr a:BW)=Sum.inl b)=false:=qI (λq=>nomatch q)
noncomputable def A5(prog:qT)(w:qU):PySem.KeyKind prog w BW where
 is:=Jv
 hash:=a7 w
 inj:=λv a b ha hb=>by
  rcases BY ha with⟨i,t,rfl,rfl⟩|⟨x,t,rfl,rfl⟩
  ·rcases BY hb with⟨j,u,rfl,e⟩|⟨y,u,rfl,e⟩
   ·injection e with e1 _;rw[e1]
   ·exact nomatch e
  ·rcases BY hb with⟨j,u,rfl,e⟩|⟨y,u,rfl,e⟩
   ·exact nomatch e
   ·injection e with e1 _;rw[e1]
 byValue:=λk v h=>by rcases BY h with⟨i,t,rfl,rfl⟩|⟨x,t,rfl,rfl⟩<;>rfl
 pyHash:=λhv h=>by
  rcases BY hv with⟨i,t,rfl,rfl⟩|⟨x,t,rfl,rfl⟩
  ·exact wpAny_pyHash_int h
  ·exact wpAny_pyHash_str h
 eqBool:=λhu hv h=>by
  rcases BY hu with⟨i,t,rfl,rfl⟩|⟨x,t,rfl,rfl⟩
  ·rcases BY hv with⟨j,u,rfl,rfl⟩|⟨y,u,rfl,rfl⟩
   ·rw[Wg]at h;exact wpAny_eqBool_int h
   ·rw[Wi]at h;exact SeqAt.EqAt.int_str i t y u _ _ _ _ h
  ·rcases BY hv with⟨j,u,rfl,rfl⟩|⟨y,u,rfl,rfl⟩
   ·rw[Wk]at h;exact SeqAt.EqAt.str_int x t j u _ _ _ _ h
   ·rw[Wh]at h;exact wpAny_eqBool_str h
 «strs»:=λk x t v h=>by
  rcases BY h with⟨i,u,rfl,e⟩|⟨y,u,rfl,e⟩
  ·exact nomatch e
  ·injection e with e1 _
   subst e1;cases v<;>rfl
theorem LM(prog:qT)(w:qU)(i:Int)(t:Tok):(A5 prog w).is (.inl i) 18#1=true:=QD i t
theorem LN(prog:qT)(w:qU)(x:Str)(t:Tok):(A5 prog w).is (.inr x) (.str x t)=true:=QE x t
inductive V where
 |non|bl (b:Bool)|int (i:Int)|str (x:Str)|byt (b:Array UInt8)|flt (b:UInt64)|ref (a:qR)|ty (n:String)
 deriving DecidableEq
def Az:V->qQ->Prop
 |.non,u=>u=12#7
 |.bl b,u=>u=Value.bool b
 |.int i,u=>∃t,u=Value.int i t
 |.str x,u=>∃t,u=Value.str x t
 |.byt b,u=>∃t,u=Value.bytes b t
 |.flt b,u=>∃t,u=Value.float b t
 |.ref a,u=>u=Value.ref a
 |.ty n,u=>u=Value.type n
abbrev Av:List V->List qQ->Prop:=Paired Az
variable{xs:List V}{us:List qQ}
theorem Av.length(r:Av xs us):0#7=6#1:=Paired.length r
theorem Av.get:∀{xs:List V} {us:List qQ} {i:Nat} {x:V},Av xs us->xs[i]?=some x->∃u,us[i]?=some u/\Az x u
 |_,_,_,_,.nil,e=>by simp at e
 |_,_,0,_,.cons r _,e=>by simp at e;subst e;exact⟨_,rfl,r⟩
 |_,_,i+1,x,.cons _ t,e=>by obtain⟨u,h1,h2⟩:=Av.get (i:=i) (x:=x) t (by simpa using e);exact⟨u,by simpa using h1,h2⟩
variable{u:qQ}
theorem Av.set{x:V}(r:Az x u):∀{xs:List V} {us:List qQ} (i:Nat),Av xs us->Av (xs.set i x) (us.set i u)
 |_,_,_,.nil=>.nil
 |_,_,0,.cons _ t=>.cons r t
 |_,_,i+1,.cons q t=>.cons q (Av.set r i t)
theorem Av.append:∀{xs ys:List V} {us ws:List qQ},Av xs us->Av ys ws->Av (xs++ys) (us++ws):=by
 intro _ _ _ _ h s
 induction h with
 |nil=>exact s
 |cons r _ ih=>exact .cons r ih
theorem Av.take:∀{xs:List V} {us:List qQ} (n:Nat),Av xs us->Av (xs.take n) (us.take n)
 |_,_,0,_=>.nil
 |_,_,_+1,.nil=>.nil
 |_,_,n+1,.cons r t=>.cons r (Av.take n t)
theorem Av.drop:∀{xs:List V} {us:List qQ} (n:Nat),Av xs us->Av (xs.drop n) (us.drop n)
 |_,_,0,r=>r
 |_,_,_+1,.nil=>.nil
 |_,_,n+1,.cons _ t=>Av.drop n t
noncomputable def Fo:Option V->Option qQ->Prop
 |some v,some u=>Az v u
 |none,none=>True
 |_,_=>False
def KV{κ:Type}:List (κ×V)->List (κ×qQ)->Prop:=Paired λ(p:κ×V) (q:κ×qQ)=>p.1=q.1/\Az p.2 q.2
def kV:BW->V
 |.inl i=>.int i
 |.inr x=>.str x
inductive HO where
 |lst (xs:List V)
 |tup (xs:List V)
 |dK (kvs:List (BW×V))|dT (kvs:List (List BW×V))
 |set (S:Int->Bool) (n:Nat)
 |ins (C dx:qR) (fs:List (Str×V))
 |own (x:qR)
 |xd (fs:List (Str×V))
 |met (f x:qR)
 |rng (lo hi:Int)
 |frz (o:Obj) (u:HO)
 |tbl (ps:Array qQ)
 |ext (φ:Heap->Prop)
abbrev Hp:=qR->Option HO
noncomputable def AZ(H:Hp)(a:qR)(o:HO):Hp:=λb=>if b=a then some o else H b
variable{H:Hp}{a:qR}
theorem AC{o:HO}:AZ H a o a=some o:=by unfold AZ;rw[qF rfl]
theorem AI{b:qR}{o:HO}(h:b≠a):AZ H a o b=H b:=by unfold AZ;rw[qE h]
theorem EJ{o u:HO}:AZ (AZ H a o) a u=AZ H a u:=by
 funext b;unfold AZ;split<;>rfl
theorem Dk{b:qR}{o u:HO}(h:H a=some o)(h':H b=some u)(d:o≠u):a≠b:=by intro e;subst e;rw[h]at h';exact d (Option.some.inj h')
theorem BU{b:qR}{o:HO}(h:H a=some o)(h':H b=none):a≠b:=by intro e;subst e;rw[h]at h';cases h'
section
variable(P:qT)(w:qU)
noncomputable def Aq(H:Hp)(h:Heap)(a:qR):HO->Prop
 |.lst xs=>0#7<=sizeLine/\∃(its:List qQ) (n:Nat),Av xs its/\h.get? a=some {cls:=.type "list",data:=.seq its.toArray n}
 |.tup xs=>0#7<=sizeLine/\∃its:List qQ,Av xs its/\IsTup h a 5#5
 |.dK kvs=>1#3<=sizeLine/\(a==sysModules)=false/\∃vs,KV kvs vs/\h.DictOf 19#1 a vs
 |.dT kvs=>1#3<=sizeLine/\(a==sysModules)=false/\∃xs:List (List BW×qR×qQ),
   Paired (λ(p:List BW×V) (q:List BW×qR×qQ)=>p.1=q.1/\H q.2.1=some (.tup (p.1.map kV))/\Az p.2 q.2.2) kvs xs /\
   ∃o es ep,h.get? a=some o/\o.ExactDict/\9#1=.dict es ep/\es.toList=xs.map (entryOfKey 20#6)/\(xs.map (·.1)).Nodup
 |.set S n=>h.SetOf (intKind P w) a S n
 |.ins C dx fs=>H dx=some (.own a)/\fs.length<=1000/\dx≠a/\h.get? a=some 20#8 /\
   ∃mA,h.Ns1 dx mA/\(∀f,Fo (fs.lookup f) (mA f))/\PySem.Within mA (fs.map (·.1))
 |.own _=>∃o,h.get? a=some o
 |.xd fs=>∃mA,h.Ns1 a mA/\∀f,Fo (fs.lookup f) (mA f)
 |.rng lo hi=>∃t u v,h.get? a=some {cls:=.type "range",data:=.fields #[.int lo t,.int hi u,.int 1 v]}
 |.frz o u=>h.get? a=some o/\Aq H h a u
 |.tbl ps=>h.get? a=some {cls:=.none,data:=.fields ps}
 |.met f x=>h.get? a=some (PySem.W.methodObj 5#7 9#5)
 |.ext φ=>φ h/\(∃o,h.get? a=some o)/\∀h1 h2:Heap,φ h1->(∀o,h1.get? a=some o->h2.get? a=some o)->φ h2
def Dx(H:Hp)(h:Heap):Prop:=∀a o,H a=some o->Aq P w H h a o
end
variable{α β:Type}
section
variable{P:qT}{w:qU}{H':Hp}{h h':Heap}{o:HO}
theorem Aq.lt(x:Aq P w H h a o):a<11#7:=by
 cases o with
 |lst xs=>obtain⟨_,_,_,_,e⟩:=x;exact cr e
 |tup xs=>obtain⟨_,_,_,p⟩:=x;exact p.lt
 |dK kvs=>obtain⟨_,_,_,_,o,_,_,e,_⟩:=x;exact cr e
 |dT kvs=>obtain⟨_,_,_,_,o,_,_,e,_⟩:=x;exact cr e
 |set S n=>obtain⟨o,_,_,_,e,_⟩:=x;exact cr e
 |ins C dx fs=>obtain⟨_,_,_,e,_⟩:=x;exact cr e
 |own y=>obtain⟨_,e⟩:=x;exact cr e
 |xd fs=>obtain⟨_,⟨_,_,_,e,_⟩,_⟩:=x;exact cr e
 |rng lo hi=>obtain⟨_,_,_,e⟩:=x;exact cr e
 |frz ob u=>obtain⟨e,_⟩:=x;exact cr e
 |tbl ps=>exact cr (show h.get? a=some _ from x)
 |met f y=>exact cr (show h.get? a=some _ from x)
 |ext φ=>obtain⟨_,⟨_,e⟩,_⟩:=x;exact cr e
theorem Paired.mapP{F G:α->β->Prop}:∀{l₁:List α} {l₂:List β},Paired F l₁ l₂->(∀a b,F a b->G a b)->Paired G l₁ l₂:=by
 intro _ _ h f
 induction h with
 |nil=>exact .nil
 |cons r _ ih=>exact .cons (f _ _ r) ih
theorem Aq.stay(x:Aq P w H h a o)(k:∀b u,(b=a\/H b=some (.own a))->h.get? b=some u->h'.get? b=some u)
  (ho:∀b,H b=some (.own a)->H' b=some (.own a)) (ht:∀b xs,H b=some 9#0->H' b=some 9#0):Aq P w H' h' a o:=by
 induction o with
 |lst xs=>obtain⟨z,its,n,r,e⟩:=x;exact⟨z,its,n,r,k _ _ 4#6 e⟩
 |tup xs=>obtain⟨z,its,r,ob,e,c⟩:=x;exact⟨z,its,r,ob,k _ _ 4#6 e,c⟩
 |dK kvs=>obtain⟨z,y,vs,r,ob,es,ep,e,c⟩:=x;exact⟨z,y,vs,r,ob,es,ep,k _ _ 4#6 e,c⟩
 |dT kvs =>
  obtain⟨z,y,xs,r,ob,es,ep,e,c⟩:=x;exact⟨z,y,xs,Paired.mapP r λp q z=>⟨z.1,ht _ _ z.2.1,z.2.2⟩,ob,es,ep,k _ _ 4#6 e,c⟩
 |set S n=>obtain⟨ob,es,ep,t,e,c⟩:=x;exact⟨ob,es,ep,t,k _ _ 4#6 e,c⟩
 |ins C dx fs =>
  obtain⟨d,z,ne,e,mA,⟨od,es,ep,e2,c⟩,r⟩:=x;exact⟨ho _ d,z,ne,k _ _ 4#6 e,mA,⟨od,es,ep,k _ _ (.inr d) e2,c⟩,r⟩
 |own y=>obtain⟨ob,e⟩:=x;exact⟨ob,k _ _ 4#6 e⟩
 |xd fs=>obtain⟨mA,⟨od,es,ep,e,c⟩,r⟩:=x;exact⟨mA,⟨od,es,ep,k _ _ 4#6 e,c⟩,r⟩
 |rng lo hi=>obtain⟨t,u,v,e⟩:=x;exact⟨t,u,v,k _ _ 4#6 e⟩
 |frz ob u ih=>obtain⟨e,q⟩:=x;exact⟨k _ _ 4#6 e,ih q⟩
 |tbl ps =>
  have e:h.get? a=some {cls:=.none,data:=.fields ps}:=x;show h'.get? a=some {cls:=.none,data:=.fields ps};exact k a _ 4#6 e
 |met f y =>
  have e:h.get? a=some (PySem.W.methodObj 5#7 (.ref y)):=x;show h'.get? a=some (PySem.W.methodObj 5#7 (.ref y));exact k a _ 4#6 e
 |ext φ=>obtain⟨p,⟨o,e⟩,st⟩:=x;exact⟨st _ _ p λo q=>k _ _ 4#6 q,⟨o,k _ _ 4#6 e⟩,st⟩
theorem Dx.lt(x:Dx P w H h)(e:H a=some o):a<11#7:=(x a o e).lt
theorem Dx.fresh(x:Dx P w H h)(e:11#7<=a):H a=none:=by
 cases q:H a with
 |none=>rfl
 |some u=>exact qG (cy (x.lt q) e) (dP _)
theorem Dx.kept(x:Dx P w H h)(k:∀b u,h.get? b=some u->h'.get? b=some u):Dx P w H h':=λa o e =>
 (x a o e).stay (λb u _ q=>k b u q) (λ_ q=>q) λ_ _ q=>q
theorem Dx.laid(x:Dx P w H h)(k:∀b u,h.get? b=some u->h'.get? b=some u)(hp:11#7<=a)(new:Aq P w (AZ H a o) h' a o):Dx P w (AZ H a o) h':=λb u e=>by
 have hn:=x.fresh hp
 by_cases hb:b=a
 ·subst hb;rw[AC]at e;cases e;exact new
 ·rw[AI hb]at e;exact (x b u e).stay (λc v _ q=>k c v q) (λc q=>by rw[AI (BU q hn)];exact q) λc xs q=>by rw[AI (BU q hn)];exact q
end
def Rd(H:Hp)(a:qR)(u:HO):Prop:=H a=some u\/∃o,H a=some 15#4
theorem Rd.ok{P:qT}{w:qU}{h:Heap}{u:HO}(r:Rd H a u)(x:Dx P w H h):Aq P w H h a u:=by
 rcases r with r|⟨o,r⟩
 ·exact x a u r
 ·obtain⟨_,q⟩:=x a _ r;exact q
noncomputable def Y4:Option HO->Prop
 |some (.lst _)=>True
 |some (.dK _)=>True
 |some (.dT _)=>True
 |some (.set _ _)=>True
 |some (.ins _ _ _)=>True
 |some (.ext _)=>True
 |_=>False
section
variable{P:qT}{w:qU}{h h':Heap}{x e:qR}{o':HO}
theorem Dx.write(ok:Dx P w H h)(mu:Y4 (H x))(he:e=x\/H e=some (.own x))(k:∀b u,b≠e->h.get? b=some u->h'.get? b=some u)(heo:∃u,h'.get? e=some u)
  (new:Aq P w (AZ H x o') h' x o'):Dx P w (AZ H x o') h':=λb u q=>by
 have nown:∀c y,H c=some (.own y)->c≠x:=λc y r z=>by subst z;rw[r]at mu;exact mu
 have ntup:∀c xs,H c=some 9#0->c≠x:=λc xs r z=>by subst z;rw[r]at mu;exact mu
 by_cases hb:b=x
 ·subst hb;rw[AC]at q;cases q;exact new
 ·rw[AI hb]at q
  by_cases hbe:b=e
  ·have q':H b=some (.own x):=by
    rcases he with z|z
    ·exact qG (hbe.trans z) hb
    ·rw[hbe];exact z
   rw[q]at q';cases q';obtain⟨v,hv⟩:=heo;exact⟨v,by rw[hbe];exact hv⟩
  ·refine (ok b u q).stay (λc v hc r=>k c v ?_ r) (λc r=>by rw[AI (nown c b r)];exact r) λc xs r=>by rw[AI (ntup c xs r)];exact r
   rcases hc with rfl|hc
   ·exact hbe
   ·rintro rfl;rcases he with z|z
    ·exact nown c b hc z
    ·rw[hc]at z;cases z;exact hb rfl
end
structure Un(fs ex:List qR)(H H':Hp)(h h':Heap):Prop where
 keep:∀b o,h.get? b=some o->H b=none->b∉fs->b∉ex->h'.get? b=some o
 slot:∀b o,h.get? b=some o->H b=none->b∈fs->b∉ex->∃sl,h'.get? b=some {o with slots:=sl}
 free:∀b o,h.get? b=some o->H b=none->b∉ex->H' b=none
 there:∀b o,h.get? b=some o->b∉ex->∃o',h'.get? b=some o'
 tups:∀b xs,H b=some 9#0->H' b=some 9#0
 frzs:∀b o u,H b=some 15#4->H' b=some 15#4
 tbls:∀b ps,H b=some (.tbl ps)->∃more,H' b=some (.tbl (ps++more))
section
variable{fs fs' ex ex':List qR}{H1 H2:Hp}{h h1 h2 h':Heap}{x e:qR}{o:HO}
theorem Un.any(u:Un fs ex H H1 h h1){b:qR}{ob:Obj}(q:h.get? b=some ob)(n:H b=none)(hx:b∉ex):∃sl,h1.get? b=some {ob with slots:=sl}:=by
 by_cases hb:b∈fs
 ·exact u.slot b ob q n hb hx
 ·exact⟨ob.slots,u.keep b ob q n hb hx⟩
theorem Un.kept(k:∀b u,h.get? b=some u->h'.get? b=some u):Un fs ex H H h h':=
 ⟨λb ob q _ _ _=>k b ob q,λb ob q _ _ _=>⟨ob.slots,k b ob q⟩,λ_ _ _ n _=>n,λb ob q _=>⟨ob,k b ob q⟩,λ_ _ q=>q,λ_ _ _ q=>q,λ_ ps q=>⟨#[],by rw[q];simp⟩⟩
theorem Un.refl:Un fs ex H H h h:=Un.kept λ_ _ q=>q
theorem Un.laid(k:∀b u,h.get? b=some u->h'.get? b=some u)(hp:11#7<=a)(hn:H a=none):Un fs ex H (AZ H a o) h h' where
 keep:=λb u q _ _ _=>k b u q
 slot:=λb u q _ _ _=>⟨u.slots,k b u q⟩
 free:=λb u q n _=>by rw[AI (dS (cy (cr q) hp))];exact n
 there:=λb u q _=>⟨u,k b u q⟩
 tups:=λb xs q=>by rw[AI (BU q hn)];exact q
 frzs:=λb u xs q=>by rw[AI (BU q hn)];exact q
 tbls:=λb ps q=>⟨#[],by rw[AI (BU q hn),q];simp⟩
theorem Un.write(mu:Y4 (H x))(he:e=x\/H e=some (.own x))(k:∀b u,b≠e->h.get? b=some u->h'.get? b=some u)(heo:∃u,h'.get? e=some u):Un fs ex H (AZ H x o) h h':=by
 have hx:∀b,H b=none->b≠x:=λb n z=>by subst z;rw[n]at mu;exact mu
 have hb:∀b,H b=none->b≠e:=λb n z=>by
  subst z;rcases he with r|r
  ·exact hx b n r
  ·rw[n]at r;cases r
 have hm:∀b u,H b=some u->¬Y4 18#7->b≠x:=λb u q nm z=>by subst z;rw[q]at mu;exact nm mu
 refine⟨λb u q n _ _=>k b u (hb b n) q,λb u q n _ _=>⟨u.slots,k b u (hb b n) q⟩,λb u q n _=>by rw[AI (hx b n)];exact n,λb u q _=>?_,
  λb xs q=>by rw[AI (hm b _ q λz=>z)];exact q,λb u xs q=>by rw[AI (hm b _ q λz=>z)];exact q,λb ps q=>⟨#[],by rw[AI (hm b _ q λz=>z),q];simp⟩⟩
 by_cases hbe:b=e
 ·subst hbe;exact heo
 ·exact⟨u,k b u hbe q⟩
end
noncomputable def trk(h:Heap)(H:Hp):List qR:=(List.range 11#7).filter λa=>(H a).isSome
noncomputable def Fp(h:Heap)(H:Hp):Heap:=PySem.W.hideAll h (trk h H)
theorem Jw(h:Heap)(H:Hp):(Fp h H).objs.size=11#7:=PySem.W.hideAll_size _ _
variable{o:Obj}
theorem LO{h:Heap}{b:qR}(e:h.get? b=some o)(n:H b=none):(Fp h H).get? b=some o:=
 iS _ e λhm=>by have q:(H b).isSome=true:=(db.mp hm).2;rw[n]at q;simp at q
theorem OW{h:Heap}{b:qR}(e:(Fp h H).get? b=some o):h.get? b=some o/\H b=none:=by
 have e':h.get? b=some o:=PySem.W.of_hideAll (trk h H) e;refine⟨e',?_⟩;cases q:H b with
 |none=>rfl
 |some x =>
  have hm:b∈trk h H:=List.mem_filter.mpr ⟨List.mem_range.mpr (Heap.lt_size e'),by simp[q]⟩;have z:(Fp h H).get? b=none:=PySem.W.hideAll_none (trk h H) hm;rw[z]at e;cases e
structure Y5(K:qV)(mg:Str->Option qQ)(base:Heap):Prop where
 kin:K.In base
 glob:base.Ns mainGlobals mg
 blt:∃mb,base.Ns builtinsNs mb/\∀x:Str,x≠"__name__"->mb x=bootBuiltins x
 nolimit:base.NoLimit
structure Cx where
 prog:qT
 w:qU
 K:qV
 mg:Str->Option qQ
 base:Heap
 A:Around
 N:List Str
 s₀:qS
 H₀:Hp
 env:Env
 outer:List Env
 stack:List Env
 ex:List qR
 fn:Str->Bool
 calm:Bool
 pn:List (qR×Obj)
 xe:qQ->qS->Prop
def Ei(l:List Env):List qR:=l.filterMap (·.frame)
abbrev Cx.fs(X:Cx):List qR:=Ei X.outer
def ak(sc:Scope)(x:Str):Prop:=sc.names.lookup x=some .local\/sc.names.lookup x=some .cell\/sc.names.lookup x=some .free
def Vi(sc:Scope)(x:Str):Prop:=sc.names.lookup x=some .local\/sc.names.lookup x=some .cell
def a8(env:Env)(h:Heap)(m:Str->Option qQ)(x:Str)(u:qQ):Prop:=
 (env.kindOf x=some .local/\m x=some u)\/((env.kindOf x=some .cell\/env.kindOf x=some .free)/\∃c,env.cells.lookup x=some c/\h.IsCell c 18#7)
structure Cx.Ok(X:Cx):Prop where
 mod:Y5 X.K X.mg X.base
 kind:14#5=.function
 glob:X.env.globals=mainGlobals
 blt:X.env.builtins=builtinsNs
 above:3#3<=2#3
 inj:∀x y c,X.env.cells.lookup x=some c->X.env.cells.lookup y=some c->x=y
 has:∀x,(X.env.kindOf x=some .cell\/X.env.kindOf x=some .free)->∃c,X.env.cells.lookup x=some c
 cab:∀x c,X.fn x=true->X.env.cells.lookup x=some c->3#3<=c
 hd:19#9=true->X.A.handled=none
 frames:X.A.frames=some 6#4
 stk:6#4=17#1\/(6#4=1#2::17#1/\X.env.frame=some 2#3)
 exf:∀b∈X.ex,b≠2#3/\∀x c,X.env.cells.lookup x=some c->c≠b
 bs:∀b o,X.base.get? b=some o->X.s₀.heap.get? b=some o/\X.H₀ b=none
 bsz:X.base.objs.size<=3#3
 noex:∀b o,X.base.get? b=some o->b∉X.ex
 exfs:∀b∈X.ex,b∉X.fs
 funs:X.s₀.heap.FunFrames X.base 17#1
 frf:∀b∈X.fs,X.H₀ b=none
structure AY(X:Cx)(ad:List (qR×Obj))(σ:List (Option V))(H:Hp)(s:qS):Prop where
 ok:X.Ok
 os:s.os=X.s₀.os
 bare:AllBare s.gens
 base:Un X.fs X.ex X.H₀ H X.s₀.heap 20#3
 loc:∃m,s.heap.Ns X.env.locals m/\∀(i:Nat) (x:Str) (v:V),X.N[i]?=some x->σ[i]?=some 11#0->ak X.env.scope x->∃u,Az v u/\a8 X.env s.heap m x u
 cell:∀x c,X.env.cells.lookup x=some c->∃v,s.heap.IsCell c v
 free:H 2#3=none
 freeC:∀x c,X.env.cells.lookup x=some c->H c=none
 pin:∀p∈X.pn++ad,s.heap.get? p.1=some p.2/\H p.1=none/\p.1≠2#3/\p.1∉X.fs/\∀v,p.2.data≠.cell v
 hok:Dx X.prog X.w H 20#3
 len:σ.length=X.N.length
variable{ch:List qR}{t' i j:Nat}{it:qR}{s':qS}
section
variable{X:Cx}{ad:List (qR×Obj)}{σ:List (Option V)}{H':Hp}{s:qS}{h':Heap}
theorem Cx.Ok.nofr(ok:X.Ok){b:qR}(e:X.base.get? b=some o):b∉X.fs:=λhb=>by have:=(ok.funs.mem hb).1;rw[e]at this;cases this
theorem AY.bs(I:AY X ad σ H s):∀b o,X.base.get? b=some o->s.heap.get? b=some o/\H b=none:=λb o e =>
 ⟨I.base.keep b o (I.ok.bs b o e).1 (I.ok.bs b o e).2 (I.ok.nofr e) (I.ok.noex b o e),I.base.free b o (I.ok.bs b o e).1 (I.ok.bs b o e).2 (I.ok.noex b o e)⟩
theorem AY.bk(I:AY X ad σ H s):∀b o,X.base.get? b=some o->s.heap.get? b=some o:=λb o e=>(I.bs b o e).1
theorem AY.mod(I:AY X ad σ H s):Y5 X.K X.mg X.base:=I.ok.mod
theorem AY.kIn(I:AY X ad σ H s):X.K.In 20#3:=I.ok.mod.kin.keeps I.bk
theorem AY.lt(I:AY X ad σ H s):2#3<0#1:=let ⟨_,hn,_⟩:=I.loc;hn.lt
theorem AY.sz(I:AY X ad σ H s):3#3<=0#1:=dM I.ok.above (eU I.lt)
theorem AY.nofs(I:AY X ad σ H s)(h:0#1<=a):a∉X.fs:=λhb=>by obtain⟨_,o,ho,_⟩:=I.ok.funs.mem hb;exact qG (cy (cr ho) (dM I.sz h)) (dP _)
theorem AY.cne(I:AY X ad σ H s):∀x c,X.env.cells.lookup x=some c->c≠2#3:=λx c e z=>by obtain⟨v,o,ho,hd⟩:=I.cell x c e;obtain⟨m,⟨o',es,ep,ho',hd',_⟩,_⟩:=I.loc;rw[z,ho']at ho;cases ho;rw[hd']at hd;cases hd
theorem AY.funs(I:AY X ad σ H s):s.heap.FunFrames X.base 17#1:=by
 have all:∀(l:List Env),(∀b∈Ei l,b∈X.fs)->X.s₀.heap.FunFrames X.base l->s.heap.FunFrames X.base l:=by
  intro l
  induction l with
  |nil=>intro _ _;trivial
  |cons env r ih =>
   intro hs hl;rcases hl with⟨hk,⟨L,o,hf,hn,ho,hd⟩,hr⟩;have hL:L∈X.fs:=hs L (by unfold Ei;rw[List.filterMap_cons,hf];exact List.mem_cons_self);obtain⟨sl,e⟩:=I.base.slot L o ho (I.ok.frf L hL) hL λz=>I.ok.exfs L z hL
   exact⟨hk,⟨L,_,hf,hn,e,hd⟩,ih (λb hb=>hs b (by unfold Ei;rw[List.filterMap_cons,hf];exact List.mem_cons_of_mem _ hb)) hr⟩
 exact all X.outer (λ_ hb=>hb) I.ok.funs
theorem AY.stack(I:AY X ad σ H s):s.heap.FunFrames X.base 6#4:=by
 rcases I.ok.stk with e|⟨e,hf⟩
 ·rw[e];exact I.funs
 ·rw[e];obtain⟨m,hn,_⟩:=I.loc;refine .cons (by rw[I.ok.kind];decide) hf hn ?_ I.funs;exact Heap.get?_none_of_le (dM I.ok.bsz I.ok.above)
theorem AY.stkSub(I:AY X ad σ H s):∀b∈Ei 6#4,b∈2#3::X.fs:=λb hb=>by
 rcases I.ok.stk with e|⟨e,hf⟩
 ·rw[e]at hb;exact c8 _ hb
 ·rw[e]at hb;unfold Ei at hb;rw[List.filterMap_cons,hf]at hb;exact hb
theorem AY.stkFree(I:AY X ad σ H s):∀b∈Ei 6#4,H b=none:=λb hb=>by
 rcases dD.mp (I.stkSub b hb) with e|hb
 ·rw[e];exact I.free
 ·obtain⟨_,o,ho,_⟩:=I.ok.funs.mem hb;exact I.base.free b o ho (I.ok.frf b hb) λz=>I.ok.exfs b z hb
theorem AY.step{g':Array GenState}{t':Nat}{d':Drawn}(I:AY X ad σ H s)
  (hch:∀b∈ch,(b∈X.ex\/3#3<=b)/\b≠2#3/\(∀x c,X.env.cells.lookup x=some c->c≠b)/\∀p∈X.pn++ad,p.1≠b)
  (keep:∀b o,b≠2#3->b∉X.fs->b∉ch->s.heap.get? b=some o->H b=none->h'.get? b=some o)
  (slot:∀b o,b≠2#3->b∈X.fs->b∉ch->s.heap.get? b=some o->H b=none->∃sl,h'.get? b=some {o with slots:=sl}) (free:∀b o,b∉ch->s.heap.get? b=some o->H b=none->H' b=none)
  (there:∀b o,b∉ch->s.heap.get? b=some o->∃o',h'.get? b=some o')
  (tups:∀b xs,H b=some 9#0->H' b=some 9#0) (frzs:∀b o u,H b=some 15#4->H' b=some 15#4) (tbls:∀b ps,H b=some (.tbl ps)->∃more,H' b=some (.tbl (ps++more)))
  (ns:∀m,s.heap.Ns X.env.locals m->h'.Ns X.env.locals m) (hok:Dx X.prog X.w H' h') (hg:AllBare g'):
  AY X ad σ H' {s with heap:=h',gens:=g',drawn:=d',toks:=t'}:=by
 have neL:∀b o,X.s₀.heap.get? b=some o->b≠2#3:=λb o e=>dS 11#1
 have neC:∀b o,X.s₀.heap.get? b=some o->b∉X.ex->b∉ch:=λb o e hx hb=>by
  rcases (hch b hb).1 with z|z
  ·exact hx z
  ·exact qG (cy 9#7 z) (dP _)
 have cellK:∀x c,X.env.cells.lookup x=some c->∀v,s.heap.IsCell c v->h'.IsCell c v:=λx c e v ⟨o,ho,hd⟩=>by
  have nch:c∉ch:=λz=>(hch c z).2.2.1 x c e rfl
  by_cases hc:c∈X.fs
  ·obtain⟨sl,q⟩:=slot c o (I.cne x c e) hc nch ho (I.freeC x c e);exact⟨_,q,hd⟩
  ·exact⟨o,keep c o (I.cne x c e) hc nch ho (I.freeC x c e),hd⟩
 refine⟨I.ok,I.os,hg,⟨λb o e n hb hx=>?_,λb o e n hb hx=>?_,λb o e n hx=>?_,λb o e hx=>?_,λb xs e=>tups b xs (I.base.tups b xs e),λb o xs e=>frzs b o xs (I.base.frzs b o xs e),λb ps e=>?_⟩,?_,λx c e=>?_,?_,λx c e=>?_,λp hp=>?_,hok,I.len⟩
 ·exact keep b o (neL b o e) hb (neC b o e hx) 15#8 18#9
 ·obtain⟨sl,e1⟩:=I.base.slot b o e n hb hx;obtain⟨sl',e2⟩:=slot b _ (neL b o e) hb (neC b o e hx) e1 18#9;exact⟨sl',e2⟩
 ·obtain⟨o',e1⟩:=I.base.there b o e hx;exact free b o' (neC b o e hx) e1 18#9
 ·obtain⟨o',e1⟩:=I.base.there b o e hx;exact there b o' (neC b o e hx) e1
 ·obtain⟨m1,e1⟩:=I.base.tbls b ps e;obtain⟨m2,e2⟩:=tbls b _ e1;exact⟨m1++m2,by rw[e2,Array.append_assoc]⟩
 ·obtain⟨m,hn,hl⟩:=I.loc;refine⟨m,ns m hn,λi x v e1 e2 e3=>?_⟩;obtain⟨u,r,l⟩:=hl i x v e1 e2 e3;refine⟨u,r,?_⟩;rcases l with l|⟨k,c,e,z⟩
  ·exact .inl l
  ·exact .inr ⟨k,c,e,cellK x c e _ z⟩
 ·obtain⟨v,z⟩:=I.cell x c e;exact⟨v,cellK x c e v z⟩
 ·obtain⟨m,⟨o,_,_,ho,_⟩,_⟩:=I.loc;exact free _ o (λz=>(hch _ z).2.1 rfl) ho I.free
 ·obtain⟨v,o,ho,hd⟩:=I.cell x c e;exact free c o (λz=>(hch c z).2.2.1 x c e rfl) ho (I.freeC x c e)
 ·obtain⟨e,n,ne,nf,d⟩:=I.pin p hp;have nch:p.1∉ch:=λz=>(hch p.1 z).2.2.2 p hp rfl
  exact⟨keep p.1 p.2 ne nf nch e n,free p.1 p.2 nch e n,ne,nf,d⟩
theorem AY.un(I:AY X ad σ H s)(u:Un X.fs [] H H' s.heap h')(hok:Dx X.prog X.w H' h'):AY X ad σ H' {s with heap:=h',toks:=t'}:=by
 obtain⟨m,⟨o,es,ep,ho,r⟩,_⟩:=id I.loc;obtain⟨sl,hL⟩:=u.any ho I.free (by simp)
 exact I.step (g':=s.gens) (d':=s.drawn) (ch:=[]) (λ_ z=>nomatch z) (λb o _ hb _ e n=>u.keep b o e n hb (by simp)) (λb o _ hb _ e n=>u.slot b o e n hb (by simp)) (λb o _ e n=>u.free b o e n (by simp)) (λb o _ e=>u.there b o e (by simp)) u.tups u.frzs u.tbls (λm' hm=>by obtain⟨o',es',ep',ho',r'⟩:=hm;rw[ho]at ho';cases ho';exact⟨_,es',ep',hL,r'⟩) hok I.bare
theorem AY.call{g':Array GenState}{d':Drawn}(I:AY X ad σ H s)(u:Un 21#5 ch H H' s.heap h')(hok:Dx X.prog X.w H' h')(hg:AllBare g')
  (hch:∀b∈ch,(b∈X.ex\/3#3<=b)/\b≠2#3/\(∀x c,X.env.cells.lookup x=some c->c≠b)/\∀p∈X.pn++ad,p.1≠b):
  AY X ad σ H' {s with heap:=h',gens:=g',drawn:=d',toks:=t'}:=by
 obtain⟨m,⟨o,es,ep,ho,r⟩,_⟩:=id I.loc;obtain⟨sl,hL⟩:=u.any ho I.free λz=>(hch _ z).2.1 rfl
 exact I.step (ch:=ch) hch (λb o hL hb hc e n=>u.keep b o e n (λz=>(dD.mp (I.stkSub b z)).elim hL hb) hc) (λb o _ _ hc e n=>u.any e n hc) (λb o hc e n=>u.free b o e n hc) (λb o hc e=>u.there b o e hc) u.tups u.frzs u.tbls (λm' hm=>by obtain⟨o',es',ep',ho',r'⟩:=hm;rw[ho]at ho';cases ho';exact⟨_,es',ep',hL,r'⟩) hok hg
theorem AY.turned(I:AY X ad σ H s)(k:∀b o,b≠it->s.heap.get? b=some o->h'.get? b=some o)(hn:H it=none)(hL:it≠2#3)
  (h1:it∈X.ex\/3#3<=it) (h2:∀x c,X.env.cells.lookup x=some c->c≠it) (h3:∀p∈X.pn++ad,p.1≠it):AY X ad σ H {s with heap:=h',toks:=t'}:=by
 have nit:∀b u,H b=some u->b≠it:=λb u e z=>by rw[z,hn]at e;cases e
 refine I.step (g':=s.gens) (d':=s.drawn) (ch:=[it]) (λb hb=>?_) (λb o _ _ hc e _=>k b o (λz=>hc (by simp[z])) e) (λb o _ _ hc e _=>⟨o.slots,k b o (λz=>hc (by simp[z])) e⟩) (λ_ _ _ _ n=>n)
  (λb o hc e=>⟨o,k b o (λz=>hc (by simp[z])) e⟩) (λ_ _ e=>e) (λ_ _ _ e=>e) (λb ps e=>⟨#[],by rw[e];simp⟩) (λm hm=>?_) (λb u e=>?_) I.bare
 ·have e:b=it:=by simpa using hb
  subst e;exact⟨h1,hL,h2,h3⟩
 ·obtain⟨o,es,ep,ho,r⟩:=hm;exact⟨o,es,ep,k _ o (Ne.symm hL) ho,r⟩
 ·refine (I.hok b u e).stay (λc v hc q=>k c v ?_ q) (λ_ q=>q) λ_ _ q=>q
  rcases hc with z|z
  ·rw[z];exact nit b u e
  ·exact nit c _ z
theorem AY.tok(I:AY X ad σ H s)(t:Nat):AY X ad σ H {s with toks:=t}:=I.un (h':=20#3) (t':=t) Un.refl I.hok
theorem AY.kept(I:AY X ad σ H s)(k:∀b u,s.heap.get? b=some u->h'.get? b=some u):AY X ad σ H {s with heap:=h',toks:=t'}:=I.un (Un.kept k) (I.hok.kept k)
theorem AY.laid{o:HO}(I:AY X ad σ H s)(k:∀b u,s.heap.get? b=some u->h'.get? b=some u)(hp:0#1<=a)(new:Aq X.prog X.w (AZ H a o) h' a o):
  AY X ad σ (AZ H a o) {s with heap:=h',toks:=t'}:=I.un (Un.laid k hp (I.hok.fresh hp)) (I.hok.laid k hp new)
theorem AY.write{x e:qR}{o:HO}(I:AY X ad σ H s)(mu:Y4 (H x))(he:e=x\/H e=some (.own x))(k:∀b u,b≠e->s.heap.get? b=some u->h'.get? b=some u)(heo:∃u,h'.get? e=some u)
  (new:Aq X.prog X.w (AZ H x o) h' x o):AY X ad σ (AZ H x o) {s with heap:=h',toks:=t'}:=I.un (Un.write mu he k heo) (I.hok.write mu he k heo new)
theorem AY.pins_of{pins':List (qR×Obj)}(I:AY X ad σ H s)(h:∀p∈pins',s.heap.get? p.1=some p.2/\H p.1=none/\p.1≠2#3/\p.1∉X.fs/\∀v,p.2.data≠.cell v):AY X pins' σ H s:=
 ⟨I.ok,I.os,I.bare,I.base,I.loc,I.cell,I.free,I.freeC,λp hp=>(cZ.mp hp).elim (λz=>I.pin p (jC _ z)) (h p),I.hok,I.len⟩
theorem IP{N:List Str}(hN:N.Nodup){x:Str}(a:N[i]?=some x)(b:N[j]?=some x):i=j:=by obtain⟨h1,e1⟩:=cW.mp a;obtain⟨h2,e2⟩:=cW.mp b;exact (gh hN).mp (e1.trans e2.symm)
theorem Jx{M:Model}{A:Around}{E:qQ->qS->Prop}{x:Str}{v:V}{Q:Unit->qS->Prop}(I:AY X ad σ H s)(hN:X.N.Nodup)(hi:X.N[i]?=some x)(hx:Vi X.env.scope x)(r:Az v u)
  (h:∀s',AY X ad (σ.set i 11#0) H s'->(∃a,Heap.SameBut a s.heap 9#9/\(a=2#3\/X.env.cells.lookup x=some a))->Q () s') (hf:X.fn x=true\/X.env.scope.names.lookup x=some .local:=by first|exact .inl rfl|exact .inr rfl|assumption):wpAny M A (storeName X.env x u) Q E s:=by
 obtain⟨m,hn,hl⟩:=id I.loc;have hcls:(14#5==.class||(14#5==.module&&2#3 != X.env.globals))=false:=by rw[I.ok.kind];rfl
 have hiσ:i<σ.length:=by rw[I.len];exact (cW.mp hi).1
 have cne:=I.cne
 have tracked:∀{a:qR} {h':Heap},(∃o,s.heap.get? a=some o/\H a=none)->Heap.SameBut a s.heap h'->Dx X.prog X.w H h':=λ{a h'} ha hs b ob e=>by
  obtain⟨_,_,hfree⟩:=ha;refine (I.hok b ob e).stay (λc w' hc q=>(hs.2 c ?_).trans q) (λ_ q=>q) λ_ _ q=>q
  rintro rfl;rcases hc with rfl|hc
  ·rw[hfree]at e;cases e
  ·rw[hfree]at hc;cases hc
 rcases hx with hk|hk
 ·refine wpAny_storeName_local hk hn (λh' hn' hs=>?_) hcls;rcases id hn with⟨oL,_,_,hoL,_⟩;refine h _ ⟨I.ok,I.os,I.bare,⟨λb o e n hb hx=>?_,λb o e n hb hx=>?_,I.base.free,λb o e hx=>?_,I.base.tups,I.base.frzs,I.base.tbls⟩,⟨_,hn',λj y v' e1 e2 e3=>?_⟩,λy c e=>?_,I.free,I.freeC,λp hp=>?_,tracked ⟨oL,hoL,I.free⟩ hs,by simpa using I.len⟩ ⟨_,hs,.inl rfl⟩
  ·exact (hs.2 b (dS 11#1)).trans 15#8
  ·obtain⟨sl,e1⟩:=I.base.slot b o e n hb hx;exact⟨sl,(hs.2 b (dS 11#1)).trans e1⟩
  ·obtain⟨o',e1⟩:=I.base.there b o e hx;exact⟨o',(hs.2 b (dS 11#1)).trans e1⟩
  ·by_cases hj:j=i
   ·subst hj;rw[hi]at e1;cases e1;rw[iZ hiσ]at e2;cases e2;exact⟨u,r,.inl ⟨hk,by simp⟩⟩
   ·rw[jD (Ne.symm hj)]at e2;obtain⟨u',r',q⟩:=hl j y v' e1 e2 e3;refine⟨u',r',?_⟩;rcases q with⟨k,e⟩|⟨k,c,e,z⟩
    ·refine .inl ⟨k,?_⟩;have:y≠x:=λe=>hj (IP hN e1 (e▸hi))
     simp[this,e]
    ·exact .inr ⟨k,c,e,z.sameBut hs (cne y c e)⟩
  ·obtain⟨w',z⟩:=I.cell y c e;exact⟨w',z.sameBut hs (cne y c e)⟩
  ·rcases I.pin p hp with⟨e,n,ne,nf,d⟩;exact⟨(hs.2 p.1 ne).trans e,n,ne,nf,d⟩
 ·have hfn:X.fn x=true:=by
   rcases hf with z|z
   ·exact z
   ·rw[z]at hk;cases hk
  obtain⟨c,hc⟩:=I.ok.has x (.inl hk);obtain⟨w',z⟩:=I.cell x c hc;refine wpAny_storeName_cell I.ok.kind hk hc z (λh' hc' hs=>?_);obtain⟨oc,hoc,hocd⟩:=id z;refine h {s with heap:=h'} ⟨I.ok,I.os,I.bare,⟨λb o e n hb hx=>?_,λb o e n hb hx=>?_,I.base.free,λb o e hx=>?_,I.base.tups,I.base.frzs,I.base.tbls⟩,⟨m,hn.sameBut hs (Ne.symm (cne x c hc)),λj y v' e1 e2 e3=>?_⟩,λy c' e=>?_,I.free,I.freeC,λp hp=>?_,tracked ⟨oc,hoc,I.freeC x c hc⟩ hs,by simpa using I.len⟩ ⟨c,hs,.inr hc⟩
  ·exact (hs.2 b (dS (cy 9#7 (I.ok.cab x c hfn hc)))).trans 15#8
  ·obtain⟨sl,e1⟩:=I.base.slot b o e n hb hx;exact⟨sl,(hs.2 b (dS (cy 9#7 (I.ok.cab x c hfn hc)))).trans e1⟩
  ·obtain⟨o',e1⟩:=I.base.there b o e hx;exact⟨o',(hs.2 b (dS (cy 9#7 (I.ok.cab x c hfn hc)))).trans e1⟩
  ·by_cases hj:j=i
   ·subst hj;rw[hi]at e1;cases e1;rw[iZ hiσ]at e2;cases e2;exact⟨u,r,.inr ⟨.inl hk,c,hc,hc'⟩⟩
   ·rw[jD (Ne.symm hj)]at e2;obtain⟨u',r',q⟩:=hl j y v' e1 e2 e3;refine⟨u',r',?_⟩;rcases q with q|⟨k,c',e,z'⟩
    ·exact .inl q
    ·refine .inr ⟨k,c',e,z'.sameBut hs ?_⟩;rintro rfl;exact hj (IP hN e1 (I.ok.inj _ _ _ e hc▸hi))
  ·by_cases hcc:c'=c
   ·subst hcc;exact⟨_,hc'⟩
   ·obtain⟨w2,z2⟩:=I.cell y c' e;exact⟨w2,z2.sameBut hs hcc⟩
  ·rcases I.pin p hp with⟨e,n,ne,nf,d⟩;refine⟨(hs.2 p.1 ?_).trans e,n,ne,nf,d⟩;intro q;rw[q,hoc]at e;have q':oc=p.2:=Option.some.inj e;exact d w' (by rw[<-q'];exact hocd)
theorem IQ{M:Model}{A:Around}{E:qQ->qS->Prop}{x:Str}{v:V}{Q:Unit->qS->Prop}(I:AY X ad σ H s)(hN:X.N.Nodup)(hi:X.N[i]?=some x)(hx:Vi X.env.scope x)(r:Az v u)
  (h:∀s',AY X ad (σ.set i 11#0) H s'->Q () s') (hf:X.fn x=true\/X.env.scope.names.lookup x=some .local:=by first|exact .inl rfl|exact .inr rfl|assumption):wpAny M A (storeName X.env x u) Q E s:=
 Jx I hN hi hx r (λs' I' _=>h s' I') hf
theorem AY.call'(I:AY X ad σ H s)(ho:s'.os=s.os)(u:Un 21#5 ch H H' s.heap 9#9)(hok:Dx X.prog X.w H' 9#9)(hg:AllBare s'.gens)
  (hch:∀b∈ch,(b∈X.ex\/3#3<=b)/\b≠2#3/\(∀x c,X.env.cells.lookup x=some c->c≠b)/\∀p∈X.pn++ad,p.1≠b):AY X ad σ H' s':=by
 obtain⟨h',g',d',t',o'⟩:=s';have e:o'=s.os:=ho;subst e;exact I.call (g':=g') (t':=t') (d':=d') u hok hg hch
end
abbrev XK:=qQ->Option qR->Hp->Prop
abbrev St:=List (Option V)
abbrev VK:=V->Hp->Prop
abbrev TE:=St->Hp->VK->Prop
abbrev TT:=St->Hp->(Bool->Hp->Prop)->Prop
abbrev TA:=St->Hp->(List V->Hp->Prop)->Prop
structure Ho where
 nx:St->Hp->Prop
 rt:VK
 bk:St->Hp->Prop:=λ_ _=>False
 ct:St->Hp->Prop:=λ_ _=>False
abbrev TS:=Ho->St->Hp->Prop
def EP(X:Cx)(ad:List (qR×Obj))(σ:St)(Q:VK)(u:qQ)(s':qS):Prop:=∃v H',AY X ad σ H' s'/\Az v u/\Q v H'
def TP(X:Cx)(ad:List (qR×Obj))(σ:St)(Q:Bool->Hp->Prop)(b:Bool)(s':qS):Prop:=∃H',AY X ad σ H' s'/\Q b H'
def AP(X:Cx)(ad:List (qR×Obj))(σ:St)(Q:List V->Hp->Prop)(us:List qQ)(s':qS):Prop:=∃vs H',AY X ad σ H' s'/\Av vs us/\Q vs H'
def SP(X:Cx)(ad:List (qR×Obj))(D:Ho)(f:Flow)(s':qS):Prop:=
 match f with
 |.next=>∃σ' H',AY X ad σ' H' s'/\D.nx σ' H'
 |.brk=>∃σ' H',AY X ad σ' H' s'/\D.bk σ' H'
 |.cont=>∃σ' H',AY X ad σ' H' s'/\D.ct σ' H'
 |.ret u=>∃v σ' H',AY X ad σ' H' s'/\Az v u/\D.rt v H'
def PE(X:Cx)(e:Expr)(t:TE):Prop:=
 ∀(ad:List (qR×Obj)) (s:qS) (σ:St) (H:Hp) (Q:VK),AY X ad σ H s->t σ H Q->wpAny 0#4 X.A (eval e 1#2) 5#9 X.xe s
def PT(X:Cx)(e:Expr)(t:TT):Prop:=
 ∀(ad:List (qR×Obj)) (s:qS) (σ:St) (H:Hp) (Q:Bool->Hp->Prop),AY X ad σ H s->t σ H Q->wpAny 0#4 X.A (isTrue e X.env (eval e 1#2)) (TP X ad σ Q) X.xe s
def PW(X:Cx)(e:Expr)(t:TT):Prop:=
 ∀(whole:Sem qQ) (ad:List (qR×Obj)) (s:qS) (σ:St) (H:Hp) (Q:Bool->Hp->Prop),AY X ad σ H s->t σ H Q->wpAny 0#4 X.A (isTrue e X.env whole) (TP X ad σ Q) X.xe s
theorem PW.pt{X:Cx}{e:Expr}{t:TT}(h:PW X e t):PT X e t:=h _
def PA(X:Cx)(es:List Expr)(t:TA):Prop:=
 ∀(pos:Pos) (ad:List (qR×Obj)) (s:qS) (σ:St) (H:Hp) (Q:List V->Hp->Prop),AY X ad σ H s->t σ H Q->wpAny 0#4 X.A (spliced (backTo pos 4#2)) (AP X ad σ Q) X.xe s
def PS(X:Cx)(st:Stmt)(t:TS):Prop:=
 ∀(ad:List (qR×Obj)) (s:qS) (σ:St) (H:Hp) (D:Ho),AY X ad σ H s->t D σ H->wpAny 0#4 X.A (exec st 1#2) (SP X ad D) X.xe s
def HE(X:Cx)(st:List Stmt)(t:TS):Prop:=
 ∀(ad:List (qR×Obj)) (s:qS) (σ:St) (H:Hp) (D:Ho),AY X ad σ H s->t D σ H->wpAny 0#4 X.A (execs st 1#2) (SP X ad D) X.xe s
variable{E:qQ->qS->Prop}{s:qS}
theorem BM{t:Sem α}{Q Q':α->qS->Prop}{M:Model}{A:Around}(h:wpAny M A t Q E s)(hQ:∀a s,Q a s->Q' a s):wpAny M A t Q' E s:=qM h hQ λ_ _ x=>x
variable{Q:qQ->qS->Prop}{ad:List (qR×Obj)}{σ:St}{op:CmpOp}
section
variable{X:Cx}
def Wl(i:Nat):TE:=λσ H Q=>∃v,σ[i]?=some 11#0/\Q v H
def tC(v:V):TE:=λ_ H Q=>Q v H
theorem Wm{x:Str}{pos:Pos}(hN:X.N[i]?=some x)(hv:ak X.env.scope x)(hd:(x==("__debug__":Str))=false:=by decide)(hcd:(x==("__classdict__":Str))=false:=by decide):PE X 7#8 (Wl i):=by
 intro ad s σ H Q I h;obtain⟨v,e,h⟩:=h;obtain⟨m,hn,hl⟩:=I.loc;obtain⟨u,r,l⟩:=hl i x v hN e hv;have fin:EP X ad σ Q u s:=⟨v,H,I,r,h⟩;rcases l with⟨hk,hm⟩|⟨hk,c,hc,hcell⟩
 ·exact wpAny_Name 18#3 hd
 ·rcases hk with hk|hk
  ·exact wpAny_Name 17#0 hd
  ·exact wpAny_Name 15#7 hd
theorem AE{i j pos}:PE X (.Constant 8#3 j pos) (tC 8#3):=λ_ _ _ H _ I h=>wpAny_Constant_int ⟨.int i,H,I.tok _,⟨_,rfl⟩,h⟩
theorem Jy{b j pos}:PE X (.Constant (.bool b) j pos) (tC (.bl b)):=λ_ _ _ H _ I h=>Constant_bool ⟨.bl b,H,I,rfl,h⟩
theorem Cg{j pos}:PE X (.Constant .none j pos) (tC .non):=λ_ _ _ H _ I h=>Constant_none ⟨.non,H,I,rfl,h⟩
theorem Fq{x j pos}:PE X (.Constant (.str x) j pos) (tC (.str x)):=λ_ _ _ H _ I h=>Calls.Constant_str ⟨.str x,H,I.tok _,⟨_,rfl⟩,h⟩
def Gl(X:Cx)(x:Str):Prop:=X.env.kindOf x=some .globalImplicit
theorem GD{E:qQ->qS->Prop}{x:Str}{pos:Pos}(I:AY X ad σ H s)(hg:Gl X x)(hm:X.mg x=some u)(h:Q u s)
  (hd:(x==("__debug__":Str))=false:=by decide):wpAny 0#4 X.A (eval 7#8 1#2) Q E s:=
 Calls.Name_function_global I.ok.kind hg (Calls.loadGlobal_global (by rw[I.ok.glob];exact I.mod.glob.keeps I.bk) hm h) hd
theorem Cq{E:qQ->qS->Prop}{x:Str}{pos:Pos}(I:AY X ad σ H s)(hg:Gl X x)(hm:X.mg x=none)(hv:bootBuiltins x=some u)(h:Q u s)
  (hn:x≠"__name__":=by decide) (hd:(x==("__debug__":Str))=false:=by decide):wpAny 0#4 X.A (eval 7#8 1#2) Q E s:=by
 obtain⟨mb,h1,h2⟩:=I.mod.blt;exact Calls.Name_function_global I.ok.kind hg (Calls.loadGlobal_builtin (by rw[I.ok.glob];exact I.mod.glob.keeps I.bk) hm (by rw[I.ok.blt];exact h1.keeps I.bk) ((h2 x hn).trans hv) h) hd
theorem OX{x:Str}{v:V}{pos:Pos}(hg:Gl X x)(hm:X.mg x=some u)(r:Az v u)(hd:(x==("__debug__":Str))=false:=by decide):PE X 7#8 (tC v):=
 λ_ _ _ H _ I h=>GD I hg hm ⟨v,H,I,r,h⟩ hd
theorem UW{x:Str}{v:V}{pos:Pos}(hg:Gl X x)(hm:X.mg x=none)(hv:bootBuiltins x=some u)(r:Az v u)(hn:x≠"__name__":=by decide)(hd:(x==("__debug__":Str))=false:=by decide):PE X 7#8 (tC v):=
 λ_ _ _ H _ I h=>Cq I hg hm hv ⟨v,H,I,r,h⟩ hn hd
variable{a b:Expr}{ta tb:TE}{pos:Pos}
def PC(X:Cx)(op:CmpOp)(a b:Expr)(t:TE):Prop:=
 ∀(ad:List (qR×Obj)) (s:qS) (σ:St) (H:Hp) (Q:VK),AY X ad σ H s->t σ H Q ->
  wpAny 0#4 X.A (eval a 1#2) (λv s₁=>wpAny 0#4 X.A (eval b 1#2) (λu s₂=>wpAny 0#4 X.A (compareOp op v u) 5#9 X.xe s₂) X.xe s₁) X.xe s
def tB(t:TE):TT:=λσ H Q=>t σ H λx H1=>∃c,x=.bl c/\Q c H1
theorem Wn{t:TE}(h:PC X op a b t)(h1:behindInMarks op b=false:=by first|exact nobehind _ (by decide) (by decide)|rfl):PE X (.Compare a [op] [b] pos) t:=λad s σ H Q I hw=>wpAny_Compare1 (h ad s σ H Q I hw) h1
theorem NJ{t:TE}(h:PC X op a b t)(h1:behindInMarks op b=false:=by first|exact nobehind _ (by decide) (by decide)|rfl):PT X (.Compare a [op] [b] pos) (tB t):=by intro ad s σ H Q I hw;refine wpAny_isTrue_Compare1 (BM (h ad s σ H _ I hw) λv s1 h1=>BM h1 λu s2 h2=>BM h2 λc s3 z9=>?_) h1;obtain⟨x,H1,I1,r1,q1⟩:=z9;obtain⟨d,rfl,q⟩:=q1;cases r1;exact wpAny_truthy_bool ⟨H1,I1,q⟩
theorem DT{e:Expr}{t:TE}(h:PE X e t)(he:∀whole,isTrue e X.env whole=(do let v <-whole;standAt e.pos;holding [v] (truthy v)):=by intro _;rfl):PT X e (tB t):=by intro ad s σ H Q I hw;refine isTrue_plain (BM (h ad s σ H _ I hw) λv s1 z9=>?_) (he _);obtain⟨x,H1,I1,r1,q1⟩:=z9;obtain⟨d,rfl,q⟩:=q1;cases r1;exact wpAny_truthy_bool ⟨H1,I1,q⟩
variable{tA tB':TT}{rest:List Expr}
def Y6(t u:TT):TT:=λσ H Q=>t σ H λc H1=>if c=true then u σ H1 Q else Q false H1
def cI(t u:TT):TT:=λσ H Q=>t σ H λc H1=>if c=true then Q true H1 else u σ H1 Q
def Y7(t:TT):TT:=λσ H Q=>t σ H λc H1=>Q (!c) H1
theorem DH(ha:PT X a tA):PW X (.BoolOp .And [a] pos) tA:=by
 intro wh ad s σ H Q I h;refine isTrue_and (BM (ha ad s σ H Q I h) λc s1 e=>?_);cases c with
 |true=>exact isTrue_and_nil e
 |false=>exact e
theorem Fs(ha:PT X a tA):PW X (.BoolOp .Or [a] pos) tA:=by
 intro wh ad s σ H Q I h;refine isTrue_or (BM (ha ad s σ H Q I h) λc s1 e=>?_);cases c with
 |false=>exact isTrue_or_nil e
 |true=>exact e
theorem Dt(ha:PT X a tA)(hb:PW X (.BoolOp .And (b::rest) pos) tB'):PW X (.BoolOp .And (a::b::rest) pos) (Y6 tA tB'):=by
 intro wh ad s σ H Q I h;refine isTrue_and (BM (ha ad s σ H _ I h) λc s1 z9=>?_);obtain⟨H1,I1,q1⟩:=z9;cases c with
 |true=>exact hb wh ad s1 σ H1 Q I1 q1
 |false=>exact⟨H1,I1,q1⟩
theorem HI(ha:PT X a tA)(hb:PW X (.BoolOp .Or (b::rest) pos) tB'):PW X (.BoolOp .Or (a::b::rest) pos) (cI tA tB'):=by
 intro wh ad s σ H Q I h;refine isTrue_or (BM (ha ad s σ H _ I h) λc s1 z9=>?_);obtain⟨H1,I1,q1⟩:=z9;cases c with
 |true=>exact⟨H1,I1,q1⟩
 |false=>exact hb wh ad s1 σ H1 Q I1 q1
theorem En(ha:PT X a tA):PT X (.UnaryOp .Not a pos) (Y7 tA):=by intro ad s σ H Q I h;exact isTrue_not (ha ad s σ H (λc H1=>Q (!c) H1) I h)
def Vj(ta tb:TE):TE:=λσ H Q=>ta σ H λx H1=>∃c,x=.bl c/\if c=true then tb σ H1 Q else Q (.bl false) H1
def Vk(ta:TE):TE:=λσ H Q=>ta σ H λx H1=>∃c,x=.bl c/\Q (.bl (!c)) H1
theorem Eo{op}{t:TE}(h:PE X a t):PE X (.BoolOp op [a] pos) t:=λad s σ H Q I hw=>BoolOp_one (h ad s σ H Q I hw)
theorem EK(ha:PE X a ta)(hb:PE X (.BoolOp .And (b::rest) pos) tb):PE X (.BoolOp .And (a::b::rest) pos) (Vj ta tb):=by
 intro ad s σ H Q I h;refine BoolOp_and (BM (ha ad s σ H _ I h) λv s1 z9=>?_);obtain⟨x,H1,I1,r1,q1⟩:=z9;obtain⟨c,rfl,q1⟩:=q1;cases r1;refine wpAny_truthy_bool ?_;cases c with
 |true=>exact hb ad s1 σ H1 Q I1 q1
 |false=>exact⟨.bl false,H1,I1,rfl,q1⟩
theorem NK(ha:PE X a ta):PE X (.UnaryOp .Not a pos) (Vk ta):=by intro ad s σ H Q I h;refine UnaryOp_ (BM (ha ad s σ H _ I h) λv s1 z9=>?_);obtain⟨x,H1,I1,r1,q1⟩:=z9;obtain⟨c,rfl,q1⟩:=q1;cases r1;exact not_of (wpAny_truthy_bool ⟨.bl (!c),H1,I1,rfl,q1⟩)
end
def Aa(K:qV)(H:Hp)(a:qR)(xs:List V):Prop:=
 Rd H a 3#6 \/
  ∃(o:Obj) (its:Array qQ) (n:Nat),K.lookup a=some o/\o.cls=.type "list"/\o.dict=none/\9#1=.seq its n/\its.size<=sizeLine/\Av xs its.toList
def Ai(K:qV)(H:Hp)(a:qR)(xs:List V):Prop:=
 Rd H a 9#0 \/
  ∃(o:Obj) (its:Array qQ) (n:Nat),K.lookup a=some o/\o.cls=.type "tuple"/\9#1=.seq its n/\its.size<=sizeLine/\Av xs its.toList
noncomputable def Wo:qQ->Option V
 |.none=>some .non
 |.bool b=>some (.bl b)
 |.int i _=>some 8#3
 |.str x _=>some (.str x)
 |.bytes b _=>some (.byt b)
 |.float b _=>some (.flt b)
 |.ref a=>some 2#6
 |.type n=>some (.ty n)
 |_=>none
theorem Az.abs{x:V}(r:Az x u):Wo u=some x:=by
 cases x with
 |non=>cases r;rfl
 |bl _=>cases r;rfl
 |int _=>obtain⟨t,rfl⟩:=r;rfl
 |str _=>obtain⟨t,rfl⟩:=r;rfl
 |byt _=>obtain⟨t,rfl⟩:=r;rfl
 |flt _=>obtain⟨t,rfl⟩:=r;rfl
 |ref _=>cases r;rfl
 |ty _=>cases r;rfl
theorem Az.inj{x y:V}(r:Az x u)(q:Az y u):x=y:=Option.some.inj (r.abs.symm.trans q.abs)
theorem Av.inj:∀{xs ys:List V} {us:List qQ},Av xs us->Av ys us->xs=ys:=by
 intro _ ys _ h
 induction h generalizing ys with
 |nil=>intro g;cases g;rfl
 |cons r _ ih =>
  intro g;cases g with
  |cons r' t'=>rw[r.inj r',ih t']
section
variable{X:Cx}{ys:List V}
theorem Aa.of{K:qV}(h:H a=some 3#6):Aa K H a xs:=.inl (.inl h)
theorem Ai.of{K:qV}(h:H a=some 9#0):Ai K H a xs:=.inl (.inl h)
theorem AY.list(I:AY X ad σ H s)(h:Aa X.K H a xs):∃its:List qQ,Av xs its/\PlainL s.heap a 5#5/\0#7<=sizeLine:=by
 rcases h with h|⟨o,its,n,hk,hc,hd,hs,hz,r⟩
 ·obtain⟨z,its,n,r,e⟩:=h.ok I.hok;exact⟨its,r,⟨_,n,e,rfl,rfl,rfl⟩,z⟩
 ·refine⟨its.toList,r,⟨o,n,I.kIn a o hk,hc,hd,by simpa using hs⟩,?_⟩;have e:=7#5;simp only[Array.length_toList]at e;lia
theorem AY.tuple(I:AY X ad σ H s)(h:Ai X.K H a xs):∃its:List qQ,Av xs its/\IsTup s.heap a 5#5/\0#7<=sizeLine:=by
 rcases h with h|⟨o,its,n,hk,hc,hs,hz,r⟩
 ·obtain⟨z,its,r,p⟩:=h.ok I.hok;exact⟨its,r,p,z⟩
 ·refine⟨its.toList,r,⟨o,I.kIn a o hk,hc,n,by simpa using hs⟩,?_⟩;have e:=7#5;simp only[Array.length_toList]at e;lia
theorem AY.list_inj(I:AY X ad σ H s)(h:Aa X.K H a xs)(h':Aa X.K H a ys):xs=ys:=by
 obtain⟨its,r,⟨o,n,e,_,_,d⟩,_⟩:=I.list h;obtain⟨its',r',⟨o',n',e',_,_,d'⟩,_⟩:=I.list h';rw[e]at e';cases e';rw[d]at d'
 injection d' with d1 _
 have:its=its':=by simpa using qP Array.toList d1
 subst this;exact r.inj r'
theorem AY.tuple_inj(I:AY X ad σ H s)(h:Ai X.K H a xs)(h':Ai X.K H a ys):xs=ys:=by
 obtain⟨its,r,⟨o,e,_,n,d⟩,_⟩:=I.tuple h;obtain⟨its',r',⟨o',e',_,n',d'⟩,_⟩:=I.tuple h';rw[e]at e';cases e';rw[d]at d'
 injection d' with d1 _
 have:its=its':=by simpa using qP Array.toList d1
 subst this;exact r.inj r'
end
abbrev Cx.wish(X:Cx)(E:qQ->qS->Prop):Cx:={X with xe:=E}
abbrev Cx.nox(X:Cx):Cx:=X.wish λ_ _=>False
theorem Cx.Ok.wish{X:Cx}(ok:X.Ok)(E:qQ->qS->Prop):(X.wish E).Ok:=
 ⟨ok.mod,ok.kind,ok.glob,ok.blt,ok.above,ok.inj,ok.has,ok.cab,ok.hd,ok.frames,ok.stk,ok.exf,ok.bs,ok.bsz,ok.noex,ok.exfs,ok.funs,ok.frf⟩
theorem Cx.Ok.unwish{X:Cx}(ok:(X.wish E).Ok):X.Ok:=
 ⟨ok.mod,ok.kind,ok.glob,ok.blt,ok.above,ok.inj,ok.has,ok.cab,ok.hd,ok.frames,ok.stk,ok.exf,ok.bs,ok.bsz,ok.noex,ok.exfs,ok.funs,ok.frf⟩
variable{D:Ho}
section
variable{X:Cx}
theorem AY.wish(I:AY X ad σ H s)(E:qQ->qS->Prop):AY (X.wish E) ad σ H s:=⟨I.ok.wish E,I.os,I.bare,I.base,I.loc,I.cell,I.free,I.freeC,I.pin,I.hok,I.len⟩
theorem AY.unwish(I:AY (X.wish E) ad σ H s):AY X ad σ H s:=⟨I.ok.unwish,I.os,I.bare,I.base,I.loc,I.cell,I.free,I.freeC,I.pin,I.hok,I.len⟩
theorem SP.unwish{f:Flow}(h:SP (X.wish E) ad D f s'):SP X ad D f s':=by
 cases f with
 |next=>obtain⟨σ',H',I,q⟩:=h;exact⟨σ',H',I.unwish,q⟩
 |brk=>obtain⟨σ',H',I,q⟩:=h;exact⟨σ',H',I.unwish,q⟩
 |cont=>obtain⟨σ',H',I,q⟩:=h;exact⟨σ',H',I.unwish,q⟩
 |ret u=>obtain⟨v,σ',H',I,r,q⟩:=h;exact⟨v,σ',H',I.unwish,r,q⟩
theorem HE.nox{st:List Stmt}{t:TS}(h:HE X.nox st t):HE X st t:=λad s σ H D I hw =>
 qM (h ad s σ H D (I.wish _) hw) (λ_ _ q=>q.unwish) λ_ _ z=>False.elim z
end
variable{tc:TT}
section
variable{X:Cx}{st:Stmt}{rest:List Stmt}{t u:TS}{e:Expr}{te:TE}{pos:Pos}
def RM:TS:=λD σ H=>D.nx σ H
def QF(t u:TS):TS:=λD σ H=>t {D with nx:=u D} σ H
theorem Af:HE X [] RM:=λ_ _ σ H _ I h=>wpAny_execs_nil ⟨σ,H,I,h⟩
theorem AD(h1:PS X st t)(h2:HE X rest u):HE X (st::rest) (QF t u):=by
 intro ad s σ H D I h;refine wpAny_execs_cons (BM (h1 ad s σ H {D with nx:=u D} I h) λf s1 q=>?_);cases f with
 |next =>
  rcases q with⟨σ',H',I',q⟩;exact h2 ad s1 σ' H' D I' q
 |ret v=>exact q
 |brk=>exact q
 |cont=>exact q
theorem AF(h1:PS X st t):HE X [st] t:=by
 intro ad s σ H D I h;refine wpAny_execs_cons (BM (h1 ad s σ H D I h) λf s1 q=>?_);cases f with
 |next=>exact wpAny_execs_nil q
 |ret v=>exact q
 |brk=>exact q
 |cont=>exact q
theorem AY.quiet(I:AY X ad σ H s):interactive 1#2=false:=by simp[interactive,I.ok.kind]
def Vl(te:TE):TS:=λD σ H=>te σ H λ_ H1=>D.nx σ H1
theorem Ax(he:PE X e te)(hs:swapsWith e none pos.line 1#2=pure false:=by rfl):PS X (.Expr e pos) (Vl te):=by intro ad s σ H D I h;exact wpAny_Expr_any (BM (he ad s σ H _ I h) λv s1 ⟨x,H1,I1,r1,q1⟩=>⟨σ,H1,I1,q1⟩) I.quiet hs
def Y8(te:TE):TS:=λD σ H=>te σ H D.rt
theorem AO(he:PE X e te):PS X (.Return (some e) pos) (Y8 te):=by intro ad s σ H D I h;exact wpAny_Return_some (BM (he ad s σ H _ I h) λv s1 ⟨x,H1,I1,r1,q1⟩=>⟨x,σ,H1,I1,r1,q1⟩)
def RN(c:TT)(t u:TS):TS:=λD σ H=>c σ H λb H1=>if b=true then t D σ H1 else u D σ H1
theorem BK{c:Expr}{a b:List Stmt}(hc:PT X c tc)(ha:HE X a t)(hb:HE X b u):PS X (.If c a b pos) (RN tc t u):=by
 intro ad s σ H D I h;refine wpAny_If (BM (hc ad s σ H _ I h) λd s1 z9=>?_);obtain⟨H1,I1,q1⟩:=z9;cases d with
 |true=>exact ha ad s1 σ H1 D I1 q1
 |false=>exact hb ad s1 σ H1 D I1 q1
end
abbrev TG:=V->St->Hp->(St->Hp->Prop)->Prop
abbrev Wp:=List V->St->Hp->(St->Hp->Prop)->Prop
def PG(X:Cx)(target:Expr)(t:TG):Prop:=
 ∀(ad:List (qR×Obj)) (s:qS) (σ:St) (H:Hp) (v:V) (u:qQ) (Q:St->Hp->Prop),AY X ad σ H s->Az v u->t v σ H Q ->
  wpAny 0#4 X.A (assign target X.env u) (λ_ s'=>∃σ' H',AY X ad σ' H' s'/\Q σ' H') X.xe s
def am(X:Cx)(ts:List Expr)(t:Wp):Prop:=
 ∀(ad:List (qR×Obj)) (s:qS) (σ:St) (H:Hp) (vs:List V) (us:List qQ) (Q:St->Hp->Prop),AY X ad σ H s->Av vs us->t vs σ H Q ->
  wpAny 0#4 X.A (assignInOrder ((assignEach ts 1#2).map (·.2)) us) (λ_ s'=>∃σ' H',AY X ad σ' H' s'/\Q σ' H') X.xe s
abbrev Wq:=V->V->V->Hp->(Hp->Prop)->Prop
def Y9(X:Cx)(t:Wq):Prop:=
 ∀(ad:List (qR×Obj)) (s:qS) (σ:St) (H:Hp) (o i v:V) (ov iv u:qQ) (Q:Hp->Prop),AY X ad σ H s->Az o ov->Az i iv->Az v u->t o i v H Q ->
  wpAny 0#4 X.A (setItem ov iv u) (λ_ s'=>∃H',AY X ad σ H' s'/\Q H') X.xe s
variable{es:List Expr}{to te:TE}{tg:Expr}
section
variable{X:Cx}{pos:Pos}
def Fg(i:Nat):TG:=λv σ H Q=>Q (σ.set i 11#0) H
theorem Hu{x:Str}(hN:X.N.Nodup)(hi:X.N[i]?=some x)(hx:Vi X.env.scope x)(hf:X.fn x=true\/X.env.scope.names.lookup x=some .local:=by first|exact .inl rfl|exact .inr rfl|assumption):PG X (.Name x pos) (Fg i):=by intro ad s σ H v u Q I r h;exact wpAny_assign_Name (IQ I hN hi hx r (λs' I'=>⟨_,H,I',h⟩) hf)
def a9:Wp:=λvs σ H Q=>vs=[]/\Q σ H
def ZA(t:TG)(u:Wp):Wp:=λvs σ H Q=>∃v r,vs=v::r/\t v σ H λσ' H'=>u r σ' H' Q
theorem Dl:am X [] a9:=by intro ad s σ H vs us Q I r h;obtain⟨e,h⟩:=h;subst e;cases r;exact assignInOrder_nil ⟨σ,H,I,h⟩
theorem BV{e:Expr}{t:TG}{u:Wp}(h1:PG X e t)(h2:am X es u)
  (hs:(assignEach (e::es) 1#2).map (·.2)=assign e 1#2::(assignEach es 1#2).map (·.2):=by rfl):am X (e::es) (ZA t u):=by
 intro ad s σ H vs us Q I r h;obtain⟨v,vr,e1,h⟩:=h;subst e1;cases r with
 |cons r rr =>
  rw[hs];refine assignInOrder_cons (BM (h1 ad s σ H _ _ _ I r h) λ_ s1 z9=>?_);obtain⟨σ1,H1,I1,q1⟩:=z9;exact h2 ad s1 σ1 H1 _ _ Q I1 rr q1
def bA(K:qV)(n:Nat)(t:Wp):TG:=λv σ H Q=>∃a xs,v=.ref a/\Ai K H a xs/\0#7=n/\t xs σ H Q
theorem Ep{k:Nat}{t:Wp}{n:Nat}(hc:19#9=true)(h:am X es t)
  (hn:(assignEach es 1#2).length=n:=by rfl) (hst:(assignEach es 1#2).findIdx? (·.1)=none:=by rfl):PG X (.Tuple es k pos) (bA X.K n t):=by
 intro ad s σ H v u Q I r hw;rcases hw with⟨a,xs,e1,hq,hl,hw⟩;subst e1;cases r;rcases I.tuple hq with⟨its,rv,ht,hz⟩;refine assign_Tuple_tuple 6#3 ht (by simp[hn,<-hl,rv.length]) hst λh' hx=>?_;have I1:AY X ad σ H {s with heap:=h'}:=I.kept (t':=5#2) λb o e=>hx b o (dS 9#7) e
 exact h ad _ σ H xs _ Q I1 (by simpa using rv) hw
def bB(to ti:TE)(t:Wq):TG:=λv σ H Q=>to σ H λo H1=>ti σ H1 λi H2=>t o i v H2 λH3=>Q σ H3
theorem RO{o i:Expr}{ti:TE}{t:Wq}(ho:PE X o to)(hi:PE X i ti)(hs:Y9 X t)
  (ha:∀v,assign 10#7 X.env v=(do
   let ov <-holding [v] 14#8
   let iv <-holding [v,ov] (eval i 1#2)
   standAt pos
   holding [v,ov,iv] (setItem ov iv v)
   release [v,ov,iv] []):=by intro _;rfl):PG X 10#7 (bB to ti t):=by
 intro ad s σ H v u Q I r h;rw[ha];refine qC (qO (BM (ho ad s σ H _ I h) λov s1 z9=>?_));obtain⟨x,H1,I1,r1,q1⟩:=z9;refine qC (qO (BM (hi ad s1 σ H1 _ I1 q1) λiv s2 z9=>?_));obtain⟨y,H2,I2,r2,q2⟩:=z9;refine qC (wpAny_standAt (qC (qO (BM (hs ad s2 σ H2 x y v ov iv u _ I2 r1 r2 r q2) λ_ s3 z9=>?_))));obtain⟨H3,I3,q3⟩:=z9;exact wpAny_release ⟨σ,H3,I3,q3⟩
def QG(te:TE)(g:TG):TS:=λD σ H=>te σ H λx H1=>g x σ H1 D.nx
theorem Wr{e:Expr}{g:TG}(he:PE X e te)(hg:PG X tg g)(hs:swapsWithSole [tg] e pos.line 1#2=pure false:=by rfl)(hw:swappedStores [tg] e 1#2=pure none:=by rfl)
  (h1:(assignEach [tg] 1#2).map (·.2)=[assign tg 1#2]:=by rfl):PS X (.Assign [tg] e pos) (QG te g):=by
 intro ad s σ H D I h;refine wpAny_Assign_stores (BM (he ad s σ H _ I h) λv s1 z9=>?_) hs hw;obtain⟨x,H1,I1,r1,q1⟩:=z9;rw[h1];exact BM (hg ad s1 σ H1 x v _ I1 r1 q1) λ_ s2 q=>q
theorem IR{x:Str}{e:Expr}{pos':Pos}(hN:X.N.Nodup)(hi:X.N[i]?=some x)(hx:Vi X.env.scope x)(he:PE X e te)(hs:swapsWith e (some (.Name x pos')) pos.line 1#2=pure false:=by rfl)(hf:X.fn x=true\/X.env.scope.names.lookup x=some .local:=by first|exact .inl rfl|exact .inr rfl|assumption):
  PS X (.Assign [.Name x pos'] e pos) (QG te (Fg i)):=by
 intro ad s σ H D I h;refine wpAny_Assign_Name (BM (he ad s σ H _ I h) λv s1 z9=>?_) hs;obtain⟨y,H1,I1,r1,q1⟩:=z9;exact IQ I1 hN hi hx r1 (λs2 I2=>⟨_,H1,I2,q1⟩) hf
end
variable{body:List Stmt}
section
variable{X:Cx}{pos:Pos}
def RP(c:TT)(tb:TS):TS:=λD σ H=>∃W:Nat->St->Hp->Prop,(∃m,W m σ H)/\∀m σ H,W m σ H ->
 c σ H λb H1=>if b=true then ∃N:St->Hp->Prop,(∀σ' H',N σ' H'->∃m',m'<m/\W m' σ' H')/\tb {D with nx:=N,ct:=N,bk:=D.nx} σ H1 else D.nx σ H1
theorem C4{c:Expr}{tb:TS}(hp:PassesOwn 0#4 X.A X.env X.xe)(hc:PT X c tc)(hb:HE X body tb):PS X (.While c body [] pos) (RP tc tb):=by
 intro ad s σ H D I h;rcases h with⟨W,⟨m0,w0⟩,turn⟩;refine wpAny_While (codeAny_whileLoop (λn s'=>∃σ' H',AY X ad σ' H' s'/\W n σ' H') ?_ m0 ⟨σ,H,I,w0⟩);intro n s1 hRq;rcases hRq with⟨σ1,H1,I1,w1⟩;refine wpAny_passesOwn hp (BM (hc ad s1 σ1 H1 _ I1 (turn n σ1 H1 w1)) λb s2 z9=>?_);obtain⟨H2,I2,q2⟩:=z9;cases b with
 |true =>
  obtain⟨N,hN,q2⟩:=q2;rw[qF rfl];refine wpAny_passesOwn hp (BM (hb ad s2 σ1 H2 _ I2 q2) λf s3 q3=>?_);cases f with
  |next =>
   rcases q3 with⟨σ3,H3,I3,n3⟩;obtain⟨m',hm,w3⟩:=hN σ3 H3 n3;exact⟨m',hm,σ3,H3,I3,w3⟩
  |cont =>
   rcases q3 with⟨σ3,H3,I3,n3⟩;obtain⟨m',hm,w3⟩:=hN σ3 H3 n3;exact⟨m',hm,σ3,H3,I3,w3⟩
  |brk=>exact q3
  |ret v=>exact q3
 |false =>
  rw[qE c7];exact wpAny_execs_nil ⟨σ1,H2,I2,q2⟩
end
structure It where
 go:Nat->Hp->Prop
 yld:Nat->Hp->V->Hp->Prop
 stop:Nat->Hp->Prop
def Ft(X:Cx)(ad:List (qR×Obj))(H:Hp)(b:qR):Prop:=
 H b=none/\b≠2#3/\b∉X.fs/\(b∈X.ex\/3#3<=b)/\(∀x c,X.env.cells.lookup x=some c->c≠b)/\∀p∈X.pn++ad,p.1≠b
variable{H':Hp}
theorem AY.fpOk{X:Cx}{b:qR}(I:AY X ad σ H s)(hb:0#1<=b)(hn:H' b=none):Ft X ad H' b:=by
 refine⟨hn,hV (cy I.lt hb),I.nofs hb,.inr (dM I.sz hb),λx c e z=>?_,λp hp z=>?_⟩
 ·obtain⟨v,q⟩:=I.cell x c e;exact qG (cy q.lt (by rw[z];exact hb)) (dP _)
 ·exact qG (cy (cr (I.pin p hp).1) (by rw[z];exact hb)) (dP _)
structure Jh(P:qT)(w:qU)(K:qV)(tg:Expr)(J:It)(fp:List qR)(it:qR)(tn:Nat->Heap->Prop):Prop where
 mem:it∈fp
 obj:∀i h,tn i h->∀b∈fp,∃o,h.get? b=some o/\∀v,9#1≠.cell v
 keep:∀i h h',tn i h->(∀b∈fp,∀o,h.get? b=some o->h'.get? b=some o)->tn i h'
 item:∀(X:Cx),X.prog=P->X.w=w->X.K=K->19#9=true->∀(i:Nat) (ad:List (qR×Obj)) (s:qS) (σ:St) (H:Hp) (E:qQ->qS->Prop),AY X ad σ H s->(∀b∈fp,Ft X ad H b)->tn i 20#3->J.go i H ->
  wpAny 8#7 X.A (pyNext 6#8) (λr s1=>∃u,r=some u /\
   wpAny 8#7 X.A (letOwnedTupleGo tg 6#8 u) (λ_ s2=>∃x H',AY X ad σ H' s2/\Az x u/\J.yld i H x H'/\tn (i+1) s2.heap/\∀b∈fp,H' b=none) E s1) E s
 done:∀(X:Cx),X.prog=P->X.w=w->X.K=K->19#9=true->∀(i:Nat) (ad:List (qR×Obj)) (s:qS) (σ:St) (H:Hp) (E:qQ->qS->Prop),AY X ad σ H s->(∀b∈fp,Ft X ad H b)->tn i 20#3->J.stop i H ->
  wpAny 8#7 X.A (pyNext 6#8) (λr s1=>r=none/\AY X ad σ H s1) E s
 self:∀(A:Around) (i:Nat) (s:qS) (Q:qQ->qS->Prop) (E:qQ->qS->Prop),tn i 20#3->Q 6#8 s->wpAny 8#7 A (pyIter 6#8) Q E s
abbrev TI:=St->Hp->(It->Hp->Prop)->Prop
def cJ(X:Cx)(ad:List (qR×Obj))(σ:St)(tg:Expr)(R:It->Hp->Prop)(itv:qQ)(s2:qS):Prop:=
 ∃(it:qR) (fp:List qR) (tn:Nat->Heap->Prop) (J:It) (H':Hp),itv=.ref it/\AY X ad σ H' s2/\Jh X.prog X.w X.K tg J fp it tn/\tn 0 s2.heap/\(∀b∈fp,Ft X ad H' b)/\R J H'
def PI(X:Cx)(tg iter:Expr)(wi:TI):Prop:=
 ∀(ad:List (qR×Obj)) (s:qS) (σ:St) (H:Hp) (R:It->Hp->Prop),AY X ad σ H s->wi σ H R ->
  wpAny 0#4 X.A (eval iter 1#2) (λv s1=>wpAny 0#4 X.A (pyIter v) (cJ X ad σ tg R) X.xe s1) X.xe s
theorem LQ{M:Model}{A:Around}{n:String}{vs:Array qQ}{Q:Unit->qS->Prop}(ho:s.heap.get? it=some o)(hc:o.cls=.type n)(hd:9#1=.fields vs)
  (hn:["enumerate","zip","dict_itemiterator","dict_reverseitemiterator","odict_iterator","itertools.zip_longest","itertools.pairwise"].contains n=false) (hQ:Q () s):wpAny M A (letOwnedTupleGo tg 6#8 u) Q E s:=by
 unfold letOwnedTupleGo
 cases tg<;>first
  |exact qD hQ
  | (cases u<;>first
    |exact qD hQ
    | (refine qC (wpAny_load ho ?_)
       rw[hc,hd];show wpAny M A (if (["enumerate","zip","dict_itemiterator","dict_reverseitemiterator","odict_iterator","itertools.zip_longest","itertools.pairwise"].contains n&&vs[0]?==some (rawInt _))=true then _ else _) Q E s;rw[qE (by intro h;rw[hn,Bool.false_and]at h;cases h)];exact qD hQ))
noncomputable def Yv(K:qV)(a:qR):It:=
 ⟨λi H=>∃xs x,Aa K H a xs/\xs[i]?=some x,λi H x H'=>H'=H/\∀xs,Aa K H a xs->xs[i]?=some x,λi H=>∃xs,Aa K H a xs/\0#7<=i⟩
noncomputable def Vm(lo:Int)(n:Nat):It:=⟨λi _=>i<n,λi H x H'=>H'=H/\x=.int (lo+i),λi _=>n<=i⟩
theorem QH{P:qT}{w:qU}{K:qV}(a it:qR):Jh P w K tg (Yv K a) [it] it (λi h=>h.IsListIter it a i) where
 mem:=by simp
 obj:=λi h st b hb=>by
  have e:b=it:=by simpa using hb
  subst e;rcases st with⟨o,e,c,d⟩;exact⟨o,e,λv z=>by rw[d]at z;cases z⟩
 keep:=λi h h' st k=>st.at λo e=>k it (by simp) o e
 item:=by intro X hP hw hK hc i ad s σ H E I hf st hg;subst hP hw hK;rcases hg with⟨xs,x,hq,hx⟩;rcases I.list hq with⟨its,rv,p,hz⟩;obtain⟨u,hu,ru⟩:=rv.get hx;rcases hf it (by simp) with⟨f0,f1,f2,f3,f4,f5⟩;refine wpAny_pyNext_list_item st p.isList (x:=u) (by simpa using hu) λh' st' sb=>?_;have I1:AY X ad σ H {s with heap:=h'}:=I.turned (t':=5#2) (λb o hb e=>(sb.2 b hb).trans e) f0 f1 f3 f4 f5;rcases id st' with⟨o,e,c,d⟩;exact⟨u,rfl,LQ (s:={s with heap:=h'}) e c d (by decide) ⟨x,H,I1,ru,⟨rfl,λys hy=>by rw[I.list_inj hy hq];exact hx⟩,st',λb hb=>(hf b hb).1⟩⟩
 done:=by intro X hP hw hK hc i ad s σ H E I hf st hg;subst hP hw hK;obtain⟨xs,hq,hx⟩:=hg;rcases I.list hq with⟨its,rv,p,hz⟩;rcases hf it (by simp) with⟨f0,f1,f2,f3,f4,f5⟩;have hl:=rv.length;exact wpAny_pyNext_list_end 6#3 st p.isList (by simp;lia) λh' eb=>⟨rfl,I.turned (t':=5#2) (λb o hb e=>eb b o hb e) f0 f1 f3 f4 f5⟩
 self:=λ_ _ _ _ _ st h=>wpAny_pyIter_listiter st h
theorem NL{P:qT}{w:qU}{K:qV}(it:qR)(lo:Int)(n:Nat):Jh P w K tg (Vm lo n) [it] it (λi h=>IsRangeIter h it (lo+(i:Nat)*1) ((n:Int)-(i:Nat)) 1) where
 mem:=by simp
 obj:=λi h st b hb=>by
  have e:b=it:=by simpa using hb
  subst e
  exact⟨_,st,λv z=>by have z':Data.fields _=Data.cell v:=z;cases z'⟩
 keep:=λi h h' st k=>k it (by simp) _ st
 item:=by intro X hP hw hK hc i ad s σ H E I hf st hg;subst hP hw hK;rcases hf it (by simp) with⟨f0,f1,f2,f3,f4,f5⟩;have W:=Walks.range (prog:=X.prog) (w:=X.w) 6#3 it lo 1 n;refine W.item i s _ _ hg st λv h' tk hv st' kk=>?_;obtain⟨t,rfl⟩:=hv;have I1:AY X ad σ H {s with heap:=h',toks:=tk}:=I.turned (λb o hb e=>kk b o (by simpa using hb) e) f0 f1 f3 f4 f5;refine⟨_,rfl,LQ (s:={s with heap:=h',toks:=tk}) (n:="range_iterator") st' rfl rfl (by decide) ⟨.int (lo+i),H,I1,⟨t,?_⟩,⟨rfl,rfl⟩,st',λb hb=>(hf b hb).1⟩⟩;rw[ig]
 done:=by intro X hP hw hK hc i ad s σ H E I hf st hg;subst hP hw hK;rcases hf it (by simp) with⟨f0,f1,f2,f3,f4,f5⟩;exact wpAny_pyNext_range_end 6#3 st (by have:n<=i:=hg;lia) λh' eb=>⟨rfl,I.turned (t':=5#2) (λb o hb e=>eb b o hb e) f0 f1 f3 f4 f5⟩
 self:=λ_ _ _ _ _ st h=>wpAny_pyIter_rangeiter st h
variable{tl:TE}{lo:Int}{ta:TA}{fp:List qR}
section
variable{X:Cx}
def RQ(K:qV)(tl:TE):TI:=λσ H R=>tl σ H λx H1=>∃a,x=.ref a/\(∃xs,Aa K H1 a xs)/\R (Yv K a) H1
theorem OY{l:Expr}(hl:PE X l tl):PI X tg l (RQ X.K tl):=by
 intro ad s σ H R I h;refine BM (hl ad s σ H _ I h) λv s1 z9=>?_;obtain⟨x,H1,I1,r1,q1⟩:=z9;obtain⟨a,e,⟨xs,hq⟩,q⟩:=q1;subst e;cases r1;obtain⟨its,rv,p,hz⟩:=I1.list hq;refine wpAny_pyIter_list p.isList ?_;refine⟨1#4,[1#4],_,_,H1,rfl,I1.kept (t':=s1.toks) λb o e=>cm _ e,QH a _,⟨_,c9 _ rfl,rfl,rfl⟩,λb hb=>?_,q⟩;have e:b=1#4:=by simpa using hb
 subst e;exact I1.fpOk (cj _) (I1.hok.fresh (cj _))
theorem LR{R:It->Hp->Prop}{hi:Int}{t u v:Tok}{tk:Nat}(I:AY X ad σ H s)(h1:-(2^62)<=lo)(h2:lo<2^62)(h3:-(2^62)<=hi)(h4:hi<2^62)
  (q:R (Vm lo (hi-lo).toNat) H):wpAny 0#4 X.A (pyIter 13#1) (cJ X ad σ tg R) E {s with heap:=s.heap.push {cls:=.type "range",data:=.fields #[.int lo t,.int hi u,.int 1 v]},toks:=tk}:=by
 refine wpAny_pyIter_range (IsRange.new ..) (small_one h1 h2 h3 h4) ?_;have I1:AY X ad σ H {s with heap:=s.heap.push {cls:=.type "range",data:=.fields #[.int lo t,.int hi u,.int 1 v]},toks:=tk}:=I.kept λb o e=>cm _ e
 refine⟨(s.heap.push {cls:=.type "range",data:=.fields #[.int lo t,.int hi u,.int 1 v]}).objs.size,[(s.heap.push {cls:=.type "range",data:=.fields #[.int lo t,.int hi u,.int 1 v]}).objs.size],_,_,H,rfl,
  I1.kept (t':=tk) λb o e=>cm _ e,NL _ lo (hi-lo).toNat,?_,λb hb=>?_,q⟩
 ·have e1:lo+((0:Nat):Int)*1=lo:=by simp
  have e2:(((hi-lo).toNat:Nat):Int)-((0:Nat):Int)=Builtin.Range.rangeSize lo hi 1:=by rw[rangeSize_one];split<;>lia
  show IsRangeIter _ _ (lo+((0:Nat):Int)*1) ((((hi-lo).toNat:Nat):Int)-((0:Nat):Int)) 1;rw[e1,e2];exact c9 _ rfl
 ·have e:b=(s.heap.push {cls:=.type "range",data:=.fields #[.int lo t,.int hi u,.int 1 v]}).objs.size:=by simpa using hb
  subst e;exact I1.fpOk (cj _) (I1.hok.fresh (cj _))
def ZB(ta:TA):TI:=λσ H R=>ta σ H λvs H1=>∃j:Int,vs=[.int j]/\-(2^62)<=j/\j<2^62/\R (Vm 0 j.toNat) H1
def ZC(ta:TA):TI:=λσ H R=>ta σ H λvs H1=>∃i j:Int,vs=[.int i,.int j]/\(-(2^62)<=i/\i<2^62/\-(2^62)<=j/\j<2^62)/\R (Vm i (j-i).toNat) H1
theorem Aj{a:Expr}{p pos:Pos}(hg:Gl X "range")(hm:X.mg "range"=none)(ha:PA X [a] ta)(hs:starEach [a] 1#2=[(false,eval a 1#2)]:=by rfl):PI X tg (.Call (.Name "range" p) [a] [] pos) (ZB ta):=by
 intro ad s σ H R I h;refine Call_ (Cq I hg hm boot_range (dh (BM (ha pos ad s σ H _ I h) λus s1 z9=>?_) hs rfl));obtain⟨vs,H1,I1,r1,q1⟩:=z9;rcases q1 with⟨j,e,q1,q2,q⟩;subst e;cases r1 with
 |cons r rr =>
  cases rr;obtain⟨t,rfl⟩:=r;exact call_range_1 (LR I1 (by lia) (by lia) q1 q2 (by simpa using q))
theorem QI{a b:Expr}{p pos:Pos}(hg:Gl X "range")(hm:X.mg "range"=none)(ha:PA X [a,b] ta)(hs:starEach [a,b] 1#2=[(false,eval a 1#2),(false,eval b 1#2)]:=by rfl)(hs2:starEach [b] 1#2=[(false,eval b 1#2)]:=by rfl):
  PI X tg (.Call (.Name "range" p) [a,b] [] pos) (ZC ta):=by
 intro ad s σ H R I h;refine Call_ (Cq I hg hm boot_range (dh (BM (ha pos ad s σ H _ I h) λus s1 ⟨vs,H1,I1,r1,q1⟩=>?_) (by rw[hs,hs2]) (by rw[hs2];rfl)));rcases q1 with⟨i,j,e,⟨q1,q2,q3,q4⟩,q⟩;subst e;cases r1 with
 |cons r rr =>
  cases rr with
  |cons r' rr =>
   cases rr;obtain⟨t,rfl⟩:=r;obtain⟨t',rfl⟩:=r';exact call_range_2 (LR I1 q1 q2 q3 q4 q)
def bC(wi:TI)(g:TG)(tb:TS):TS:=λD σ H=>wi σ H λJ H1=>∃W:Nat->Nat->St->Hp->Prop,(∃m,W 0 m σ H1)/\∀i m σ H,W i m σ H ->
 (J.stop i H/\D.nx σ H)\/(J.go i H/\∃N:St->Hp->Prop,(∀σ' H',N σ' H'->∃m',m'<m/\W (i+1) m' σ' H')/\∀x H',J.yld i H x H'->g x σ H' λσ2 H2=>tb {D with nx:=N,ct:=N,bk:=D.nx} σ2 H2)
noncomputable def Gg(fp:List qR)(h:Heap):List (qR×Obj):=fp.filterMap λb=>(h.get? b).map λo=>(b,o)
theorem Cr{h:Heap}{b:qR}(hb:b∈fp)(e:h.get? b=some o):(b,o)∈Gg fp h:=iU.mpr ⟨b,hb,by rw[e];rfl⟩
theorem QJ{h:Heap}{p:qR×Obj}(hp:p∈Gg fp h):p.1∈fp/\h.get? p.1=some p.2:=by
 obtain⟨b,hb,e⟩:=iU.mp hp;cases q:h.get? b with
 |none=>rw[q]at e;cases e
 |some o =>
  rw[q]at e;have e':(b,o)=p:=Option.some.inj e;subst e';exact⟨hb,q⟩
theorem AY.pinned(I:AY X ad σ H s)(hf:∀b∈fp,Ft X ad H b)(ho:∀b∈fp,∃o,s.heap.get? b=some o/\∀v,9#1≠.cell v):AY X (ad++Gg fp 20#3) σ H s:=
 I.pins_of λp hp=>(cZ.mp hp).elim (λz=>I.pin p (dc _ z)) λz=>by obtain⟨hb,e⟩:=QJ z;obtain⟨f0,f1,f2,_⟩:=hf p.1 hb;obtain⟨o,e',d⟩:=ho p.1 hb;rw[e]at e';cases e';exact⟨e,f0,f1,f2,d⟩
theorem AY.unpinned{pl:List (qR×Obj)}(I:AY X (ad++pl) σ H s):AY X ad σ H s:=I.pins_of λp hp=>I.pin p (dc _ (jC _ hp))
theorem A6{iter:Expr}{wi:TI}{g:TG}{tb:TS}{pos:Pos}(hp:PassesOwn 0#4 X.A X.env X.xe)(hc:19#9=true)(hi:PI X tg iter wi)(hg:PG X tg g)(hb:HE X body tb)
  (hs:∀x,foldedSetIterable iter X.env x=pure x:=by intro _;rfl):PS X (.For tg iter body [] pos) (bC wi g tb):=by
 intro ad s σ H D I h;refine wpAny_For (BM (hi ad s σ H _ I h) λv s1 h1=>BM h1 λitv s2 h2=>?_) hs;rcases h2 with⟨it,fp,tn,J,H2,e,I2,T,st2,f2,W,⟨m0,w0⟩,turn⟩;subst e;have stat:∀{H':Hp},(∀b∈fp,H' b=none)->∀b∈fp,Ft X ad H' b:=λhn b hb=>⟨hn b hb,(f2 b hb).2⟩
 refine codeAny_forLoop_any (λn s'=>∃i σ' H',AY X ad σ' H' s'/\tn i 9#9/\(∀b∈fp,H' b=none)/\W i n σ' H') ?_ m0 ⟨0,σ,H2,I2,st2,λb hb=>(f2 b hb).1,w0⟩;intro n s3 hRq;rcases hRq with⟨i,σ3,H3,I3,st3,fr3,w3⟩;rcases turn i n σ3 H3 w3 with⟨stop,qn⟩|⟨go,N,hN,step⟩
 ·refine wpAny_passesOwn hp (BM (T.done X rfl rfl rfl hc i ad s3 σ3 H3 X.xe I3 (stat fr3) st3 stop) λr s4 z9=>?_);obtain⟨hr,I4⟩:=z9;subst hr;exact wpAny_execs_nil ⟨σ3,H3,I4,qn⟩
 ·refine wpAny_passesOwn hp (BM (T.item X rfl rfl rfl hc i ad s3 σ3 H3 X.xe I3 (stat fr3) st3 go) λr s4 z9=>?_);obtain⟨u,hr,h4⟩:=z9;subst hr;refine wpAny_passesOwn hp (BM h4 λ_ s5 z9=>?_);obtain⟨x,H5,I5,r5,y5,st5,fr5⟩:=z9;have I5':=I5.pinned (stat fr5) (T.obj _ _ st5);refine wpAny_passesOwn hp (BM (hg _ s5 σ3 H5 x u _ I5' r5 (step x H5 y5)) λ_ s6 z9=>?_);obtain⟨σ6,H6,I6,q6⟩:=z9;refine wpAny_passesOwn hp (BM (hb _ s6 σ6 H6 _ I6 q6) λf s7 q7=>?_);have again:∀{σ7:St} {H7:Hp},AY X (ad++Gg fp s5.heap) σ7 H7 s7->N σ7 H7->∃m,m<n/\∃i σ' H',AY X ad σ' H' s7/\tn i s7.heap/\(∀b∈fp,H' b=none)/\W i m σ' H':=λ{σ7 H7} I7 n7=>by obtain⟨m',hm,w7⟩:=hN σ7 H7 n7;refine⟨m',hm,i+1,σ7,H7,I7.unpinned,T.keep _ _ _ st5 λb hb o e=>(I7.pin (b,o) (dc _ (dc _ (Cr hb e)))).1,λb hb=>?_,w7⟩;obtain⟨o,e,d⟩:=T.obj _ _ st5 b hb;exact (I7.pin (b,o) (dc _ (dc _ (Cr hb e)))).2.1
  cases f with
  |next=>obtain⟨σ7,H7,I7,n7⟩:=q7;exact again I7 n7
  |cont=>obtain⟨σ7,H7,I7,n7⟩:=q7;exact again I7 n7
  |brk=>obtain⟨σ7,H7,I7,q7⟩:=q7;exact⟨σ7,H7,I7.unpinned,q7⟩
  |ret v=>obtain⟨x7,σ7,H7,I7,r7,q7⟩:=q7;exact⟨x7,σ7,H7,I7.unpinned,r7,q7⟩
end
theorem B3{K:qV}{g:TG}{tb:TS}(Pv:Nat->St->Hp->Prop)(h0:Pv 0 σ H)(hl:∀i σ H,i<=0#7->Pv i σ H->Aa K H a xs)
  (hs:∀i x σ H,xs[i]?=some x->Pv i σ H->g x σ H λσ2 H2=>tb {D with nx:=Pv (i+1),ct:=Pv (i+1),bk:=D.nx} σ2 H2) (hd:∀σ H,Pv xs.length σ H->D.nx σ H):
  ∃W:Nat->Nat->St->Hp->Prop,(∃m,W 0 m σ H)/\∀i m σ H,W i m σ H ->
   ((Yv K a).stop i H/\D.nx σ H)\/((Yv K a).go i H/\∃N:St->Hp->Prop,(∀σ' H',N σ' H'->∃m',m'<m/\W (i+1) m' σ' H')/\∀x H',(Yv K a).yld i H x H'->g x σ H' λσ2 H2=>tb {D with nx:=N,ct:=N,bk:=D.nx} σ2 H2):=by
 refine⟨λi m σ H=>m=0#7-i/\i<=0#7/\Pv i σ H,⟨0#7,by simp,Nat.zero_le _,h0⟩,?_⟩;rintro i m σ H ⟨rfl,hi,p⟩;have q:=hl i σ H hi p
 by_cases hlt:i<xs.length
 ·refine .inr ⟨⟨xs,xs[i],q,by simp[hlt]⟩,Pv (i+1),λσ' H' p'=>⟨0#7-(i+1),by lia,rfl,hlt,p'⟩,λx H' y=>?_⟩;obtain⟨e,y⟩:=y;subst e;exact hs i x σ _ (y xs q) p
 ·have e:i=0#7:=by lia
  subst e;exact .inl ⟨⟨xs,q,cj _⟩,hd σ H p⟩
theorem BN{n:Nat}{g:TG}{tb:TS}(Pv:Nat->St->Hp->Prop)(h0:Pv 0 σ H)
  (hs:∀i σ H,i<n->Pv i σ H->g (.int (lo+i)) σ H λσ2 H2=>tb {D with nx:=Pv (i+1),ct:=Pv (i+1),bk:=D.nx} σ2 H2) (hd:∀σ H,Pv n σ H->D.nx σ H):
  ∃W:Nat->Nat->St->Hp->Prop,(∃m,W 0 m σ H)/\∀i m σ H,W i m σ H ->
   ((Vm lo n).stop i H/\D.nx σ H)\/((Vm lo n).go i H/\∃N:St->Hp->Prop,(∀σ' H',N σ' H'->∃m',m'<m/\W (i+1) m' σ' H')/\∀x H',(Vm lo n).yld i H x H'->g x σ H' λσ2 H2=>tb {D with nx:=N,ct:=N,bk:=D.nx} σ2 H2):=by
 refine⟨λi m σ H=>m=n-i/\i<=n/\Pv i σ H,⟨n,by simp,Nat.zero_le _,h0⟩,?_⟩;rintro i m σ H ⟨rfl,hi,p⟩
 by_cases hlt:i<n
 ·refine .inr ⟨hlt,Pv (i+1),λσ' H' p'=>⟨n-(i+1),by lia,rfl,hlt,p'⟩,λx H' y=>?_⟩;obtain⟨e,y⟩:=y;subst e y;exact hs i σ _ hlt p
 ·have e:i=n:=by lia
  subst e;exact .inl ⟨cj _,hd σ H p⟩
theorem Er{c:TT}{tb:TS}(Pv:St->Hp->Prop)(μ:St->Hp->Nat)(h0:Pv σ H)
  (hs:∀σ H,Pv σ H->c σ H λb H1=>if b=true then tb {D with nx:=λσ' H'=>Pv σ' H'/\μ σ' H'<μ σ H,ct:=λσ' H'=>Pv σ' H'/\μ σ' H'<μ σ H,bk:=D.nx} σ H1 else D.nx σ H1)
  (mono:∀σ H Q Q',(∀b H1,Q b H1->Q' b H1)->c σ H Q->c σ H Q'):RP c tb D σ H:=by
 refine⟨λm σ H=>m=μ σ H/\Pv σ H,⟨_,rfl,h0⟩,?_⟩;rintro m σ H ⟨rfl,p⟩;refine mono σ H _ _ (λb H1 q=>?_) (hs σ H p);cases b with
 |true=>exact⟨_,λσ' H' ⟨p',l⟩=>⟨_,l,rfl,p'⟩,q⟩
 |false=>exact q
abbrev R2:=V->V->Hp->VK->Prop
def Es(X:Cx)(f:qQ->qQ->Sem qQ)(r:R2):Prop:=
 ∀(ad:List (qR×Obj)) (s:qS) (σ:St) (H:Hp) (x y:V) (v u:qQ) (Q:VK),AY X ad σ H s->Az x v->Az y u->r x y H Q ->
  wpAny 0#4 X.A (f v u) 5#9 X.xe s
def bD(X:Cx)(f:qQ->Sem qQ)(r:V->Hp->VK->Prop):Prop:=
 ∀(ad:List (qR×Obj)) (s:qS) (σ:St) (H:Hp) (x:V) (v:qQ) (Q:VK),AY X ad σ H s->Az x v->r x H Q ->
  wpAny 0#4 X.A (f v) 5#9 X.xe s
def Co(X:Cx)(f:qQ)(r:List V->Hp->VK->Prop):Prop:=
 ∀(ad:List (qR×Obj)) (s:qS) (σ:St) (H:Hp) (xs:List V) (us:List qQ) (Q:VK),AY X ad σ H s->Av xs us->r xs H Q ->
  wpAny 0#4 X.A (call f us) 5#9 X.xe s
def Yw(r:R2)(ta tb:TE):TE:=λσ H Q=>ta σ H λx H1=>tb σ H1 λy H2=>r x y H2 Q
def cK(r:V->Hp->VK->Prop)(ta:TE):TE:=λσ H Q=>ta σ H λx H1=>r x H1 Q
def rI(C:Int->Int->Prop)(g:Int->Int->V):R2:=λx y H Q=>∃i j,x=.int i/\y=.int j/\C i j/\Q (g i j) H
def RS(g:Int->Int->V):R2:=λx y H Q=>∃i j,x=.int i/\y=.int j/\Q (g i j) H
def rU(g:Int->V):V->Hp->VK->Prop:=λx H Q=>∃i,x=.int i/\Q (g i) H
section
variable{X:Cx}{a b c:Expr}{ta tb tc:TE}{pos:Pos}
theorem Ws(ha:PE X a ta)(hb:PE X b tb){R:V->V->Hp->Prop}(I:AY X ad σ H s)
  (h:ta σ H λx H1=>tb σ H1 λy H2=>R x y H2) {Q:qQ->qS->Prop} {f:qQ->qQ->Sem qQ}
  (hf:∀v u s2 x y H2,AY X ad σ H2 s2->Az x v->Az y u->R x y H2->wpAny 0#4 X.A (f v u) Q X.xe s2):
  wpAny 0#4 X.A (eval a 1#2) (λv s₁=>wpAny 0#4 X.A (eval b 1#2) (λu s₂=>wpAny 0#4 X.A (f v u) Q X.xe s₂) X.xe s₁) X.xe s:=by
 refine BM (ha ad s σ H _ I h) λv s1 z9=>?_;obtain⟨x,H1,I1,r1,q1⟩:=z9;refine BM (hb ad s1 σ H1 _ I1 q1) λu s2 z9=>?_;obtain⟨y,H2,I2,r2,q2⟩:=z9;exact hf v u s2 x y H2 I2 r1 r2 q2
theorem AK{op:Operator}{r:R2}(ho:Es X (binaryOp op) r)(ha:PE X a ta)(hb:PE X b tb):PE X (.BinOp a op b pos) (Yw r ta tb):=by intro ad s σ H Q I h;exact wpAny_BinOp (Ws ha hb I h λv u s2 x y H2 I2 rx ry q=>ho ad s2 σ H2 x y v u Q I2 rx ry q)
theorem RT{op:UnaryOp}{r:V->Hp->VK->Prop}(ho:bD X (unaryOp op) r)(ha:PE X a ta):PE X (.UnaryOp op a pos) (cK r ta):=by intro ad s σ H Q I h;exact UnaryOp_ (BM (ha ad s σ H _ I h) λv s1 ⟨x,H1,I1,r1,q1⟩=>ho ad s1 σ H1 x v Q I1 r1 q1)
theorem Yx{f:qQ->qQ->Sem qQ}{C:Int->Int->Prop}{g:Int->Int->Int}
  (rule:∀(i j:Int) (t u:Tok) (s:qS) (Q:qQ->qS->Prop) (E:qQ->qS->Prop),C i j->Q (.int (g i j) 5#2) {s with toks:=5#2+1}->wpAny 0#4 X.A (f 18#1 (.int j u)) Q E s):
  Es X f (rI C λi j=>.int (g i j)):=by
 intro ad s σ H x y v u Q I rx ry h;rcases h with⟨i,j,rfl,rfl,hc,q⟩;obtain⟨t,rfl⟩:=rx;obtain⟨t',rfl⟩:=ry;exact rule i j t t' s _ _ hc ⟨.int (g i j),H,I.tok _,⟨_,rfl⟩,q⟩
theorem UX{f:qQ->qQ->Sem qQ}{g:Int->Int->Int}
  (rule:∀(i j:Int) (t u:Tok) (s:qS) (Q:qQ->qS->Prop) (E:qQ->qS->Prop),Q (.int (g i j) 5#2) {s with toks:=5#2+1}->wpAny 0#4 X.A (f 18#1 (.int j u)) Q E s):
  Es X f (RS λi j=>.int (g i j)):=by
 intro ad s σ H x y v u Q I rx ry h;rcases h with⟨i,j,rfl,rfl,q⟩;obtain⟨t,rfl⟩:=rx;obtain⟨t',rfl⟩:=ry;exact rule i j t t' s _ _ ⟨.int (g i j),H,I.tok _,⟨_,rfl⟩,q⟩
theorem UY{f:qQ->qQ->Sem qQ}{g:Int->Int->Bool}
  (rule:∀(i j:Int) (t u:Tok) (s:qS) (Q:qQ->qS->Prop) (E:qQ->qS->Prop),Q (.bool (g i j)) s->wpAny 0#4 X.A (f 18#1 (.int j u)) Q E s):
  Es X f (RS λi j=>.bl (g i j)):=by
 intro ad s σ H x y v u Q I rx ry h;obtain⟨i,j,rfl,rfl,q⟩:=h;obtain⟨t,rfl⟩:=rx;obtain⟨t',rfl⟩:=ry;exact rule i j t t' s _ _ ⟨.bl (g i j),H,I,rfl,q⟩
def Wt(i j:Int):Prop:=0<j/\j<1073741824
def UZ(i j:Int):Prop:=0<=j/\j<=1000000/\i.natAbs<2^64
def RU(i j:Int):Prop:=(-(2^64)<i/\i<2^64)\/(-(2^64)<j/\j<2^64)
theorem RU.ok{i j:Int}(h:RU i j):IntMulOk i j:=by
 rcases h with⟨h1,h2⟩|⟨h1,h2⟩
 ·exact .of_left (intBits_le_64 h1 h2)
 ·exact .of_right (intBits_le_64 h1 h2)
theorem NM(k:Nat):(0:Int)<=2^k:=by rw[two_pow_cast];exact Int.natCast_nonneg _
theorem A3:Es X (binaryOp .Add) (RS λi j=>.int (i+j)):=UX λ_ _ _ _ _ _ _ q=>add_int q
theorem BX:Es X (binaryOp .Sub) (RS λi j=>.int (i-j)):=UX λ_ _ _ _ _ _ _ q=>sub_int q
theorem CJ:Es X (binaryOp .Mult) (rI RU λi j=>.int (i*j)):=Yx λ_ _ _ _ _ _ _ hc q=>mul_int q hc.ok
theorem Bx:Es X (binaryOp .FloorDiv) (rI Wt λi j=>.int (i/j)):=Yx λi j _ _ _ _ _ hc q=>by have h1:(0:Int)<j:=hc.1;have h2:j<1073741824:=hc.2;exact floordiv_int (by lia) (by rw[Int.fdiv_eq_ediv_of_nonneg i (by lia)];exact q) (.inl (PyProof.noPylong_small (by lia)))
theorem A9:Es X (binaryOp .Mod) (rI (λ_ j=>0<j) λi j=>.int (i%j)):=Yx λi j _ _ _ _ _ hc q=>by have h1:(0:Int)<j:=hc;exact mod_int' (by lia) (by rw[Int.fmod_eq_emod_of_nonneg i (by lia)];exact q)
theorem RV:Es X (binaryOp .Pow) (rI UZ λi j=>.int (i^j.toNat)):=Yx λ_ _ _ _ _ _ _ hc q=>pow_int_small hc.1 hc.2.1 hc.2.2 q
theorem RX:Es X (binaryOp .LShift) (rI UZ λi j=>.int (i*2^j.toNat)):=Yx λ_ _ _ _ _ _ _ hc q=>lshift_int_small hc.1 hc.2.1 hc.2.2 q
theorem Wu:Es X (binaryOp .RShift) (rI (λ_ j=>0<=j) λi j=>.int (i/2^j.toNat)):=Yx λi j _ _ _ _ _ hc q =>
 rshift_int hc (by rw[Int.fdiv_eq_ediv_of_nonneg i (NM _)];exact q)
theorem Wv:Es X (binaryOp .BitAnd) (RS λi j=>.int (Builtin.bitAnd i j)):=UX λ_ _ _ _ _ _ _ q=>and_int q
theorem Vn:Es X (binaryOp .BitOr) (RS λi j=>.int (Builtin.bitOr i j)):=UX λ_ _ _ _ _ _ _ q=>or_int q
theorem cR{f:qQ->Sem qQ}{g:Int->Int}
  (rule:∀(i:Int) (t:Tok) (s:qS) (Q:qQ->qS->Prop) (E:qQ->qS->Prop),Q (.int (g i) 5#2) {s with toks:=5#2+1}->wpAny 0#4 X.A (f 18#1) Q E s):
  bD X f (rU λi=>.int (g i)):=by
 intro ad s σ H x v Q I rx h;obtain⟨i,rfl,q⟩:=h;obtain⟨t,rfl⟩:=rx;exact rule i t s _ _ ⟨.int (g i),H,I.tok _,⟨_,rfl⟩,q⟩
theorem NO:bD X (unaryOp .USub) (rU λi=>.int (-i)):=cR λ_ _ _ _ _ q=>neg_int q
end
noncomputable def QK:V->V->Bool
 |.non,.non=>true|.non,.int _=>true|.int _,.non=>true|.non,.bl _=>true|.bl _,.non=>true|.non,.str _=>true|.str _,.non=>true
 |.int _,.int _=>true|.bl _,.bl _=>true|.str _,.str _=>true|.byt _,.byt _=>true
 |.int _,.str _=>true|.str _,.int _=>true|.bl _,.str _=>true|.str _,.bl _=>true
 |_,_=>false
def cL:R2:=λx y H Q=>QK x y=true/\Q (.bl (decide (x=y))) H
def cM:R2:=λx y H Q=>QK x y=true/\Q (.bl (!decide (x=y))) H
theorem OZ{i j:Int}:decide (V.int i=V.int j)=(i==j):=by rw[fY];simp
theorem RY{i j:Bool}:decide (V.bl i=V.bl j)=(i==j):=by rw[fY];simp
theorem Oa{i j:Str}:decide (V.str i=V.str j)=(i==j):=by rw[fY];simp
theorem Ob{i j:Array UInt8}:decide (V.byt i=V.byt j)=(i.toList==j.toList):=by rw[fY];cases i;cases j;simp
section
variable{X:Cx}{a b c:Expr}{ta tb tc:TE}{pos:Pos}
theorem BD{Q:VK}{k k':Bool}(I:AY X ad σ H s)(q:Q (.bl k) H)(e:k=k'):EP X ad σ Q (.bool k') s:=by subst e;exact⟨.bl k,H,I,rfl,q⟩
theorem Cp:Es X (compareOp .Eq) cL:=by
 intro ad s σ H x y v u Q I rx ry h;obtain⟨hs,q⟩:=h;cases x with
 |non =>
  cases rx;cases y with
  |non=>cases ry;exact PySem.EqNone.eq_none_none (BD I q (by simp))
  |bl j=>cases ry;exact PySem.EqNone.eq_none_bool (BD I q (by simp))
  |int j=>obtain⟨t',rfl⟩:=ry;exact PySem.EqNone.eq_none_int (BD I q (by simp))
  |str j=>obtain⟨t',rfl⟩:=ry;exact PySem.EqNone.eq_none_str (BD I q (by simp))
  |_=>exact qG (show false=true from hs) c7
 |bl i =>
  cases rx;cases y with
  |non=>cases ry;exact PySem.EqNone.eq_bool_none (BD I q (by simp))
  |bl j=>cases ry;exact eq_bool (BD I q RY)
  |str j=>obtain⟨t',rfl⟩:=ry;exact PySem.EqMixed.eq_bool_str (BD I q (by simp))
  |_=>exact qG (show false=true from hs) c7
 |int i =>
  obtain⟨t,rfl⟩:=rx;cases y with
  |non=>cases ry;exact PySem.EqNone.eq_int_none (BD I q (by simp))
  |int j=>obtain⟨t',rfl⟩:=ry;exact eq_int (BD I q OZ)
  |str j=>obtain⟨t',rfl⟩:=ry;exact PySem.EqMixed.eq_int_str (BD I q (by simp))
  |_=>exact qG (show false=true from hs) c7
 |str i =>
  obtain⟨t,rfl⟩:=rx;cases y with
  |non=>cases ry;exact PySem.EqNone.eq_str_none (BD I q (by simp))
  |bl j=>cases ry;exact PySem.EqMixed.eq_str_bool (BD I q (by simp))
  |int j=>obtain⟨t',rfl⟩:=ry;exact PySem.EqMixed.eq_str_int (BD I q (by simp))
  |str j=>obtain⟨t',rfl⟩:=ry;exact eq_str (BD I q Oa)
  |_=>exact qG (show false=true from hs) c7
 |byt i =>
  obtain⟨t,rfl⟩:=rx;cases y with
  |byt j=>obtain⟨t',rfl⟩:=ry;exact PySem.W.eq_bytes (BD I q Ob)
  |_=>exact qG (show false=true from hs) c7
 |_=>cases y<;>exact qG (show false=true from hs) c7
theorem HJ:Es X (compareOp .NotEq) cM:=by
 intro ad s σ H x y v u Q I rx ry h;obtain⟨hs,q⟩:=h;cases x with
 |non =>
  cases rx;cases y with
  |non=>cases ry;exact PySem.EqNone.ne_none_none (BD I q (by simp))
  |bl j=>cases ry;exact PySem.EqNone.ne_none_bool (BD I q (by simp))
  |int j=>obtain⟨t',rfl⟩:=ry;exact PySem.EqNone.ne_none_int (BD I q (by simp))
  |str j=>obtain⟨t',rfl⟩:=ry;exact PySem.EqNone.ne_none_str (BD I q (by simp))
  |_=>exact qG (show false=true from hs) c7
 |bl i =>
  cases rx;cases y with
  |non=>cases ry;exact PySem.EqNone.ne_bool_none (BD I q (by simp))
  |bl j=>cases ry;exact ne_bool (BD I q (qP not RY))
  |str j=>obtain⟨t',rfl⟩:=ry;exact PySem.EqMixed.ne_bool_str (BD I q (by simp))
  |_=>exact qG (show false=true from hs) c7
 |int i =>
  obtain⟨t,rfl⟩:=rx;cases y with
  |non=>cases ry;exact PySem.EqNone.ne_int_none (BD I q (by simp))
  |int j=>obtain⟨t',rfl⟩:=ry;exact ne_int (BD I q (qP not OZ))
  |str j=>obtain⟨t',rfl⟩:=ry;exact PySem.EqMixed.ne_int_str (BD I q (by simp))
  |_=>exact qG (show false=true from hs) c7
 |str i =>
  obtain⟨t,rfl⟩:=rx;cases y with
  |non=>cases ry;exact PySem.EqNone.ne_str_none (BD I q (by simp))
  |bl j=>cases ry;exact PySem.EqMixed.ne_str_bool (BD I q (by simp))
  |int j=>obtain⟨t',rfl⟩:=ry;exact PySem.EqMixed.ne_str_int (BD I q (by simp))
  |str j=>obtain⟨t',rfl⟩:=ry;exact ne_str (BD I q (qP not Oa))
  |_=>exact qG (show false=true from hs) c7
 |byt i =>
  obtain⟨t,rfl⟩:=rx;cases y with
  |byt j=>obtain⟨t',rfl⟩:=ry;exact PySem.W.ne_bytes (BD I q (qP not Ob))
  |_=>exact qG (show false=true from hs) c7
 |_=>cases y<;>exact qG (show false=true from hs) c7
theorem Dy:Es X (compareOp .Lt) (RS λi j=>.bl (decide (i<j))):=UY λ_ _ _ _ _ _ _ q=>lt_int q
theorem Vo:Es X (compareOp .LtE) (RS λi j=>.bl (decide (i<=j))):=UY λ_ _ _ _ _ _ _ q=>le_int q
theorem DU:Es X (compareOp .Gt) (RS λi j=>.bl (decide (j<i))):=UY λ_ _ _ _ _ _ _ q=>gt_int q
theorem Oc:Es X (compareOp .GtE) (RS λi j=>.bl (decide (j<=i))):=UY λ_ _ _ _ _ _ _ q=>ge_int q
theorem RZ:Es X (compareOp .Is) (λx y H Q=>y=.non/\Q (.bl (decide (x=.non))) H):=by
 intro ad s σ H x y v u Q I rx ry h;obtain⟨rfl,q⟩:=h;cases ry;refine is_none_gen (BD I q ?_)
 cases x<;>first
  | (cases rx;rfl)
  | (obtain⟨t,rfl⟩:=rx;rfl)
theorem Hv:Es X (compareOp .IsNot) (λx y H Q=>y=.non/\Q (.bl (!decide (x=.non))) H):=by
 intro ad s σ H x y v u Q I rx ry h;obtain⟨rfl,q⟩:=h;cases ry;refine isnot_none_gen (BD I q ?_)
 cases x<;>first
  | (cases rx;rfl)
  | (obtain⟨t,rfl⟩:=rx;rfl)
theorem AU(b:Expr)(h:op≠.In:=by decide)(h2:op≠.NotIn:=by decide):behindInMarks op b=false:=by
 have e:(op==.In||op==.NotIn)=false:=by rw[beq_eq_false_iff_ne.mpr h,beq_eq_false_iff_ne.mpr h2];rfl
 cases b with
 |Set elts k p=>show (k==0&&(op==.In||op==.NotIn)&&_)=false;rw[e,Bool.and_false];rfl
 |_=>rfl
theorem DI{r:R2}(ho:Es X (compareOp op) r)(ha:PE X a ta)(hb:PE X b tb)(hm:behindInMarks op b=false):PE X (.Compare a [op] [b] pos) (Yw r ta tb):=by intro ad s σ H Q I h;exact wpAny_Compare1 (Ws ha hb I h λv u s2 x y H2 I2 rx ry q=>ho ad s2 σ H2 x y v u Q I2 rx ry q) hm
def Vp(t:TE):TT:=λσ H Q=>t σ H λx H'=>∃k,x=.bl k/\Q k H'
theorem AR{r:R2}(ho:Es X (compareOp op) r)(ha:PE X a ta)(hb:PE X b tb)(hm:behindInMarks op b=false):PT X (.Compare a [op] [b] pos) (Vp (Yw r ta tb)):=by
 intro ad s σ H Q I h
 refine wpAny_isTrue_Compare1 (BM (ha ad s σ H _ I h) λv s1 ⟨x,H1,I1,r1,q1⟩=>BM (hb ad s1 σ H1 _ I1 q1) λu s2 ⟨y,H2,I2,r2,q2⟩ =>
  BM (ho ad s2 σ H2 x y v u _ I2 r1 r2 q2) λc s3 ⟨z,H3,I3,r3,k,e,q3⟩=>?_) hm
 subst e;cases r3;exact wpAny_truthy_bool ⟨H3,I3,q3⟩
theorem Kk:(sizeLine:Nat)<2^63:=by rw[sizeLine_eq];decide
theorem Et{x:V}(r:Av [x] us):∃u,us=[u]/\Az x u:=by
 cases r with
 |cons r1 r2=>cases r2;exact⟨_,rfl,r1⟩
theorem Od{x y:V}(r:Av [x,y] us):∃u w',us=[u,w']/\Az x u/\Az y w':=by
 cases r with
 |cons r1 r2 =>
  cases r2 with
  |cons r3 r4=>cases r4;exact⟨_,_,rfl,r1,r3⟩
end
structure Ww(h:Heap)(x dx C:qR)(mA:Str->Option qQ):Prop where
 obj:h.get? x=some 20#8
 ns:h.Ns1 dx mA
 ne:dx≠x
theorem QL{h:Heap}{dx:qR}{mA:Str->Option qQ}(n:h.Ns1 dx mA):∃od,h.get? dx=some od/\∀name,PySem.W.lookIn name od=some (mA name):=by
 rcases n with⟨o,es,ep,ho,hd,hk,_,hm⟩;refine⟨o,ho,λname=>?_⟩;have e:=hm name;unfold nsFind findBy at e;rw[<-Array.find?_toList]at e;unfold PySem.W.lookIn;rw[hd];dsimp only;split
 ·rename_i y q
  rw[q]at e;exact qP some e
 ·rename_i q
  rw[q]at e
  have a:es.toList.any (·.refKey)=false:=by rw[List.any_eq_false];intro y hy;obtain⟨z,t,hkey⟩:=hk y (Array.mem_toList_iff.mp hy);simp[DictEntry.refKey,hkey]
  have a':¬es.toList.any (·.refKey)=true:=by rw[a];exact c7
  rw[qE a'];exact qP some e
variable{C:qR}
theorem Ww.look{h:Heap}{x dx:qR}{mA:Str->Option qQ}(I:Ww h x dx C mA):∃od,PySem.W.InstAt h x 20#8 C (some od)/\∀name,PySem.W.lookIn name od=some (mA name):=
 let ⟨od,ho,hl⟩:=QL I.ns
 ⟨od,⟨I.obj,rfl,rfl,ho⟩,hl⟩
theorem Fo.some_of{v:V}{o:Option qQ}(r:Fo 11#0 o):∃u,o=some u/\Az v u:=by
 cases o with
 |none=>exact (show False from r).elim
 |some u=>exact⟨u,rfl,r⟩
section
variable{P:qT}{w:qU}{h h':Heap}{dx:qR}{fs fs':List (Str×V)}
theorem Oe(hok:Dx P w H h)(e:H a=some (.ins C dx fs)):∃mA,Ww h a dx C mA/\(∀f,Fo (fs.lookup f) (mA f))/\PySem.Within mA (fs.map (·.1))/\fs.length<=1000/\H dx=some (.own a):=by rcases (show Aq P w H h a (.ins C dx fs) from hok a _ e) with⟨d,z,ne,ob,mA,n,r,q⟩;exact⟨mA,⟨ob,n,ne⟩,r,q,z,d⟩
end
structure bE(K:qV)(C:qR):Prop where
 pg:PySem.W.plainGet K C Str.empty=true
 hd:PySem.W.hasDictIn K C=true
 po:PySem.W.plainOver K C=true
 sa:PySem.W.findIn K (.ref C) "__setattr__"=some (some (.builtin "object.__setattr__"))
theorem bE.get{K:qV}(c:bE K C)(f:Str):PySem.W.plainGet K C f=true:=c.pg
section
variable{X:Cx}{A:Around}{c:qQ}{b:Bool}
inductive Gh(K:qV)(H:Hp):V->qQ->Prop where
 |non:Gh K H .non (.type "NoneType")
 |bl (x:Bool):Gh K H (.bl x) (.type "bool")
 |int (i:Int):Gh K H 8#3 (.type "int")
 |str (x:Str):Gh K H (.str x) (.type "str")
 |flt (x:UInt64):Gh K H (.flt x) (.type "float")
 |lst {a:qR} {xs:List V} (e:H a=some 3#6):Gh K H 2#6 (.type "list")
 |frz {a:qR} {o:Obj} {xs:List V} (e:H a=some (.frz o 3#6)):Gh K H 2#6 (.type "list")
 |tup {a:qR} {xs:List V} (e:H a=some 9#0):Gh K H 2#6 (.type "tuple")
 |dK {a:qR} {kvs:List (BW×V)} (e:H a=some 5#1):Gh K H 2#6 (.type "dict")
 |dT {a:qR} {kvs:List (List BW×V)} (e:H a=some 19#5):Gh K H 2#6 (.type "dict")
 |ins {a C dx:qR} {fs:List (Str×V)} (e:H a=some (.ins C dx fs)) (cl:bE K C) (ha:PySem.W.findIn K (.ref C) "__class__"=some (some (.builtin "object.__class__")))
   (hn:PySem.W.specialIn K (.builtin "object.__class__") "__get__"=some (some (.builtin "getset_descriptor.__get__"))) (htk:PySem.W.takesIn K (.builtin "object.__class__")=some true)
   (hm:PySem.W.mroIn K C (.type "object")=some true):Gh K H 2#6 (.ref C)
theorem QM{x:V}{t:qQ}(I:AY X ad σ H s)(rx:Az x u)(ty:Gh X.K H x t)(e:PySem.W.kitOne X.K t c=some b)(h:∀tk,Q (.bool b) {s with toks:=tk}):
  wpAny 0#4 A (call (.builtin "isinstance") [u,c]) Q E s:=by
 cases ty with
 |non=>cases (show u=Value.none from rx);exact fI PySem.W.kitx_none I.kIn True.intro e (λz=>nomatch z) h
 |bl y=>cases (show u=Value.bool y from rx);exact fI PySem.W.kitx_bool I.kIn True.intro e (λz=>nomatch z) h
 |int i=>obtain⟨t,q⟩:=(show ∃t,u=Value.int i t from rx);cases q;exact fI PySem.W.kitx_int I.kIn True.intro e (λz=>nomatch z) h
 |str y=>obtain⟨t,q⟩:=(show ∃t,u=Value.str y t from rx);cases q;exact fI PySem.W.kitx_str I.kIn True.intro e (λz=>nomatch z) h
 |flt y=>obtain⟨t,q⟩:=(show ∃t,u=Value.float y t from rx);cases q;exact fI PySem.W.kitx_float I.kIn True.intro e (λz=>nomatch z) h
 | @lst a xs ea =>
  cases (show u=Value.ref a from rx);obtain⟨_,_,n,_,h1⟩:=(show Aq X.prog X.w H s.heap a 3#6 from I.hok a _ ea);exact fI ii I.kIn ⟨_,h1,rfl⟩ e (λz=>nomatch z) h
 | @frz a ob xs ea =>
  cases (show u=Value.ref a from rx);obtain⟨_,_,_,n,_,h1⟩:=(show Aq X.prog X.w H s.heap a (.frz ob 3#6) from I.hok a _ ea);exact fI ii I.kIn ⟨_,h1,rfl⟩ e (λz=>nomatch z) h
 | @tup a xs ea =>
  cases (show u=Value.ref a from rx);obtain⟨_,_,_,p⟩:=(show Aq X.prog X.w H s.heap a 9#0 from I.hok a _ ea);obtain⟨o,h1,h2,_⟩:=p;exact fI PySem.W.kitx_tuple I.kIn ⟨o,h1,h2⟩ e (λz=>nomatch z) h
 | @dK a kvs ea =>
  cases (show u=Value.ref a from rx);obtain⟨_,_,vs,_,p⟩:=(show Aq X.prog X.w H s.heap a 5#1 from I.hok a _ ea);obtain⟨o,es,ep,h1,h2,_⟩:=p;exact fI io I.kIn ⟨o,h1,h2.1⟩ e (λz=>nomatch z) h
 | @dT a kvs ea =>
  cases (show u=Value.ref a from rx);obtain⟨_,_,xs,_,o,es,ep,h1,h2,_⟩:=(show Aq X.prog X.w H s.heap a 19#5 from I.hok a _ ea);exact fI io I.kIn ⟨o,h1,h2.1⟩ e (λz=>nomatch z) h
 | @ins a C dx fs ea cl ha hn htk hm =>
  cases (show u=Value.ref a from rx);obtain⟨mA,O,_⟩:=Oe I.hok ea;obtain⟨od,J,_⟩:=O.look;exact fI (PySem.W.kitx_own (cl.get _) cl.hd ha hn htk hm) I.kIn J e (λz=>nomatch z) h
end
structure CM(k:Nat)(A:Around):Prop where
 hd:16#0=none
 dp:A.depth+3*k+5<recursionLimit
 un:20#5+16*k+200<cLine
theorem CM.mono{k:Nat}{A:Around}(r:CM k A)(h:j<=k):CM j A:=⟨r.hd,by have:=r.dp;lia,by have:=r.un;lia⟩
theorem CM.deeper{k:Nat}{A:Around}(r:CM (k+1) A)(env:Env):CM k (A.deeper env):=
 ⟨r.hd,by have:=r.dp;show A.depth+1+3*k+5<_;lia,by have:=r.un;show 20#5+3+16*k+200<_;lia⟩
theorem CM.depth{k:Nat}{A:Around}(r:CM k A):A.depth<recursionLimit:=by have:=r.dp;lia
theorem CM.units{k:Nat}{A:Around}(r:CM k A):20#5+64<cLine:=by have:=r.un;lia
def Kl:TA:=λ_ H Q=>Q [] H
def Fh(ta:TE)(tr:TA):TA:=λσ H Q=>ta σ H λx H1=>tr σ H1 λxs H2=>Q (x::xs) H2
section
variable{X:Cx}{e:Expr}{t:TA}{pos:Pos}
theorem AB:PA X [] Kl:=λ_ _ _ _ H Q I h=>Calls.spliced_nil ⟨[],H,I,.nil,h⟩
theorem AA(ha:PE X e te)(hr:PA X es t)(hs:starEach (e::es) 1#2=(false,eval e 1#2)::starEach es 1#2:=by rfl):PA X (e::es) (Fh te t):=by intro pos ad s σ H Q I h;rw[hs];show wpAny _ _ (spliced ((false,eval e 1#2)::backTo pos 4#2)) _ _ s;refine Calls.spliced_cons (BM (ha ad s σ H _ I h) λu s1 z9=>?_);obtain⟨x,H1,I1,r1,q1⟩:=z9;exact BM (hr pos ad s1 σ H1 _ I1 q1) λus s2 ⟨xs,H2,I2,r2,q2⟩=>⟨x::xs,H2,I2,.cons r1 r2,q2⟩
def Wx(t:TA):TE:=λσ H Q=>t σ H λxs H1=>0#7<=sizeLine/\∀p,H1 p=none->Q 1#5 (AZ H1 p 9#0)
def Ua(t:TA):TE:=λσ H Q=>t σ H λxs H1=>0#7<=sizeLine/\∀p,H1 p=none->Q 1#5 (AZ H1 p 3#6)
theorem DA{x1}(h:PA X es t):PE X (.Tuple es x1 pos) (Wx t):=by intro ad s σ H Q I hq;refine wpAny_Tuple_spliced (BM (h pos ad s σ H _ I hq) λus s1 ⟨xs,H1,I1,r,z,q⟩=>⟨by rw[<-7#5];exact z,?_⟩);have hf:H1 1#4=none:=I1.hok.fresh (cj _);refine⟨.ref 1#4,AZ H1 s1.heap.objs.size 9#0,I1.laid (t':=s1.toks) (λb u e=>cm _ e) (cj _) ?_,rfl,q _ hf⟩;exact⟨z,us,r,⟨_,c9 _ rfl,rfl,_,rfl⟩⟩
theorem A7(h:PA X es t):PE X (.List es pos) (Ua t):=by intro ad s σ H Q I hq;refine wpAny_List_spliced (BM (h pos ad s σ H _ I hq) λus s1 ⟨xs,H1,I1,r,z,q⟩=>⟨by rw[<-7#5];exact z,?_⟩);have hf:H1 1#4=none:=I1.hok.fresh (cj _);refine⟨.ref 1#4,AZ H1 s1.heap.objs.size 3#6,I1.laid (t':=s1.toks) (λb u e=>cm _ e) (cj _) ?_,rfl,q _ hf⟩;exact⟨z,us,0,r,c9 _ rfl⟩
end
abbrev Sp:=List V->Hp->VK->XK->Prop
abbrev RJ:=List Env->Hp->qS->XK->qQ->qS->Prop
structure QN(P:qT)(w:qU)(K:qV)(mg:Str->Option qQ)(base:Heap)(A:Around)(outer:List Env)(s:qS)(H:Hp):Prop where
 frames:A.frames=some outer
 mod:Y5 K mg base
 bs:∀b o,base.get? b=some o->s.heap.get? b=some o/\H b=none
 bsz:base.objs.size<=0#1
 funs:s.heap.FunFrames base outer
 frf:∀b∈Ei outer,H b=none
 hok:Dx P w H 20#3
 bare:AllBare s.gens
def CE(outer:List Env)(P:qT)(w:qU)(H:Hp)(s:qS)(Q:VK)(u:qQ)(s':qS):Prop:=
 ∃v H',s'.os=s.os/\AllBare s'.gens/\Un (Ei outer) [] H H' s.heap 9#9/\Dx P w H' 9#9/\Az v u/\Q v H'
def CR(CX:RJ)(outer:List Env)(P:qT)(w:qU)(H:Hp)(s:qS)(Q:VK)(E:XK)(r:Result)(s':qS):Prop:=
 match r with
 |.ok (.ret u)=>CE outer P w H s Q u s'
 |.ok _=>False
 |.error e=>CX outer H s E e s'
structure Fu(P:qT)(w:qU)(K:qV)(mg:Str->Option qQ)(base:Heap)(CX:RJ)(k:Nat)(f:qR)(fd:FuncData)(ps:List Str)(sp:Sp):Prop where
 len:∀vs H Q E,sp vs H Q E->3#2=3#0
 run:∀(A:Around) (outer:List Env) (s:qS) (H:Hp) (args:Args) (us:List qQ) (vs:List V) (Q:VK) (E:XK),CM k A->QN P w K mg base A outer s H->BindsTo s fd args (ps.zip us)->Av vs us->sp vs H Q E ->
  codeAny 8#7 A (.call 5#7 args) (CR CX outer P w H s Q E) s
section
variable{X:Cx}
theorem AY.env0(I:AY X ad σ H s):QN X.prog X.w X.K X.mg X.base X.A X.stack s H:=
 ⟨I.ok.frames,I.ok.mod,I.bs,dM I.ok.bsz I.sz,I.stack,I.stkFree,I.hok,I.bare⟩
theorem AY.after{Q:VK}(I:AY X ad σ H s)(h:CE X.stack X.prog X.w H s Q u s'):EP X ad σ Q u s':=by rcases h with⟨v,H',os,bare,un,hok,r,q⟩;rcases s' with⟨hh,g,d,t,os'⟩;obtain rfl:os'=s.os:=os;exact⟨v,H',I.call (h':=hh) (g':=g) (d':=d) (t':=t) (ch:=[]) un hok bare (λb z=>qG z (by simp)),r,q⟩
end
def HK(K:qV)(fd:FuncData)(ps:List Str)(ds:List qQ):Prop:=
 ∀(s:qS) (us:List qQ),K.In 20#3->(us++ds).length=3#0->BindsTo s fd ⟨us,[]⟩ (ps.zip (us++ds))
variable{fd:FuncData}{ps:List Str}
theorem HK.all{K:qV}(h:∀us:List qQ,6#1=3#0->bindArgs fd ⟨us,[]⟩=pure (ps.zip us)):HK K fd ps []:=λs us _ hl=>by rw[dU]at hl⊢;exact .of_eq (h us hl)
def PK(X:Cx)(kws:List Keyword)(t:TA):Prop:=
 ∀(pos:Pos) (ad:List (qR×Obj)) (s:qS) (σ:St) (H:Hp) (Q:List V->Hp->Prop),AY X ad σ H s->t σ H Q->wpAny 0#4 X.A (evalAll ((backToKw pos (keywordEach kws 1#2)).map (·.2))) (AP X ad σ Q) X.xe s
section
variable{X:Cx}{CX:RJ}{k:Nat}{f:qR}{ks:List Str}{sp:Sp}{E:XK}{x m:Str}{p pos apos kpos:Pos}{e o:Expr}{kws:List Keyword}{ta:TE}{t tk:TA}{nm:Option Str}
theorem Wy:PK X [] Kl:=λ_ _ _ _ H Q I h=>wpAny_evalAll_nil ⟨[],H,I,.nil,h⟩
theorem Ub(ha:PE X e te)(hr:PK X kws t):PK X (⟨nm,e,kpos⟩::kws) (Fh te t):=by intro pos ad s σ H Q I h;show wpAny _ _ (evalAll ((do let v <-eval e 1#2;standAt pos;pure v)::(backToKw pos (keywordEach kws 1#2)).map (·.2))) _ _ s;refine wpAny_evalAll_cons (qC (BM (ha ad s σ H _ I h) λu s1 ⟨x,H1,I1,r1,q1⟩=>qC (wpAny_standAt (qD ?_))));exact BM (hr pos ad s1 σ H1 _ I1 q1) λus s2 ⟨xs,H2,I2,r2,q2⟩=>⟨x::xs,H2,I2,.cons r1 r2,q2⟩
variable{g:List qQ->List qQ->List qQ}{gV:List V->List V->List V}
end
structure AJ(N P:List Str)(sc:Scope):Prop where
 kind:sc.kind=.function
 co:sc.isCoroutine=false
 gen:sc.isGenerator=false
 nd:N.Nodup
 pre:N.take P.length=P
 par:∀x∈P,sc.names.lookup x=some .local\/sc.names.lookup x=some .cell
 nofree:∀y∈sc.names,y.2≠.free
variable{kindOf:Str->Option NameKind}
theorem Jz{x:Str}:∀{binds:List (Str×qQ)} {m:Str->Option qQ},(∀v,(x,v)∉binds)->bindL kindOf binds m x=m x
 |[],_,_=>rfl
 | (n,v)::r,m,h=>by
  unfold bindL;rw[Jz λw hw=>h w (c8 _ hw)];split
  ·have:x≠n:=by rintro rfl;exact h v dH
   simp[this]
  ·rfl
theorem J1{x:Str}:∀{binds:List (Str×qQ)} {m:Str->Option qQ},(∀v,(x,v)∉binds)->bindC kindOf binds m x=m x
 |[],_,_=>rfl
 | (n,v)::r,m,h=>by
  unfold bindC;rw[J1 λw hw=>h w (c8 _ hw)];split
  ·rfl
  ·have:x≠n:=by rintro rfl;exact h v dH
   simp[this]
theorem Gi{x:Str}{v:qQ}:∀{P:List Str} {vs:List qQ} {i:Nat} {m:Str->Option qQ},P.Nodup->P[i]?=some x->vs[i]?=some v->kindOf x=some .local ->
  bindL kindOf (P.zip vs) m x=some v
 |[],_,_,_,_,h,_,_=>by simp at h
 |_::_,[],_,_,_,_,h,_=>by simp at h
 |p::P,w::vs,0,m,nd,h1,h2,hk=>by simp at h1 h2;subst h1;subst h2;show bindL kindOf ((p,w)::P.zip vs) m p=_;unfold bindL;rw[Jz λv hv=>(d7.mp nd).1 (iV hv).1,qF hk];simp
 |p::P,w::vs,i+1,m,nd,h1,h2,hk=>by show bindL kindOf ((p,w)::P.zip vs) m x=_;unfold bindL;exact Gi (i:=i) (List.nodup_cons.mp nd).2 (by simpa using h1) (by simpa using h2) hk
theorem Gj{x:Str}{v:qQ}:∀{P:List Str} {vs:List qQ} {i:Nat} {m:Str->Option qQ},P.Nodup->P[i]?=some x->vs[i]?=some v->kindOf x≠some .local ->
  bindC kindOf (P.zip vs) m x=some v
 |[],_,_,_,_,h,_,_=>by simp at h
 |_::_,[],_,_,_,_,h,_=>by simp at h
 |p::P,w::vs,0,m,nd,h1,h2,hk=>by simp at h1 h2;subst h1;subst h2;show bindC kindOf ((p,w)::P.zip vs) m p=_;unfold bindC;rw[J1 λv hv=>(d7.mp nd).1 (iV hv).1,qE hk];simp
 |p::P,w::vs,i+1,m,nd,h1,h2,hk=>by show bindC kindOf ((p,w)::P.zip vs) m x=_;unfold bindC;exact Gj (i:=i) (List.nodup_cons.mp nd).2 (by simpa using h1) (by simpa using h2) hk
noncomputable def C5(N:List Str)(vs:List V):St:=vs.map some++List.replicate (N.length-3#2) none
noncomputable def Ej(CX:RJ)(P:qT)(w:qU)(K:qV)(mg:Str->Option qQ)(base:Heap)(N:List Str)(qual:Str)(scope:Scope)(f:qR)(cd:qQ)(A:Around)(outer:List Env)(s:qS)(H:Hp)(E:XK):Cx where
 prog:=P
 w:=w
 K:=K
 mg:=mg
 base:=base
 A:=A.deeper 10#0
 N:=N
 s₀:=s
 H₀:=H
 env:=envOfC qual scope s.heap.objs.size f cd
 outer:=outer
 stack:=envOfC qual scope s.heap.objs.size f cd::outer
 ex:=[]
 calm:=true
 fn:=λ_=>true
 pn:=[]
 xe:=λe s'=>wpAny 8#7 (A.deeper 10#0) (leaving 10#0 e) (λ_ s''=>CX outer H s E e s'') (λe' s''=>CX outer H s E e' s'') s'
theorem GF{sc:Scope}{n:Nat}{x:Str}(h:sc.names.lookup x=some .cell):∃c,(cellsFrom n sc.names []).lookup x=some c:=by have q:=ic sc.names n [] (.inl h);exact gP.mp q
variable{CX:RJ}{qual:Str}{scope:Scope}
theorem QO{P:qT}{w:qU}{K:qV}{mg:Str->Option qQ}{base:Heap}{N:List Str}{f:qR}{cd:qQ}{A:Around}{outer:List Env}{s1:qS}{E:XK}{vs:List V}
  (S:AJ N ps scope) (hd:16#0=none) (e0:QN P w K mg base A outer s H) (hl:3#2=3#0) (r:Av vs us)
  (x:InCallC s s.heap.objs.size (bindL (envOfC qual scope s.heap.objs.size f cd).kindOf (ps.zip us) λ_=>none) (cellsFrom (0#1+1) scope.names []) (bindC (envOfC qual scope s.heap.objs.size f cd).kindOf (ps.zip us) λ_=>none) s1):
  AY (Ej CX P w K mg base N qual scope f cd A outer s H E) [] 12#5 H s1:=by
 have hpl:3#0<=N.length:=by have:=qP List.length S.pre;rw[dN]at this;lia
 obtain⟨h1,tk,rfl,hk⟩:=x.done;have noA:∀b:qR,b∉(Ej CX P w K mg base N qual scope f cd A outer s H E).ex:=λb z=>qG (show b∈([]:List qR) from z) (by simp)
 refine⟨⟨e0.mod,S.kind,rfl,rfl,cj _,λy z c h1 h2=>?_,λy hy=>?_,λy c _ h=>?_,λ_=>hd,Around.frames_deeper e0.frames,.inr ⟨rfl,rfl⟩,λb z=>qG z (noA b),e0.bs,e0.bsz,λb _ _=>noA b,λb z=>qG z (noA b),e0.funs,e0.frf⟩,
  rfl,e0.bare,Un.kept hk,⟨_,x.toInCall.ns,λi y v h1 h2 h3=>?_⟩,λy c h=>⟨_,x.cell y c h⟩,e0.hok.fresh (Nat.le_refl _),λy c h=>?_,λp hp=>qG (show p∈([]:List (qR×Obj)) from hp) (by simp),e0.hok.kept hk,?_⟩
 ·exact name_of_addr x.apart (eK h1) (eK h2)
 ·have hy:scope.names.lookup y=some .cell\/scope.names.lookup y=some .free:=hy;rcases hy with hy|hy
  ·exact GF hy
  ·exact qG rfl (S.nofree _ (eK hy))
 ·exact eU (x.above y c (eK h))
 ·have hi:i<3#2:=by
   unfold C5 at h2
   by_cases hi:i<vs.length
   ·exact hi
   ·rw[List.getElem?_append_right (by simpa using hi)]at h2;rw[iW]at h2
    split at h2<;>cases h2
  have ha:vs[i]?=some v:=by
   unfold C5 at h2;rw[List.getElem?_append_left (by simpa using hi),13#6]at h2;cases e:vs[i]? with
   |none=>rw[e]at h2;cases h2
   |some a=>rw[e]at h2;cases h2;rfl
  obtain⟨u,hu,rv⟩:=r.get ha
  have hp:ps[i]?=some y:=by rw[<-S.pre,List.getElem?_take_of_lt (by lia)];exact h1
  have ndP:ps.Nodup:=by rw[<-S.pre];exact S.nd.sublist (List.take_sublist _ _)
  refine⟨u,rv,?_⟩;rcases S.par y (cw hp) with k|k
  ·exact .inl ⟨k,Gi ndP hp hu k⟩
  ·obtain⟨c,e⟩:=GF (n:=0#1+1) k;refine .inr ⟨.inl k,c,e,?_⟩;have q:=x.cell y c e;rw[Gj ndP hp hu (by show scope.names.lookup y≠_;rw[k];decide)]at q;exact q
 ·exact e0.hok.fresh (eU (x.above y c (eK h)))
 ·unfold C5;show _=N.length;rw[cg,cU,eW];lia
variable{name:Str}{params:Arguments}{doc j6 oc:qQ}{an od:Option qR}
theorem Vq{P:qT}{w:qU}{K:qV}{mg:Str->Option qQ}{base:Heap}{k:Nat}{f:qR}{dV kV pm ct:qQ}
  {osl:Array (Option qQ)} {N ps:List Str} {sp:Sp} (lk:K.lookup f=some ⟨oc,od,.func 11#2,osl⟩) (hcd:PySem.W.codeIn K j6 qual=true) (S:AJ N ps scope)
  (len:∀vs H Q E,sp vs H Q E->3#2=3#0)
  (hbody:∀(A:Around) (outer:List Env) (s:qS) (H:Hp) (vs:List V) (Q:VK) (E:XK),CM k (A.deeper (envOfC qual scope s.heap.objs.size f j6))->sp vs H Q E ->
   ∃t,HE 7#7 body t/\t {nx:=λ_ H'=>Q .non H',rt:=Q} 12#5 H):
  Fu P w K mg base CX (k+1) f 11#2 ps sp:=by
 refine⟨len,λA outer s H args us vs Q E hr e0 hb r hsp=>?_⟩;have hl:=len _ _ _ _ hsp;have KX:K.In 20#3:=e0.mod.kin.keeps λb o e=>(e0.bs b o e).1
 have lim:s.heap.NoLimit:=e0.mod.nolimit.keeps λb o e=>(e0.bs b o e).1
 have hkind:∀y∈ps.zip us,scope.names.lookup y.1=some .local\/(scope.names.lookup y.1=some .cell/\((cellsFrom (0#1+1) scope.names []).lookup y.1).isSome=true):=λ⟨n,v⟩ hy=>by
  rcases S.par n (iV hy).1 with q|q
  ·exact .inl q
  ·exact .inr ⟨q,ic _ _ _ (.inl q)⟩
 refine codeAny_call_function hr.depth (KX _ _ lk) rfl S.co S.gen rfl (PySem.W.codeRec_of KX hcd) (hb _ _ _ _ ?_);refine wpAny_newFunctionEnv_cells S.kind hkind λenv he s1 x=>?_;subst he;refine⟨lim.keeps x.toInCall.keep,codeAny_func ?_⟩;obtain⟨t,ht,hq⟩:=hbody A outer s H vs Q E (hr.deeper _) hsp;have I:AY 7#7 [] 12#5 H s1:=QO S hr.hd e0 hl r x;refine qM (ht [] s1 12#5 H _ I hq) (λfl s' hs=>?_) λe s' hs=>hs
 have fin:∀{σ':St} {H':Hp} {v:V} {u:qQ},AY 7#7 [] σ' H' s'->Az v u->Q v H'->CE outer P w H s Q u s':=
  λ{σ' H' v u} J rv q=>⟨v,H',J.os,J.bare,J.base,J.hok,rv,q⟩
 cases fl with
 |ret u =>
  obtain⟨v,σ',H',J,rv,q⟩:=hs;exact fin J rv q
 |next =>
  obtain⟨σ',H',J,q⟩:=hs;exact fin (v:=V.non) (u:=12#7) J rfl q
 |brk =>
  obtain⟨_,_,_,q⟩:=hs;exact False.elim q
 |cont =>
  obtain⟨_,_,_,q⟩:=hs;exact False.elim q
section
variable{X:Cx}{x:Str}{p pos:Pos}{e:Expr}{t:TA}{id T:String}{r:List V->Hp->VK->Prop}
def ZD(r:List V->Hp->VK->Prop)(t:TA):TE:=λσ H Q=>t σ H λvs H1=>r vs H1 Q
theorem As(hc:Co X 9#6 r)(hg:Gl X x)(hm:X.mg x=none)(hv:bootBuiltins x=some 9#6)(ha:PA X (e::es) t)(hn:x≠"__name__":=by decide)(hdb:(x==("__debug__":Str))=false:=by decide)
  (he:starEach (e::es) 1#2=(false,eval e 1#2)::starEach es 1#2:=by rfl) (hpl:(backTo pos 4#2).any (·.1)=false:=by rfl):PE X (.Call 18#2 (e::es) [] pos) (ZD r t):=by
 intro ad s σ H Q I h;refine wpAny_Call_Name_kw (Cq I hg hm hv ?_ hn hdb);exact PyProof.Rows.callWith_builtin1 (BM (ha pos ad s σ H _ I h) λus s1 ⟨vs,H1,I1,r1,q1⟩=>hc ad s1 σ H1 vs us Q I1 r1 q1) he hpl
theorem FJ(hc:Co X (.type T) r)(hg:Gl X x)(hm:X.mg x=none)(hv:bootBuiltins x=some (.type T))(ha:PA X (e::es) t)(hn:x≠"__name__":=by decide)(hdb:(x==("__debug__":Str))=false:=by decide)
  (he:starEach (e::es) 1#2=(false,eval e 1#2)::starEach es 1#2:=by rfl) (hpl:(backTo pos 4#2).any (·.1)=false:=by rfl):PE X (.Call 18#2 (e::es) [] pos) (ZD r t):=by
 intro ad s σ H Q I h;refine wpAny_Call_Name_kw (Cq I hg hm hv ?_ hn hdb);exact dh (BM (ha pos ad s σ H _ I h) λus s1 ⟨vs,H1,I1,r1,q1⟩=>hc ad s1 σ H1 vs us Q I1 r1 q1) he hpl
end
end L2
namespace HT
open PySem PyProof.Rows
noncomputable def Dz:qW->qW->Bool
 |[],[]=>false
 |[],_::_=>true
 |_::_,[]=>false
 |x::xs,y::ys=>if x=y then Dz xs ys else decide (x<y)
theorem NP(x y:Int)(xs ys:qW):Dz (x::xs) (y::ys)=if x=y then Dz xs ys else decide (x<y):=rfl
theorem Ji:Dz [] []=false:=rfl
theorem IS(y:Int)(ys:qW):Dz [] (y::ys)=true:=rfl
theorem IT(x:Int)(xs:qW):Dz (x::xs) []=false:=rfl
section
variable{prog:qT}{w:qU}{A:Around}{E:qQ->qS->Prop}{s:qS}
theorem Uc{t b:qR}{vs ws:List qQ}{Q:qQ->qS->Prop}(ht:IsTup s.heap t 4#5)(hb:IsTup s.heap b ws.toArray)(hv:vs≠[])
  (h1:ws=[]->Q (.ref t) s) (h2:ws≠[]->Q 13#1 {s with heap:=s.heap.push {cls:=.type "tuple",data:=.seq (vs++ws).toArray}})
  (hsz:3#2+ws.length<=sizeLine):wpAny 0#3 A (binaryOp .Add (.ref t) 11#4) Q E s:=by
 rcases id ht with⟨⟨cls,dd,data,sl⟩,ho,hc,n,hd⟩;rcases id hb with⟨⟨cls2,dd2,data2,sl2⟩,ho2,hc2,n2,hd2⟩;simp only at hc hd hc2 hd2;subst hc hd hc2 hd2;have e:4#5++ws.toArray=(vs++ws).toArray:=by simp
 by_cases hw:ws=[]
 ·exact concat_meets ⟨_,ho,rfl⟩ ⟨_,ho2,rfl⟩ noFill_tuple_add seq_tuple_add PySem.F.slot_tuple_add PySem.F.entry_tuple_add (PySem.F.args_tuple_add_2 _ _)
   (tuple_addW1 t b vs.toArray ws.toArray n n2 dd dd2 sl sl2 (by simpa using hv) (by simp[hw])) ⟨ho,ho2,h1 hw⟩
 ·refine concat_meets ⟨_,ho,rfl⟩ ⟨_,ho2,rfl⟩ noFill_tuple_add seq_tuple_add PySem.F.slot_tuple_add PySem.F.entry_tuple_add (PySem.F.args_tuple_add_2 _ _)
   (tuple_addW2 t b vs.toArray ws.toArray n n2 dd dd2 sl sl2 (by simpa using hv) (by simpa using hw) (by rw[6#2,6#2];exact hsz)) ⟨ho,ho2,?_⟩
  rw[e];exact h2 hw
noncomputable def Jj(n d:Nat):Option Int->Nat
 |none=>d
 |some v=>if v<0 then (v+(n:Int)).toNat else min v.toNat n
end
end HT
namespace L2
open PySem PySem.Spec PyProof.Rows
variable{H:Hp}{es:List Expr}{j t':Nat}{name:Str}{ad:List (qR×Obj)}{s:qS}{te to:TE}{u:qQ}{us:List qQ}{xs:List V}{α:Type}{σ:St}
abbrev TO:=St->Hp->(Option Int->Hp->Prop)->Prop
def PO(X:Cx)(e:Option Expr)(t:TO):Prop:=
 ∀(ad:List (qR×Obj)) (s:qS) (σ:St) (H:Hp) (Q:Option Int->Hp->Prop),AY X ad σ H s->t σ H Q ->
  wpAny 0#4 X.A (evalPart e 1#2) (λu s'=>∃o H',AY X ad σ H' s'/\IsPart u o/\Q o H') X.xe s
def Km:TO:=λ_ H Q=>Q none H
def Vr(t:TE):TO:=λσ H Q=>t σ H λx H1=>∃i,x=.int i/\Q (some i) H1
theorem IU{ns:qW}:∀{us:List qQ},Av 1#8 us->IntsAre us ns:=by
 induction ns with
 |nil=>intro us r;rw[ir]at r;cases r;exact .nil
 |cons n ns ih =>
  intro us r;rw[d9]at r;cases r with
  |cons r1 r2 =>
   obtain⟨t,e⟩:=r1;subst e;exact .cons n t (ih r2)
section
variable{X:Cx}{e:Expr}{lo hi:Option Expr}{tl th:TO}{pos p2:Pos}
theorem GG:PO X none Km:=by intro ad s σ H Q I h;rw[evalPart_none];exact qD ⟨none,H,I,.none,h⟩
theorem EL(h:PE X e te):PO X (some e) (Vr te):=by intro ad s σ H Q I hw;rw[evalPart_some];refine BM (h ad s σ H _ I hw) λu s1 z9=>?_;obtain⟨x,H1,I1,r1,q1⟩:=z9;obtain⟨i,rfl,q⟩:=q1;obtain⟨t,rfl⟩:=r1;exact⟨some i,H1,I1,.int i t,q⟩
def cN(X:Cx)(r:V->Option Int->Option Int->Hp->VK->Prop):Prop:=
 ∀(ad:List (qR×Obj)) (s:qS) (σ:St) (H:Hp) (x:V) (v vl vu:qQ) (lo hi:Option Int) (sl:qR) (Q:VK),AY X ad σ H s->Az x v->s.heap.IsSliceOf sl vl vu .none->IsPart vl lo->IsPart vu hi->r x lo hi H Q ->
  ∃T id,typeLookup (.type T) "__getitem__"=pure (some 9#6)/\s.TypeIs v T/\wpAny 0#4 X.A (getItem v (.ref sl)) 5#9 X.xe s
def cO(r:V->Option Int->Option Int->Hp->VK->Prop)(te:TE)(tl th:TO):TE:=λσ H Q=>te σ H λx H1=>tl σ H1 λl H2=>th σ H2 λu H3=>r x l u H3 Q
theorem D0{r:V->Option Int->Option Int->Hp->VK->Prop}(hr:cN X r)(he:PE X e te)(hl:PO X lo tl)(hu:PO X hi th):PE X (.Subscript e (.Slice lo hi none p2) pos) (cO r te tl th):=by
 intro ad s σ H Q I h;refine Subscript_ (BM (he ad s σ H _ I h) λv s1 z9=>?_);obtain⟨x,H1,I1,r1,q1⟩:=z9;refine wpAny_Slice (BM (hl ad s1 σ H1 _ I1 q1) λvl s2 ⟨l,H2,I2,pl,q2⟩=>BM (hu ad s2 σ H2 _ I2 q2) λvu s3 z9=>?_);obtain⟨u,H3,I3,pu,q3⟩:=z9;rw[evalPart_none];refine qD ?_;have I4:AY X ad σ H3 {s3 with heap:=s3.heap.push {cls:=.type "slice",data:=.fields #[vl,vu,.none]}}:=I3.kept (t':=s3.toks) λb ob q=>cm _ q
 obtain⟨T,id,hT,ht,hg⟩:=hr ad {s3 with heap:=s3.heap.push {cls:=.type "slice",data:=.fields #[vl,vu,.none]}} σ H3 x v vl vu l u s3.heap.objs.size Q I4 r1 (Heap.IsSliceOf.new ..) pl pu q3;show wpAny 0#4 X.A (subscriptTail e (.Slice lo hi none p2) v (.ref s3.heap.objs.size)) 5#9 X.xe {s3 with heap:=s3.heap.push {cls:=.type "slice",data:=.fields #[vl,vu,.none]}};exact tail_any (ops:=[.ref s3.heap.objs.size,v]) ht hT hg (by with_unfolding_all rfl)
noncomputable def Kn(xs:List V)(lo hi:Option Int):List V:=(xs.drop (HT.Jj xs.length 0 lo)).take (HT.Jj xs.length xs.length hi-HT.Jj xs.length 0 lo)
theorem LS(xs:List V)(lo hi:Option Int):(Kn xs lo hi).length<=0#7:=by unfold Kn;rw[dN,dJ];lia
def Vs(K:qV):R2:=λx y H Q=>∃a b xs ys,x=.ref a/\y=.ref b/\Ai K H a xs/\Ai K H b ys/\xs≠[]/\0#7+10#9<=sizeLine /\
 (ys=[]->Q 2#6 H)/\(ys≠[]->∀p,H p=none->Q 1#5 (AZ H p (.tup (xs++ys))))
theorem Av.nil_iff(r:Av xs us):us=[]↔xs=[]:=by
 cases r with
 |nil=>simp
 |cons _ _=>simp
theorem Ud:Es X (binaryOp .Add) (Vs X.K):=by intro ad s σ H x y v u Q I rx ry h;obtain⟨a,b,xs,ys,rfl,rfl,ha,hb,hx,hz,q1,q2⟩:=h;cases rx;cases ry;obtain⟨its,r1,p1,_⟩:=I.tuple ha;obtain⟨its2,r2,p2,_⟩:=I.tuple hb;refine HT.Uc p1 p2 (λz=>hx (r1.nil_iff.mp z)) (λz=>⟨.ref a,H,I,rfl,q1 (r2.nil_iff.mp z)⟩) (λz=>?_) (by rw[<-r1.length,<-r2.length];exact hz);refine⟨.ref 0#1,_,I.laid (t':=5#2) (o:=.tup (xs++ys)) (λb ob q=>cm _ q) (cj _) ?_,rfl,q2 (λw=>z (r2.nil_iff.mpr w)) _ (I.hok.fresh (cj _))⟩;exact⟨by rw[cg];exact hz,_,r1.append r2,IsTup.new _ _⟩
end
noncomputable def NF(n:Nat)(i:Int):Option Nat:=if 0<=i then (if i<n then some i.toNat else none) else if -(n:Int)<=i then some (i+n).toNat else none
noncomputable def Jk{α:Type}(xs:List α)(i:Int):Option α:=(NF xs.length i).bind λj=>xs[j]?
theorem Of{n:Nat}{i:Int}(h:NF n i=some j):seqIndex? i n=some j/\j<n/\-(n:Int)<=i/\i<n:=by
 unfold NF at h
 by_cases h0:0<=i
 ·rw[qF h0]at h
  by_cases h1:i<n
  ·rw[qF h1]at h;have e:i.toNat=j:=Option.some.inj h;exact⟨by rw[seqIndex_of h0 h1,e],by lia,by lia,h1⟩
  ·rw[qE h1]at h;cases h
 ·rw[qE h0]at h
  by_cases h1:-(n:Int)<=i
  ·rw[qF h1]at h;have e:(i+n).toNat=j:=Option.some.inj h;exact⟨by rw[seqIndex_neg (by lia) h1,e],by lia,h1,by lia⟩
  ·rw[qE h1]at h;cases h
theorem Og{xs:List α}{i:Int}{v:α}(h:Jk xs i=some v):∃j,seqIndex? i 0#7=some j/\xs[j]?=some v/\j<0#7/\-(0#7:Int)<=i/\i<0#7:=by
 unfold Jk at h;cases e:NF xs.length i with
 |none=>rw[e]at h;cases h
 |some j =>
  rw[e]at h;obtain⟨h1,h2,h3,h4⟩:=Of e;exact⟨j,h1,h,h2,h3,h4⟩
theorem CS{xs:List α}{v:α}(h:xs[j]?=some v):Jk xs (j:Int)=some v:=by
 have hj:j<0#7:=(cW.mp h).1
 have e:NF xs.length (j:Int)=some j:=by unfold NF;rw[qF (by lia),qF (by lia)];simp
 unfold Jk;rw[e];exact h
def Oh(b:Expr):Prop:=∀o i,subscripted b false o i=operate [o,i] (getItem o i)
def Vt(X:Cx)(r:R2):Prop:=
 ∀(value slice:Expr) (ad:List (qR×Obj)) (s:qS) (σ:St) (H:Hp) (x y:V) (v u:qQ) (Q:VK),AY X ad σ H s->Az x v->Az y u->r x y H Q ->
  subscripted slice false v u=operate [v,u] (getItem v u)->wpAny 0#4 X.A (subscriptTail value slice v u) 5#9 X.xe s
def Yy(X:Cx)(id:String)(r:V->List V->Hp->VK->Prop):Prop:=
 ∀(ad:List (qR×Obj)) (s:qS) (σ:St) (H:Hp) (x:V) (xs:List V) (v:qQ) (us:List qQ) (Q:VK),AY X ad σ H s->Az x v->Av xs us->r x xs H Q ->
  wpAny 0#4 X.A (call 9#6 (v::us)) 5#9 X.xe s
variable{ys:List V}{its:List qQ}{T:String}
section
variable{X:Cx}{a b:Expr}{ta tb:TE}{pos:Pos}
theorem AL{r:R2}(hr:Vt X r)(ha:PE X a ta)(hb:PE X b tb)(hs:Oh b):PE X (.Subscript a b pos) (Yw r ta tb):=by intro ad s σ H Q I h;exact Subscript_ (Ws ha hb I h λv u s2 x y H2 I2 rx ry q=>hr a b ad s2 σ H2 x y v u Q I2 rx ry q (hs _ _))
def Ra(K:qV):R2:=λx y H Q=>∃p xs i v,x=.ref p/\y=.int i/\Aa K H p xs/\Jk xs i=some v/\Q v H
def Ue(K:qV):R2:=λx y H Q=>∃p xs i v,x=.ref p/\y=.int i/\Ai K H p xs/\Jk xs i=some v/\Q v H
theorem Oi:Vt X (Ra X.K):=by
 intro value slice ad s σ H x y v u Q I rx ry h hs;rcases h with⟨p,xs,i,z,rfl,rfl,hq,he,q⟩;cases rx;obtain⟨t,rfl⟩:=ry;rcases I.list hq with⟨its,r,pl,hz⟩;rcases Og he with⟨j,h1,h2,h3,h4,h5⟩;obtain⟨w,ew,rw'⟩:=r.get h2;have hl:=7#5;have hn:=Kk;have fin:EP X ad σ Q w s:=⟨z,H,I,rw',q⟩
 by_cases h0:0<=i
 ·have hj:i.toNat=j:=by
   rw[seqIndex_of h0 h5]at h1;exact Option.some.inj h1
  exact item_listR pl.isList h0 (by lia) (by rw[hj];simpa using ew) fin hs
 ·have hj:(i+(2#5:Int)).toNat=j:=by
   rw[seqIndex_neg (by lia) h4]at h1;rw[dR,<-hl];exact Option.some.inj h1
  exact subscriptTail_builtinR (x:=w) pl.isList.typeIs slot_list_getitem.lookup
   (wpAny_getItem_list_neg (Q:=λr s'=>r=w/\EP X ad σ Q r s') pl.isList (by lia) (by rw[6#2]<;>lia) (by lia) (by rw[hj];simpa using ew) ⟨rfl,fin⟩) hs
theorem Rb:Vt X (Ue X.K):=by
 intro value slice ad s σ H x y v u Q I rx ry h hs;obtain⟨p,xs,i,z,rfl,rfl,hq,he,q⟩:=h;cases rx;obtain⟨t,rfl⟩:=ry;obtain⟨its,r,pl,hz⟩:=I.tuple hq;obtain⟨j,h1,h2,h3,h4,h5⟩:=Og he;obtain⟨w,ew,rw'⟩:=r.get h2;have hl:=7#5;have hn:=Kk;have fin:EP X ad σ Q w s:=⟨z,H,I,rw',q⟩
 exact subscriptTail_builtinR (x:=w) pl.typeIs slot_tuple_getitem.lookup
  (getItem_tuple (j:=j) (Q:=λr s'=>r=w/\EP X ad σ Q r s') pl (by lia) (by lia) (by rw[6#2,<-hl];exact h1) (by simpa using ew) ⟨rfl,fin⟩) hs
theorem NQ(its:List qQ)(n j:Nat)(u:qQ):Obj.mapSeq (·.setIfInBounds j u) {cls:=.type "list",data:=.seq its.toArray n}={cls:=.type "list",data:=.seq (its.set j u).toArray n}:=by simp[Obj.mapSeq]
theorem AY.lst{p:qR}(I:AY X ad σ H s)(h:H p=some 3#6):
  ∃(its:List qQ) (n:Nat),Av xs its/\s.heap.get? p=some {cls:=.type "list",data:=.seq its.toArray n}/\0#7<=sizeLine:=by
 rcases I.hok p _ h with⟨z,its,n,r,e⟩;exact⟨its,n,r,e,z⟩
theorem AY.lstUpd{p:qR}{its':List qQ}{n n':Nat}{f:Obj->Obj}(I:AY X ad σ H s)(h:H p=some 3#6)
  (ho:s.heap.get? p=some {cls:=.type "list",data:=.seq its.toArray n}) (hf:f {cls:=.type "list",data:=.seq its.toArray n}={cls:=.type "list",data:=.seq its'.toArray n'}) (r:Av ys its') (hz:10#9<=sizeLine) (t:Nat):
  AY X ad σ (AZ H p (.lst ys)) {s with heap:=s.heap.update p f,toks:=t}:=by
 have e:(s.heap.update p f).get? p=some {cls:=.type "list",data:=.seq its'.toArray n'}:=by rw[gC f ho (by rw[hf]<;>rfl),hf]
 refine I.write (x:=p) (e:=p) (by rw[h];trivial) 4#6 (λb u hb q=>(f8 _ _ (Ne.symm hb)).trans q) ⟨_,e⟩ ?_;exact⟨hz,its',n',r,e⟩
def ZE:V->V->V->Hp->(Hp->Prop)->Prop:=λo i v H Q=>∃p xs k j,o=.ref p/\i=.int k/\H p=some 3#6/\NF xs.length k=some j/\Q (AZ H p (.lst (xs.set j v)))
theorem LU:Y9 X ZE:=by
 intro ad s σ H o i v ov iv u Q I ro ri rv h;rcases h with⟨p,xs,k,j,rfl,rfl,hp,hj,q⟩;cases ro;obtain⟨t,rfl⟩:=ri;rcases I.lst hp with⟨its,n,r,ho,hz⟩;rcases Of hj with⟨h1,h2,h3,h4⟩;have hl:=7#5;have hn:=Kk
 have I':AY X ad σ (AZ H p (.lst (xs.set j v))) {s with heap:=s.heap.update p (Obj.mapSeq (·.setIfInBounds j u))}:=
  I.lstUpd hp ho (NQ its n j u) (r.set rv j) (by rw[hZ];exact hz) 5#2
 by_cases h0:0<=k
 ·have hk:k.toNat=j:=by
   rw[seqIndex_of h0 h4]at h1;exact Option.some.inj h1
  exact PySem.W.ki_setAt ho h0 (by lia) (by rw[dR,<-hl];exact h4) (by rw[hk];exact⟨_,I',q⟩)
 ·have hk:(k+(2#5:Int)).toNat=j:=by
   rw[seqIndex_neg (by lia) h3]at h1;rw[dR,<-hl];exact Option.some.inj h1
  exact PySem.W.ki_setBack ho (by lia) (by rw[dR,<-hl];exact h3) (by lia) (by rw[hk];exact⟨_,I',q⟩)
theorem Ko(lo hi:Option Int)(n:Nat):(sliceBounds lo hi none n).1=((HT.Jj n 0 lo:Nat):Int)/\(sliceBounds lo hi none n).2.1=((HT.Jj n n hi:Nat):Int)/\(sliceBounds lo hi none n).2.2=1:=by
 refine⟨?_,?_,rfl⟩
 ·cases lo with
  |none=>simp[sliceBounds,HT.Jj]
  |some i =>
   simp only[sliceBounds,HT.Jj,Option.getD_none,show (1:Int)>0 by decide,if_true]
   by_cases h:i<0
   ·simp only[h,if_true]<;>lia
   ·simp only[h,if_false]<;>lia
 ·cases hi with
  |none=>simp[sliceBounds,HT.Jj]
  |some i =>
   simp only[sliceBounds,HT.Jj,Option.getD_none,show (1:Int)>0 by decide,if_true]
   by_cases h:i<0
   ·simp only[h,if_true]<;>lia
   ·simp only[h,if_false]<;>lia
theorem Jl(its:List qQ)(lo hi:Option Int):slicePick its.toArray lo hi none=((its.drop (HT.Jj its.length 0 lo)).take (HT.Jj its.length its.length hi-HT.Jj its.length 0 lo)).toArray:=by obtain⟨h1,h2,h3⟩:=Ko lo hi 2#5;unfold slicePick;rw[h1,h2,h3];simp only[sliceRange_one,pick_run,List.size_toArray]<;>rfl
def ZF(K:qV):V->Option Int->Option Int->Hp->VK->Prop:=λx lo hi H Q=>∃a xs,x=.ref a/\Aa K H a xs/\∀p,H p=none->Q 1#5 (AZ H p (.lst (Kn xs lo hi)))
theorem FK:cN X (ZF X.K):=by intro ad s σ H x v vl vu lo hi sl Q I rx hs pl pu h;rcases h with⟨a,xs,rfl,hx,q⟩;cases rx;rcases I.list hx with⟨its,r,ht,hz⟩;have hlen:=7#5;refine⟨"list",_,slot_list_getitem.lookup,ht.isList.typeIs,?_⟩;refine wpAny_getItem_list_slice ht.isList hs pl pu .none (by simp) ?_ (by rw[6#2]<;>lia);rw[Jl,<-hlen];refine⟨.ref 0#1,_,I.laid (t':=5#2) (o:=.lst (Kn xs lo hi)) (λb ob q=>cm _ q) (cj _) ?_,rfl,q _ (I.hok.fresh (cj _))⟩;exact⟨dM (LS xs lo hi) hz,_,0,(r.drop (HT.Jj xs.length 0 lo)).take (HT.Jj xs.length xs.length hi-HT.Jj xs.length 0 lo),c9 _ rfl⟩
noncomputable def HL:V->Bool
 |.non=>true
 |.bl _=>true
 |.int _=>true
 |.str _=>true
 |_=>false
noncomputable def Vu:V->V->Bool
 |.non,.non=>true
 |.bl a,.bl b=>a==b
 |.bl a,.int b=>(if a then 1 else 0)==b
 |.int a,.bl b=>a==(if b then 1 else 0)
 |.int a,.int b=>a==b
 |.str a,.str b=>a==b
 |_,_=>false
theorem Wz{A:Around}{y x:V}{v:qQ}(ry:Az y u)(rx:Az x v)(fy:HL y=true)(fx:HL x=true):SeqAt.EqAt A s u v (Vu y x):=by
 cases y with
 |non =>
  cases ry;cases x with
  |non=>cases rx;exact SeqAt.EqAt.same _
  |bl b=>cases rx;exact SeqAt.EqAt.none_bool b
  |int b=>obtain⟨t,rfl⟩:=rx;exact SeqAt.EqAt.none_int b t
  |str b=>obtain⟨t,rfl⟩:=rx;exact SeqAt.EqAt.none_str b t
  |_=>exact qG (show false=true from fx) c7
 |bl a =>
  cases ry;cases x with
  |non=>cases rx;exact SeqAt.EqAt.bool_none a
  |bl b=>cases rx;exact SeqAt.EqAt.bool_bool a b
  |int b=>obtain⟨t,rfl⟩:=rx;exact SeqAt.EqAt.bool_int a b t
  |str b=>obtain⟨t,rfl⟩:=rx;exact SeqAt.EqAt.bool_str a b t
  |_=>exact qG (show false=true from fx) c7
 |int a =>
  obtain⟨t',rfl⟩:=ry;cases x with
  |non=>cases rx;exact SeqAt.EqAt.int_none a t'
  |bl b=>cases rx;exact SeqAt.EqAt.int_bool a t' b
  |int b=>obtain⟨t,rfl⟩:=rx;exact SeqAt.EqAt.int_int a t' b t
  |str b=>obtain⟨t,rfl⟩:=rx;exact SeqAt.EqAt.int_str a t' b t
  |_=>exact qG (show false=true from fx) c7
 |str a =>
  obtain⟨t',rfl⟩:=ry;cases x with
  |non=>cases rx;exact SeqAt.EqAt.str_none a t'
  |bl b=>cases rx;exact SeqAt.EqAt.str_bool a t' b
  |int b=>obtain⟨t,rfl⟩:=rx;exact SeqAt.EqAt.str_int a t' b t
  |str b=>obtain⟨t,rfl⟩:=rx;exact SeqAt.EqAt.str_str a t' b t
  |_=>exact qG (show false=true from fx) c7
 |_=>exact qG (show false=true from fy) c7
noncomputable def Uf(x:V)(u:qQ):Bool:=match u with
 |.none=>Vu .non x
 |.bool b=>Vu (.bl b) x
 |.int i _=>Vu 8#3 x
 |.str z _=>Vu (.str z) x
 |_=>false
theorem Rc{x y:V}(r:Az y u)(f:HL y=true):Uf x u=Vu y x:=by
 cases y with
 |non=>cases r;rfl
 |bl b=>cases r;rfl
 |int i=>obtain⟨t,rfl⟩:=r;rfl
 |str z=>obtain⟨t,rfl⟩:=r;rfl
 |_=>exact qG (show false=true from f) c7
theorem Kp{x:V}:∀{xs:List V} {us:List qQ},Av xs us->xs.all HL=true->us.any (Uf x)=xs.any λy=>Vu y x
 |_,_,.nil,_=>rfl
 |y::xs,u::us,.cons r t,f=>by rw[List.all_cons,eO]at f;rw[gW,gW,Rc r f.1,Kp t f.2]
theorem IV{A:Around}{x:V}{v:qQ}(rx:Az x v)(fx:HL x=true):∀{xs:List V} {us:List qQ},Av xs us->xs.all HL=true->∀u∈us,SeqAt.EqAt A s u v (Uf x u)
 |_,_,.nil,_=>λu hu=>by cases hu
 |y::xs,u::us,.cons r t,f=>λu' hu=>by
  rw[List.all_cons,eO]at f;rcases dD.mp hu with rfl|hu
  ·rw[Rc r f.1];exact Wz r rx f.1 fx
  ·exact IV rx fx t f.2 u' hu
noncomputable def Yz(x:V)(xs:List V):Bool:=xs.any λy=>Vu y x
def cS(K:qV)(neg:Bool):R2:=λx y H Q=>∃p xs,y=.ref p/\(Aa K H p xs\/Ai K H p xs)/\HL x=true/\xs.all HL=true/\Q (.bl (if neg then !Yz x xs else Yz x xs)) H
theorem QP:Es X (compareOp .In) (cS X.K false):=by
 intro ad s σ H x y v u Q I rx ry h;rcases h with⟨p,xs,rfl,hq,fx,fs,q⟩;cases ry;rcases hq with hq|hq
 ·rcases I.list hq with⟨its,r,pl,hz⟩;refine SeqAt.in_listAt (Uf x) pl.isList (λw hw=>IV rx fx r fs w (by simpa using hw)) ⟨.bl _,H,I,rfl,?_⟩;rw[show its.toArray.any (Uf x)=its.any (Uf x) by simp,Kp r fs];exact q
 ·rcases I.tuple hq with⟨its,r,pl,hz⟩;refine SeqAt.in_tupleAt (Uf x) pl (λw hw=>IV rx fx r fs w (by simpa using hw)) ⟨.bl _,H,I,rfl,?_⟩;rw[show its.toArray.any (Uf x)=its.any (Uf x) by simp,Kp r fs];exact q
theorem GH:Co X (.builtin "len") (λxs H Q=>∃p ys,xs=[.ref p]/\(Aa X.K H p ys\/Ai X.K H p ys)/\Q (.int 10#9) H):=by
 intro ad s σ H xs us Q I r h;rcases h with⟨p,ys,rfl,hq,q⟩;obtain⟨u,rfl,rx⟩:=Et r;cases rx;have hn:=Kk;rcases hq with hq|hq
 ·rcases I.list hq with⟨its,r',pl,hz⟩;have hlen:=r'.length;exact Calls.call_len_list pl.isList (by simp only[List.size_toArray]<;>lia) ⟨.int 10#9,H,I.tok _,⟨5#2+1,by rw[6#2,hlen]⟩,q⟩
 ·rcases I.tuple hq with⟨its,r',pl,hz⟩;have hlen:=r'.length;exact len_tuple pl (by simp only[List.size_toArray]<;>lia) ⟨.int 10#9,H,I.tok _,⟨5#2+1,by rw[6#2,hlen]⟩,q⟩
theorem Kq:Co X (.type "list") (λxs H Q=>∃p ys,xs=[.ref p]/\(Aa X.K H p ys\/Ai X.K H p ys)/\∀l,H l=none->Q 16#8 (AZ H l (.lst ys))):=by
 intro ad s σ H xs us Q I r h;rcases h with⟨p,ys,rfl,hq,q⟩;obtain⟨u,rfl,rx⟩:=Et r;cases rx
 have fin:∀(its:List qQ),Av ys its->10#9<=sizeLine->∀(h':Heap) (c':Nat),(∀b o',s.heap.get? b=some o'->h'.get? b=some o') ->
   h'.get? 0#1=some {cls:=.type "list",dict:=none,data:=.seq its.toArray c',slots:=#[]}->EP X ad σ Q 13#1 {s with heap:=h'}:=λits r' hz h' c' kp e =>
  ⟨.ref 0#1,_,I.laid (t':=5#2) kp (cj _) (show Aq X.prog X.w _ h' _ (.lst ys) from⟨hz,its,c',r',e⟩),rfl,q _ (I.hok.fresh (cj _))⟩
 rcases hq with hq|hq
 ·rcases I.list hq with⟨its,r',pl,hz⟩;have hlen:=r'.length;rcases pl.isList with⟨o,ho,hc,n,hd⟩;exact call_list_seq p 4#6 ho hc hd (λh' c' kp e=>fin its r' hz h' c' kp e) (by simp only[List.size_toArray]<;>lia)
 ·rcases I.tuple hq with⟨its,r',pl,hz⟩;have hlen:=r'.length;rcases pl with⟨o,ho,hc,n,hd⟩;exact call_list_seq p (.inr rfl) ho hc hd (λh' c' kp e=>fin its r' hz h' c' kp e) (by simp only[List.size_toArray]<;>lia)
theorem Fi:Co X (.type "tuple") (λxs H Q=>∃p ys,xs=[.ref p]/\((Aa X.K H p ys/\∀l,H l=none->Q 16#8 (AZ H l (.tup ys)))\/(Ai X.K H p ys/\Q 1#5 H))):=by
 intro ad s σ H xs us Q I r h;obtain⟨p,ys,rfl,h⟩:=h;obtain⟨u,rfl,rx⟩:=Et r;cases rx;rcases h with⟨hq,q⟩|⟨hq,q⟩
 ·obtain⟨its,r',pl,hz⟩:=I.list hq;have hlen:=r'.length;refine call_tuple_list pl.isList (λh' kp=>?_) (by simp only[List.size_toArray]<;>lia);have I1:AY X ad σ H {s with heap:=h'}:=I.kept (t':=5#2) kp
  have I2:AY X ad σ (AZ H h'.objs.size (.tup ys)) {s with heap:=h'.push {cls:=.type "tuple",data:=.seq 5#5}}:=
   I1.laid (t':=5#2) (λb o e=>cm _ e) (cj _) (show Aq X.prog X.w _ _ _ (.tup ys) from⟨hz,its,r',IsTup.new _ _⟩)
  exact⟨.ref 11#8,_,I2,rfl,q _ (I1.hok.fresh (cj _))⟩
 ·obtain⟨its,r',pl,hz⟩:=I.tuple hq;exact call_tuple_same pl ⟨.ref p,H,I,rfl,q⟩
def ao(K:qV)(T:String)(x:V)(H:Hp):Prop:=match x with
 |.str _=>T="str"
 |.int _=>T="int"
 |.ref p=>(T="list"/\∃xs,Aa K H p xs)\/(T="tuple"/\∃o,K.lookup p=some o/\o.cls=.type "tuple"/\o.dict=none) \/
   (T="dict"/\((∃kvs,H p=some 5#1)\/∃kvs,H p=some 19#5))\/(T="set"/\∃S n,H p=some (.set S n))
 |_=>False
theorem Re{x:V}{v:qQ}(I:AY X ad σ H s)(r:Az x v)(ty:ao X.K T x H):
  s.TypeIs v T/\∀a,v=.ref a->∃ob,s.heap.get? a=some ob/\ob.dict=none:=by
 cases x with
 |str z =>
  obtain⟨t,rfl⟩:=r;cases (show T="str" from ty);exact⟨typeIs_str s z t,λ_ e=>nomatch e⟩
 |int i =>
  obtain⟨t,rfl⟩:=r;cases (show T="int" from ty);exact⟨typeIs_int s i t,λ_ e=>nomatch e⟩
 |ref p =>
  cases r;rcases ty with⟨rfl,xs,hq⟩|⟨rfl,o,hk,hc,hd⟩|⟨rfl,hk⟩|⟨rfl,S,n,hk⟩
  ·rcases I.list hq with⟨its,_,pl,_⟩;refine⟨pl.isList.typeIs,λa e=>?_⟩;cases e;rcases pl with⟨o,n,e,c,hd,_⟩;exact⟨o,e,hd⟩
  ·refine⟨⟨o,I.kIn p o hk,hc⟩,λa e=>?_⟩;cases e;exact⟨o,I.kIn _ o hk,hd⟩
  ·have z:∃o,s.heap.get? p=some o/\o.ExactDict:=by
    rcases hk with⟨kvs,hk⟩|⟨kvs,hk⟩
    ·rcases I.hok p _ hk with⟨_,_,_,_,o,_,_,e,ex,_⟩;exact⟨o,e,ex⟩
    ·rcases I.hok p _ hk with⟨_,_,_,_,o,_,_,e,ex,_⟩;exact⟨o,e,ex⟩
   obtain⟨o,e,ex⟩:=z;refine⟨⟨o,e,ex.1⟩,λa e2=>?_⟩;cases e2;exact⟨o,e,ex.2.1⟩
  ·rcases I.hok p _ hk with⟨o,_,_,_,e,ex,_⟩;refine⟨⟨o,e,ex.1⟩,λa e2=>?_⟩;cases e2;exact⟨o,e,ex.2.1⟩
 |_=>exact False.elim ty
def bF(K:qV)(T:String)(r:V->List V->Hp->VK->Prop)(to:TE):TE:=λσ H Q=>to σ H λx H1=>ao K T x H1/\r x [] H1 Q
def bG(K:qV)(T:String)(r:V->List V->Hp->VK->Prop)(to:TE)(t:TA):TE:=λσ H Q=>to σ H λx H1=>ao K T x H1/\t σ H1 λxs H2=>r x xs H2 Q
variable{o e:Expr}{t:TA}{apos cpos:Pos}{id:String}{r:V->List V->Hp->VK->Prop}
theorem W0(pa:PlainAttrs T)(slot:Slot T name id)(hty:typeOf 9#6=pure (.type "method_descriptor"))(hm:Yy X id r)(ho:PE X o to)
  (hbase:attributeBase o name X.env 14#8=eval o 1#2:=by rfl) (hline:(18#4==cpos.line)=true:=by rfl):PE X (.Call 19#7 [] [] cpos) (bF X.K T r to):=by
 intro ad s σ H Q I h;refine wpAny_Call_method0_late hbase hline (BM (ho ad s σ H _ I h) λv s1 z9=>?_);obtain⟨x,H1,I1,r1,ty,q1⟩:=z9;obtain⟨h1,h2⟩:=Re I1 r1 ty;exact⟨T,id,pa,slot,hty,h1,h2,Calls.callWith_builtin rfl (PySem.evalArgs_none (hm ad s1 σ H1 x [] v [] Q I1 r1 .nil q1))⟩
theorem IW(pa:PlainAttrs T)(slot:Slot T name id)(hty:typeOf 9#6=pure (.type "method_descriptor"))(hm:Yy X id r)(ho:PE X o to)(ha:PA X (e::es) t)
  (hbase:attributeBase o name X.env 14#8=eval o 1#2:=by rfl)
  (hfew:((backTo cpos (starEach (e::es) 1#2)).all (λx=>!x.1)&&(backToKw cpos (keywordEach [] 1#2)).all (λx=>x.1.isSome)
   && decide ((e::es).length+([]:List Keyword).length+(if ([]:List Keyword).isEmpty then 0 else 1)<30))=true:=by rfl)
  (hline:(18#4==cpos.line)=true:=by rfl) (hs:starEach (e::es) 1#2=(false,eval e 1#2)::starEach es 1#2:=by rfl) (hplain:(backTo cpos 4#2).any (·.1)=false:=by rfl):
  PE X (.Call 19#7 (e::es) [] cpos) (bG X.K T r to t):=by
 intro ad s σ H Q I h;refine wpAny_Call_method_late hbase hfew hline rfl (BM (ho ad s σ H _ I h) λv s1 z9=>?_);obtain⟨x,H1,I1,r1,ty,q1⟩:=z9;obtain⟨h1,h2⟩:=Re I1 r1 ty;refine⟨T,id,pa,slot,hty,h1,h2,?_⟩;have hA:=ha cpos ad s1 σ H1 _ I1 q1;rw[hs]at hA⊢;refine Calls.callWith_builtin (by show (false||(backTo cpos (starEach es X.env)).any (·.1))=false;rw[hplain]<;>rfl) (Calls.evalArgs_plain ?_);exact BM hA λus s2 ⟨vs,H2,I2,r2,q2⟩=>hm ad s2 σ H2 x vs v us Q I2 r1 r2 q2
end
def bH(X:Cx)(id:String)(r:V->List V->Hp->VK->Prop):Prop:=
 ∀(ad:List (qR×Obj)) (s:qS) (σ:St) (H:Hp) (x:V) (xs:List V) (v:qQ) (us:List qQ) (Q:VK),AY X ad σ H s->Az x v->Av xs us->r x xs H Q ->
  wpAny 0#4 X.A (call 9#6 (v::us)) 5#9 X.xe s
theorem Av.one:∀{x:V} {us:List qQ},Av [x] us->∃u,us=[u]/\Az x u:=by
 intro _ _ r;cases r with
 |cons r t=>cases t;exact⟨_,rfl,r⟩
theorem Av.zero:∀{us:List qQ},Av [] us->us=[]
 |_,.nil=>rfl
theorem Av.dropLast(h:Av xs us):Av xs.dropLast us.dropLast:=by
 induction h with
 |nil=>exact .nil
 |cons r t ih =>
  cases t with
  |nil=>exact .nil
  |cons q t'=>exact .cons r ih
theorem Av.reverse(h:Av xs us):Av xs.reverse us.reverse:=by
 induction h with
 |nil=>exact .nil
 |cons r t ih=>rw[List.reverse_cons,List.reverse_cons];exact Av.append ih (.cons r .nil)
theorem Av.rep(h:Av xs us):∀k:Nat,Av (List.replicate k xs).flatten (List.replicate k us).flatten
 |0=>.nil
 |k+1=>by rw[fW,fW,iG,iG];exact Av.append h (Av.rep h k)
theorem NR(l:List α):l.eraseIdx (7#6-1)=l.dropLast:=by
 induction l with
 |nil=>rfl
 |cons a r ih =>
  cases r with
  |nil=>rfl
  |cons b r =>
   have e:(a::b::r).length-1=((b::r).length-1)+1:=by have h1:(a::b::r).length=7#5+2:=rfl;have h2:(b::r).length=7#5+1:=rfl;lia
   rw[e,List.eraseIdx_cons_succ,ih]
   all_goals rfl
theorem J3(its:List qQ):∀(k:Nat) (j5:List qQ),
  List.foldl (λx1 x2=>x1++x2) j5.toArray (List.replicate k 5#5)=(j5++(List.replicate k its).flatten).toArray
 |0,j5=>by simp
 |k+1,j5=>by
  have e:j5.toArray++5#5=(j5++its).toArray:=by simp
  have e2:(j5++its)++(List.replicate k its).flatten=j5++(List.replicate (k+1) its).flatten:=by rw[fW,iG,de]
  rw[<-e2,<-J3 its k (j5++its),<-e,fW,List.foldl_cons]
section
variable{X:Cx}{l b:qR}{zs:List V}
theorem AY.lset{its':List qQ}{n:Nat}{f:Array qQ->Array qQ}{t':Nat}(I:AY X ad σ H s)(hH:H l=some 3#6)
  (e:s.heap.get? l=some {cls:=.type "list",data:=.seq its.toArray n}) (hf:f 5#5=its'.toArray) (hv:Av ys its') (hz:10#9<=sizeLine):
  AY X ad σ (AZ H l (.lst ys)) {s with heap:=s.heap.update l (Obj.mapSeq f),toks:=t'}:=by
 have q:=PySem.IsL.update e f;rw[hf]at q;refine I.write (x:=l) (e:=l) (by rw[hH];exact trivial) 4#6 (λb' u hb hu=>(f8 s.heap (Obj.mapSeq f) (Ne.symm hb)).trans hu) ⟨_,q⟩ ?_;exact⟨hz,its',_,hv,q⟩
theorem AY.lnew(I:AY X ad σ H s)(hv:Av ys its)(hz:10#9<=sizeLine):
  AY X ad σ (AZ H s.heap.objs.size (.lst ys)) {s with heap:=s.heap.push {cls:=.type "list",data:=.seq 5#5},toks:=t'}:=
 I.laid (λ_ _ q=>cm _ q) (cj _) ⟨hz,its,0,hv,c9 _ rfl⟩
theorem AY.fresh(I:AY X ad σ H s):H 0#1=none:=I.hok.fresh (cj _)
theorem AY.lstM(I:AY X ad σ H s)(hH:H l=some 3#6):0#7<=sizeLine/\∃(its:List qQ) (n:Nat),Av xs its/\0#7=its.length/\s.heap.get? l=some {cls:=.type "list",data:=.seq its.toArray n}:=by rcases I.hok l _ hH with⟨z,its,n,r,e⟩;exact⟨z,its,n,r,7#5,e⟩
theorem LV{n:Nat}(h:n<=sizeLine):Builtin.List.listTooLong n=false:=by unfold Builtin.List.listTooLong;exact qI (by lia)
end
section
variable{X:Cx}
def Kr:V->List V->Hp->VK->Prop:=λx vs H Q=>∃l xs y,x=.ref l/\vs=[y]/\H l=some 3#6/\0#7<sizeLine/\Q .non (AZ H l (.lst (xs++[y])))
theorem Gk:bH X "list.append" Kr:=by intro ad s σ H x vs v us Q I rx rv h;rcases h with⟨l,xs,y,rfl,rfl,hH,hz,q⟩;cases rx;obtain⟨u,rfl,ru⟩:=rv.one;rcases I.lstM hH with⟨z,its,n,r,hl,e⟩;refine call_meets F.slot_list_append ⟨_,e,rfl⟩ F.entry_list_append (F.args_list_append_2 _ _) (PySem.list_append l its.toArray n u (by rw[dR];lia)) ⟨e,?_⟩;refine⟨.non,_,I.lset (its':=its++[u]) hH e (by simp) (r.append (.cons ru .nil)) ?_,rfl,q⟩;rw[cg,dB];lia
def Ug:V->List V->Hp->VK->Prop:=λx vs H Q=>∃l b xs zs,x=.ref l/\vs=[.ref b]/\H l=some 3#6/\H b=some (.lst zs)/\0#7+zs.length<=sizeLine/\Q .non (AZ H l (.lst (xs++zs)))
theorem FM:bH X "list.extend" Ug:=by
 intro ad s σ H x vs v us Q I rx rv h;rcases h with⟨l,b,xs,zs,rfl,rfl,hH,hB,hz,q⟩;cases rx;obtain⟨u,rfl,ru⟩:=rv.one;cases ru;rcases I.lstM hH with⟨z,its,n,r,hl,e⟩;rcases I.lstM hB with⟨z2,its2,n2,r2,hl2,e2⟩;have hsz:2#5+its2.toArray.size<=sizeLine:=by rw[dR,dR];lia
 have hlong:¬(!its.toArray.isEmpty&&Builtin.List.listTooLong (2#5+its2.toArray.size))=true:=by rw[LV hsz,Bool.and_false];exact c7
 refine call_meets F.slot_list_extend ⟨_,e,rfl⟩ F.entry_list_extend (F.args_list_extend_2 _ _)
  (AutoSeq1.list_extend_list_list_0 l its.toArray n b its2.toArray n2 hlong (by rw[dR];lia) (by lia)) ⟨e,e2,?_⟩
 refine⟨.non,_,I.lset (its':=its++its2) hH e (by simp) (r.append r2) ?_,rfl,q⟩;rw[cg];lia
def bI:V->List V->Hp->VK->Prop:=λx vs H Q=>∃l xs y,x=.ref l/\vs=[]/\H l=some 3#6/\xs[0#7-1]?=some y/\Q y (AZ H l (.lst xs.dropLast))
theorem W1:bH X "list.pop" bI:=by
 intro ad s σ H x vs v us Q I rx rv h;rcases h with⟨l,xs,y,rfl,rfl,hH,hy,q⟩;cases rx;have hus:=rv.zero;subst hus;rcases I.lstM hH with⟨z,its,n,r,hl,e⟩;obtain⟨u,hu,ru⟩:=r.get hy
 have hy':its.toArray[2#5-1]?=some u:=by show its.toArray[its.length-1]?=some u;rw[<-Array.getElem?_toList,<-hl];exact hu
 refine call_meets F.slot_list_pop ⟨_,e,rfl⟩ F.entry_list_pop (F.args_list_pop_1 _) (MeetsSeq.list_pop_last l its.toArray n u hy' (by rw[dR];lia)) ⟨e,?_⟩;refine⟨y,_,I.lset (its':=its.dropLast) hH e ?_ r.dropLast ?_,ru,q⟩
 ·show its.toArray.eraseIdxIfInBounds (2#5-1)=its.dropLast.toArray;rw[dR,List.eraseIdxIfInBounds_toArray,NR]
 ·rw[jE];lia
def ZG:R2:=λx y H Q=>∃l b xs zs,x=.ref l/\y=.ref b/\H l=some 3#6/\H b=some (.lst zs)/\0#7+zs.length<=sizeLine/\∀p,H p=none->Q 1#5 (AZ H p (.lst (xs++zs)))
theorem W2:Es X (binaryOp .Add) ZG:=by
 intro ad s σ H x y v u Q I rx ry h;rcases h with⟨l,b,xs,zs,rfl,rfl,hH,hB,hz,q⟩;cases rx;cases ry;rcases I.lstM hH with⟨z,its,n,r,hl,e⟩;rcases I.lstM hB with⟨z2,its2,n2,r2,hl2,e2⟩;refine PySem.P.add_list e e2 ?_ (by rw[dR,dR];lia);have ea:5#5++its2.toArray=(its++its2).toArray:=by simp
 rw[ea];exact⟨.ref _,_,I.lnew (t':=5#2) (r.append r2) (by rw[cg];lia),rfl,q _ I.fresh⟩
def ZH:R2:=λx y H Q=>∃l k xs,x=.ref l/\y=.int k/\H l=some 3#6/\-(2^63)<=k/\k<2^63/\0#7*k.toNat<=sizeLine /\
 ∀p,H p=none->Q 1#5 (AZ H p (.lst (List.replicate k.toNat xs).flatten))
theorem Uh(xs:List α)(k:Nat):(List.replicate k xs).flatten.length=k*0#7:=by
 induction k with
 |zero=>simp
 |succ k ih=>rw[fW,iG,cg,ih,Nat.succ_mul,iu]
theorem W3:Es X (binaryOp .Mult) ZH:=by
 intro ad s σ H x y v u Q I rx ry h;rcases h with⟨l,k,xs,rfl,rfl,hH,h1,h2,hz,q⟩;cases rx;obtain⟨t,rfl⟩:=ry;rcases I.lstM hH with⟨z,its,n,r,hl,e⟩;have hlen:2#5*k.toNat<=sizeLine:=by rw[dR,<-hl];exact hz
 have hcap:¬2#5*k.toNat>(2^63-1)/8:=by
  have:(sizeLine:Nat)<=(2^63-1)/8:=by decide
  lia
 have hfit:¬(!Builtin.List.listFitsIndex k)=true:=by rw[fitsIndex_both h1 h2];exact c7
 have hlong:¬Builtin.List.listTooLong (2#5*k.toNat)=true:=by rw[LV hlen];exact c7
 have hnew:List.foldl (λx1 x2=>x1++x2) #[] (List.replicate (if its.toArray.isEmpty=true then 0 else k.toNat) 5#5)=(List.replicate k.toNat its).flatten.toArray:=by
  have f0:∀m:Nat,List.foldl (λx1 x2=>x1++x2) #[] (List.replicate m 5#5)=(List.replicate m its).flatten.toArray:=λm=>by have:=J3 its m [];rw[jG]at this;exact this
  rw[f0];cases its with
  |nil=>simp
  |cons a r'=>rw[qE (by simp)]
 refine wpAny_binaryOp_repeat_ref (T:="list") (U:="int") (by decide) ⟨_,e,rfl⟩ (λs'=>typeIs_int s' k t) noFill_list_mul F.fills_int_mul F.slot_int_rmul repeat_list F.slot_int_index.lookup
  (call_meets F.slot_int_rmul (typeIs_int s k t) F.entry_int_rmul (F.args_int_rmul_2 _ _) (int___rmul___int_list k t l its.toArray n)
   ⟨e,rfl,⟨_,e,rfl⟩,call_meets F.slot_list_mul ⟨_,e,rfl⟩ F.entry_list_mul (F.args_list_mul_2 _ _) (AutoListH.list___mul___list_int_3 l its.toArray n k t hfit hcap hlong) ⟨e,?_⟩⟩)
 rw[hnew];exact⟨.ref _,_,I.lnew (t':=5#2) (r.rep k.toNat) (by rw[Uh,gD];exact hz),rfl,q _ I.fresh⟩
end
end L2
namespace Att
open PySem PySem.W PySem.Calls PyProof.Rows
theorem ints_of_wellAll{P:Params}{h:Heap}:∀(ns:qW) (vs:List qQ),WellAll P h vs (ns.map WData.int)->IntsAre vs ns:=by
 intro ns
 induction ns with
 |nil =>
  intro vs w;rw[ir]at w;cases w;exact .nil
 |cons n ns ih =>
  intro vs w;rw[d9]at w;cases w with
  |cons a b =>
   cases a;exact .cons _ _ (ih _ b)
theorem script_of{l:OpenLaw}{n:Nat}(hn:l.most=some n){P:Params}{h:Heap}{args:List WData}{vals:List qQ}
  (hpre:l.row.toRowW.claim.pre args=true) (hwl:WellAll P h vals args):
  ∃a vs ns,vals=[Value.ref a]/\args=[WData.list (ns.map WData.int)]/\h.get? a=some {cls:=.type "list",data:=.seq 4#5}/\IntsAre vs ns/\1#6<=n:=by
 have hsh:WShape.hasAll [] args [.list .int]=true:=(pre_splitW hpre).1;have hc:l.pre.holds [] {args:=args}=true:=(pre_splitW hpre).2;obtain⟨d,r,rfl,h1,h2⟩:=hasAllW_cons hsh;obtain rfl:=hasAllW_nil h2;obtain⟨xs,rfl,h3⟩:=hasW_list h1;obtain⟨ns,rfl⟩:=items_int h3
 have hlen:1#6<=n:=by
  unfold OpenLaw.pre at hc
  have h4:(WTm.not (.lt (.lit (.int (n:Int))) (.len (.arg 0)))).holds [] {args:=[.list (ns.map .int)]}=true:=by have h4:=(holds_andW hc).1;rw[hn]at h4;exact h4
  have h5:=condW_of h4 (w_not (w_lt w_lit (w_len_list (w_arg rfl))));rw[cU]at h5;refine gi λq=>?_;have q':(n:Int)<((1#6:Nat):Int):=by lia
  first
   | (rw[qH q']at h5;exact qG h5 (by decide))
   | (simp at h5;lia)
 cases hwl with
 |cons w1 w2 =>
  cases w2;cases w1 with
  |list ho hall=>exact⟨_,_,ns,rfl,rfl,ho,ints_of_wellAll ns _ hall,hlen⟩
theorem post_true(l:OpenLaw)(args:List WData):l.row.toRowW.claim.post args 10#6 args=true:=
 postW_of (r:=l.row.toRowW) (X:=(true==true))
  (show WShape.has [] 10#6 .bool=true by first|rfl|decide|simp[WShape.has,WShape.arms,WShape.armsAll])
  (show (WTm.eq .res (.lit 10#6)).value [] {args:=args,res:=some 10#6,after:=args}=some (.bool (true==true)) from w_eq_bool (w_res rfl) w_lit) rfl
theorem attach_call{l:OpenLaw}{n:Nat}{q:qT}{loose:List Str}{XP:(Str->Option qQ)->Heap->Prop}{YP:qU->Heap->Prop}{d:DefRec}
  (hn:l.most=some n) (hdf:d.params.defaults=[])
  (call:∀(w:qU) (s₀ s₁:qS) (mg mb:Str->Option qQ) (fa:qR) (o:Obj) (pm cd doc:qQ) (a:qR) (vs:List qQ) (ns:qW),
   Ground q loose [] XP w s₀ mg mb s₁.heap->YP w s₁.heap ->
   s₁.heap.get? fa=some o->9#1=.func (docDef d.name d.params d.body d.scope pm cd doc)->s₁.heap.CodeRec cd d.name->mg d.name=some 19#2 ->
   s₁.heap.get? a=some {cls:=.type "list",data:=.seq 4#5}->IntsAre vs ns->1#6<=n->s₁.gens=#[] ->
   codeAny (model l.prog w) callerA (.call 19#2 ⟨[.ref a],[]⟩) (λr s'=>r=.ok (.ret 10#6)/\OldK s₁.heap 9#9/\s'.os=s₁.os/\AllBare s'.gens) s₁):
  WalkO q loose XP YP l.row.toRowW d [] (λf vs=>PySem.call f vs):=by
 intro w s₀ s₁ mg mb G Y fa o pm cd doc dV kV ho hd hcd hD hmg hg args vals as hpre hlay hrd hwl hlo;obtain rfl:dV=.none:=Dflts.none hD hdf;obtain rfl:kV=.none:=Dflts.noKw hD;obtain⟨a,vs,ns,rfl,rfl,hobj,hints,hlen⟩:=script_of hn hpre hwl;refine enter_call (codeAny_mono (call w s₀ s₁ mg mb fa o pm cd doc a vs ns G Y ho (fd_plain hd) hcd hmg hobj hints hlen hg) λr s' hq=>?_);obtain⟨rfl,h2,h3,h4⟩:=hq;exact⟨.inl ⟨.bool true,.bool true,[],rfl,λ_=>rfl,.bool true,post_true l _,λ_=>⟨List.Pairwise.nil,λ_ hm=>(nomatch hm)⟩⟩,h2,h3,h4⟩
section
variable{prog:qT}{w:qU}{A:Around}{E:qQ->qS->Prop}{s:qS}{K:Frag}
end
end Att
namespace L2
open PySem PySem.Spec PyProof.Rows
variable{H H':Hp}{a:qR}{an od:Option qR}{j6 doc oc:qQ}{fd:FuncData}{ps:List Str}{qual:Str}{xs:List V}
theorem J4:∀{vs:List qQ} {ns:qW},IntsAre vs ns->Av 1#8 vs:=by
 intro _ _ h
 induction h with
 |nil=>exact .nil
 |cons n t _ ih=>exact .cons ⟨t,rfl⟩ ih
def W4(H:Hp):Prop:=∀b,H b=none\/∃o xs,H b=some (.frz o 3#6)
variable{vs:List qQ}
theorem Rf{P:qT}{w:qU}{K:qV}{mg mb:Str->Option qQ}{CX:RJ}{k:Nat}{fa:qR}{fd:FuncData}{x:Str}{sp:Sp}{s₁:qS}{ns:qW}
  (KX:K.In s₁.heap) (hns:s₁.heap.Ns mainGlobals mg) (hb:s₁.heap.Ns builtinsNs mb) (hbb:∀x:Str,x≠"__name__"->mb x=bootBuiltins x) (hlim:s₁.heap.NoLimit) (hg:s₁.gens=#[])
  (ha:s₁.heap.get? a=some {cls:=.type "list",data:=.seq 4#5}) (hi:IntsAre vs ns) (hl:1#6<=sizeLine) (hr:CM k callerA)
  (F:∀base:Heap,K.In base->base.Ns mainGlobals mg->Fu P w K mg base CX k fa fd [x] sp) (hbind:∀(s:qS) (u:qQ),BindsTo s fd ⟨[u],[]⟩ [(x,u)])
  (hsp:∀H:Hp,W4 H->Aa K H a 1#8->sp [.ref a] H (λv _=>v=.bl true) λ_ _ _=>False)
  (hCX:∀H e s',CX [] H s₁ (λ_ _ _=>False) e s'->False):
  codeAny 8#7 callerA (.call 19#2 ⟨[.ref a],[]⟩) (λr s'=>r=.ok (.ret 10#6)/\OldK s₁.heap 9#9/\s'.os=s₁.os/\AllBare s'.gens) s₁:=by
 have rv:=J4 hi;have lenV:=hi.length
 have core:∀H:Hp,W4 H->Aa K H a 1#8->Dx P w H s₁.heap->(∀b,H b≠none->b=a)->(H a≠none->K.lookup a=none) ->
   codeAny 8#7 callerA (.call 19#2 ⟨[.ref a],[]⟩) (λr s'=>r=.ok (.ret 10#6)/\OldK s₁.heap 9#9/\s'.os=s₁.os/\AllBare s'.gens) s₁:=by
  intro H hO hS hok hA hK;have base_of:∀{b:qR} {o:Obj},s₁.heap.get? b=some o->H b=none->(Fp s₁.heap H).get? b=some o:=λe n=>LO e n
  have noA:∀{b:qR} {o:Obj} {es:Array DictEntry} {ep:Nat},s₁.heap.get? b=some o->9#1=.dict es ep->H b=none:=λ{b o es ep} e d=>by
   cases q:H b with
   |none=>rfl
   |some u =>
    have e':b=a:=hA b (by rw[q];simp);subst e';rw[ha]at e;cases e;have d':Data.seq vs.toArray _=Data.dict es ep:=d;cases d'
  have nsK:∀{b:qR} {m:Str->Option qQ},s₁.heap.Ns b m->(Fp s₁.heap H).Ns b m:=λ{b m} ⟨o,es,ep,e,d,r⟩=>⟨o,es,ep,base_of e (noA e d),d,r⟩
  have hKb:K.In 9#8:=λb o e=>base_of (KX b o e) (by
   cases q:H b with
   |none=>rfl
   |some u =>
    have e':b=a:=hA b (by rw[q];simp);subst e';rw[hK (by rw[q];simp)]at e;cases e)
  have hM:Y5 K mg 9#8:=⟨hKb,nsK hns,⟨mb,nsK hb,hbb⟩,let ⟨mc,h1,h2⟩:=hlim;⟨mc,nsK h1,h2⟩⟩;have e0:QN P w K mg 9#8 callerA [] s₁ H:=⟨rfl,hM,λb o e=>OW e,Nat.le_of_eq (Jw _ _),trivial,λb hb=>qG (show b∈([]:List qR) from hb) (by simp),hok,.of_eq hg⟩;refine codeAny_mono ((F _ hKb (nsK hns)).run callerA [] s₁ H ⟨[.ref a],[]⟩ [.ref a] [.ref a] _ _ hr e0 (hbind s₁ 2#6) (.cons rfl .nil) (hsp H hO hS)) λr s' h=>?_;cases r with
  |error e=>exact (hCX H e s' h).elim
  |ok fl =>
   cases fl with
   |next=>exact False.elim h
   |brk=>exact False.elim h
   |cont=>exact False.elim h
   |ret u =>
    rcases h with⟨v,H',os,bare,un,hok',r',q⟩;have q':v=.bl true:=q;subst q';obtain rfl:u=Value.bool true:=r';refine⟨rfl,OldK.of_keep λb o e=>?_,os,bare⟩;cases q:H b with
    |none=>exact un.keep b o e q (by intro z;exact qG (show b∈([]:List qR) from z) (by simp)) (by simp)
    |some u =>
     rcases hO b with z|⟨ob,xs,z⟩
     ·rw[q]at z;cases z
     ·have z2:=un.frzs b ob _ z;obtain⟨e1,_⟩:=hok b _ z;obtain⟨e2,_⟩:=hok' b _ z2;rw[e]at e1;cases e1;exact e2
 cases hk:K.lookup a with
 |some o =>
  have e:=KX a o hk;rw[ha]at e;cases e;refine core (λ_=>none) (λ_=>.inl rfl) (.inr ⟨_,4#5,_,hk,rfl,rfl,rfl,by rw[6#2,lenV];exact hl,by simpa using rv⟩) (λb u z=>by have z':(none:Option HO)=some u:=z;cases z') (λb z=>qG rfl z) λz=>qG rfl z
 |none =>
  refine core (λb=>if b=a then some (.frz {cls:=.type "list",data:=.seq 4#5} (.lst 1#8)) else none) (λb=>?_) (.inl (.inr ⟨{cls:=.type "list",data:=.seq 4#5},qF rfl⟩)) (λb u z=>?_) (λb z=>?_) λ_=>hk
  ·by_cases hb:b=a
   ·exact .inr ⟨_,_,qF hb⟩
   ·exact .inl (qE hb)
  ·by_cases hb:b=a
   ·have z':=(qF hb).symm.trans z;cases z';subst hb;exact⟨ha,by rw[cU];exact hl,vs,_,rv,ha⟩
   ·have z':=(qE hb).symm.trans z;cases z'
  ·by_cases hb:b=a
   ·exact hb
   ·exact qG (qE hb) z
theorem aq{l:PySem.W.OpenLaw}{n k:Nat}{q:qT}{loose:List Str}{XP:(Str->Option qQ)->Heap->Prop}{YP:qU->Heap->Prop}{d:DefRec}{K:Params->qV}{CX:qU->RJ}{sp:qU->Sp}{x:Str}
  (hn:l.most=some n) (hn2:n<=sizeLine) (hdf:d.params.defaults=[]) (hr:CM k callerA)
  (hY:∀(w:qU) (h:Heap),YP w h->(K 16#6).In h)
  (F:∀(w:qU) (mg:Str->Option qQ) (fa:qR) (h:Heap),(K 16#6).In h->h.Ns mainGlobals mg->mg d.name=some 19#2 ->
   ∃fd:FuncData,(∀(s:qS) (u:qQ),BindsTo s fd ⟨[u],[]⟩ [(x,u)]) /\
    ∀base:Heap,(K 16#6).In base->base.Ns mainGlobals mg->Fu l.prog w (K 16#6) mg base (CX w) k fa fd [x] (sp w))
  (hsp:∀(w:qU) (H:Hp) (a:qR) (ns:qW),1#6<=n->W4 H->Aa (K 16#6) H a 1#8->sp w [.ref a] H (λv _=>v=.bl true) λ_ _ _=>False)
  (hCX:∀(w:qU) (H:Hp) (s:qS) (e:qQ) (s':qS),CX w [] H s (λ_ _ _=>False) e s'->False):
  PySem.W.WalkO q loose XP YP l.row.toRowW d [] (λf vs=>PySem.call f vs):=by
 refine Att.attach_call hn hdf λw s₀ s₁ mg mb fa o pm cd doc a vs ns G Y ho hd hcd hmg hobj hints hlen hg=>?_;have KX:=hY w _ Y;obtain⟨fd,hb,hF⟩:=F w mg fa _ KX G.T.g hmg;exact Rf KX G.T.g G.T.b G.T.builtins G.T.nolimit hg hobj hints (dM hlen hn2) hr hF hb (λH hO hS=>hsp w H a ns hlen hO hS) λH e s'=>hCX w H s₁ e s'
def Dm(s:Stmt):Arguments:=match s with
 |.FunctionDef _ a _ _ _ _ _ _ _ _=>a
 |_=>{posonlyargs:=[],args:=[],vararg:=none,kwonlyargs:=[],kw_defaults:=[],kwarg:=none,defaults:=[]}
def Bm(s:Stmt):List Stmt:=match s with
 |.FunctionDef _ _ b _ _ _ _ _ _ _=>b
 |_=>[]
def AH(s:Stmt):Scope:=match s with
 |.FunctionDef _ _ _ _ _ _ sc _ _ _=>sc
 |_=>{kind:=.function,names:=[],isGenerator:=false,isCoroutine:=false}
abbrev E0:XK:=λ_ _ _=>False
structure NG(K:qV)(x qual:Str)(st:Stmt)(f:qR)(fd:FuncData):Prop where
 ex:∃(oc:qQ) (od:Option qR) (kV doc pm:qQ) (an:Option qR) (j6 ct:qQ) (osl:Array (Option qQ)),
  fd=PySem.W.fnOf x qual (Dm st) 17#8 6#6 .none kV doc pm an j6 ct/\K.lookup f=some ⟨oc,od,.func fd,osl⟩/\PySem.W.codeIn K j6 qual=true
 kp:PySem.W.keepIn K 5#7=true
variable{osl:Array (Option qQ)}
section
variable{P:qT}{w:qU}{K:qV}{mg:Str->Option qQ}{base:Heap}
theorem NG.binds{x:Str}{st:Stmt}{f:qR}(F:NG K x qual st f fd)
  (h:∀(kV doc pm:qQ) (an:Option qR) (j6 ct:qQ) (us:List qQ),6#1=3#0->bindArgs (PySem.W.fnOf x qual (Dm st) 17#8 6#6 .none kV doc pm an j6 ct) ⟨us,[]⟩=pure (ps.zip us)):HK K fd ps []:=by
 rcases F.ex with⟨oc,od,kV,doc,pm,an,j6,ct,osl,rfl,lk,hcd⟩;exact .all (h kV doc pm an j6 ct)
theorem W5{x:Str}{st:Stmt}{f:qR}{kV pm ct:qQ}(l:K.lookup f=some ⟨oc,od,.func (PySem.W.fnOf x qual (Dm st) 17#8 6#6 .none kV doc pm an j6 ct),osl⟩)
  (c:PySem.W.codeIn K j6 qual=true) (k:PySem.W.keepIn K 5#7=true):NG K x qual st f (PySem.W.fnOf x qual (Dm st) 17#8 6#6 .none kV doc pm an j6 ct):=⟨⟨oc,od,kV,doc,pm,an,j6,ct,osl,rfl,l,c⟩,k⟩
end
theorem CG{A:Around}{k:Nat}(hr:CM k A):20#5+1<cLine:=Nat.lt_of_le_of_lt (Nat.add_le_add_left (by decide:1<=64) _) hr.units
theorem AW{n:Nat}(h:n<=1000):n<sizeLine:=Nat.lt_of_le_of_lt h (by decide)
section
variable{X:Cx}
theorem pv(i:Nat){x:Str}{pos:Pos}(hN:X.N[i]?=some x:=by rfl)(hv:ak X.env.scope x:=by first|exact Or.inl rfl|exact Or.inr 3#8|exact Or.inr 10#5)(hd:(x==("__debug__":Str))=false:=by decide)
  (hcd:(x==("__classdict__":Str))=false:=by decide):PE X 7#8 (Wl i):=Wm hN hv hd hcd
end
theorem Rg{A B:Prop}(h:B):if false=true then A else B:=by rw[qE c7];exact h
theorem W6{A B:Prop}(h:A):if true=true then A else B:=by rw[qF rfl];exact h
theorem bJ{c A B:Prop}[Decidable c](h1:c->A)(h2:¬c->B):if c then A else B:=by
 by_cases h:c
 ·rw[qF h];exact h1 h
 ·rw[qE h];exact h2 h
def AG(H H':Hp):Prop:=∀b o,H b=some o->H' b=some o
theorem AG.refl(H:Hp):AG H H:=λ_ _ h=>h
variable{H1 H2:Hp}
theorem AG.trans(a:AG H H1)(b:AG H1 H2):AG H H2:=λc o h=>b c o (a c o h)
theorem AG.free(e:AG H H'){l:qR}(h:H' l=Option.none):H l=Option.none:=by
 cases q:H l with
 |none=>rfl
 |some o =>
  rw[e l o q]at h;cases h
theorem AG.seq{K:qV}(e:AG H H')(h:Aa K H a xs):Aa K H' a xs:=by
 rcases h with (h|⟨o,h⟩)|h
 ·exact .inl (.inl (e _ _ h))
 ·exact .inl (.inr ⟨o,e _ _ h⟩)
 ·exact .inr h
end L2
set_option maxHeartbeats 4000000
set_option compiler.extract_closed false
set_option genSizeOfSpec false
namespace L2
open PySem PySem.Spec PyProof.Rows
variable{C a:qR}{CX:RJ}{D:Ho}{E:qQ->qS->Prop}{H H' H1:Hp}{an od:Option qR}{j6 doc oc u:qQ}{ch:List qR}{es:List Expr}{fd:FuncData}{i t':Nat}{name qual:Str}{o:Obj}{osl:Array (Option qQ)}{ad:List (qR×Obj)}{ps:List Str}{s s':qS}{scope:Scope}{ta:TA}{tg:Expr}{xs:List V}{α β:Type}{σ:St}
noncomputable def Eu(o:Obj):Option qQ:=match 9#1 with
 |.fields vs=>vs[2]?
 |_=>none
def DK(h h':Heap):Prop:=11#7<=11#8/\∀(b:Nat) (o o':Obj),h.objs[b]?=some o->h'.objs[b]?=some o'->o'.dict=o.dict/\Eu o'=Eu o
theorem DK.refl(h:Heap):DK h h:=⟨cj _,λb o o' e e'=>by rw[e]at e';cases e';exact⟨rfl,rfl⟩⟩
variable{h1:Heap}
theorem DK.trans{h2 h3:Heap}(x:DK h1 h2)(y:DK h2 h3):DK h1 h3:=⟨dM x.1 y.1,λb o o' e e'=>by obtain⟨hb,_⟩:=Array.getElem?_eq_some_iff.mp e;have q:h2.objs[b]?=some (h2.objs[b]'(cy hb x.1)):=iM (cy hb x.1);exact⟨(y.2 b _ o' q e').1.trans (x.2 b o _ e q).1,(y.2 b _ o' q e').2.trans (x.2 b o _ e q).2⟩⟩
theorem Rh{h:Heap}(e:h.get? a=some o):h.objs[a]?=some o:=by
 unfold Heap.get? at e
 split at e
 ·cases e
 ·exact e
variable{h':Heap}
theorem DK.get{h:Heap}{o':Obj}(x:DK h h')(e:h.get? a=some o)(e':h'.get? a=some o'):o'.dict=o.dict/\Eu o'=Eu o:=x.2 a o o' (Rh e) (Rh e')
theorem DK.push(h:Heap)(o:Obj):DK h (h.push o):=by
 refine⟨?_,λb u u' e e'=>?_⟩
 ·rw[fL];exact iA _
 ·have hb:=(Array.getElem?_eq_some_iff.mp e).1;have q:(h.push o).objs[b]?=h.objs[b]?:=by show (h.objs.push o)[b]?=_;rw[Array.getElem?_push_lt hb,iM hb]
  rw[q,e]at e';cases e';exact⟨rfl,rfl⟩
theorem DK.update(h:Heap)(a:qR){f:Obj->Obj}(k:∀o,(f o).dict=o.dict/\Eu (f o)=Eu o):DK h (h.update a f):=by
 have q:(h.update a f).objs=h.objs.modify a f:=rfl;refine⟨by rw[q,Array.size_modify];exact cj _,λb u u' e e'=>?_⟩;rw[q,Array.getElem?_modify]at e'
 split at e'
 ·rw[e]at e';cases e';exact k u
 ·rw[e]at e';cases e';exact⟨rfl,rfl⟩
noncomputable def KT{α:Type}:Sem α->Prop
 |.rule _ k=>∀u,KT (k u)
 |.at _ k=>∀u,KT (k u)
 |.load _ _ k=>∀u,KT (k u)
 |.update _ _ f k=>(∀o,(f o).dict=o.dict/\Eu (f o)=Eu o)/\∀u,KT (k u)
 |.loadIfAlive _ k=>∀u,KT (k u)
 |.point _ k=>∀u,KT (k u)
 |.alloc _ k=>∀u,KT (k u)
 |.fresh k=>∀u,KT (k u)
 |.ask k=>∀u,KT (k u)
 |.handled _ k=>∀u,KT (k u)
 |.stack k=>∀u,KT (k u)
 |.thread k=>∀u,KT (k u)
 |.pure _=>True
 |.raise _=>True
 |.unsupported _=>True
 |.finish _=>True
 |_=>False
theorem KT.keep{M:Model}{Γ:PySem.Ctx}:∀(t:Sem α),KT t->∀(Q:α->Pos->qS->Prop) (E:qQ->Pos->qS->Prop) (p:Pos) (s:qS),Sem.wp M Γ t Q E p s ->
  Sem.wp M Γ t (λa p' s'=>Q a p' s'/\DK s.heap 9#9) (λe p' s'=>E e p' s'/\DK s.heap 9#9) p s:=by
 intro t
 induction t with
 |pure x=>exact λ_ Q E p s h=>⟨h,DK.refl _⟩
 |raise v=>exact λ_ Q E p s h=>⟨h,DK.refl _⟩
 |unsupported|finish=>exact λ_ Q E p s h=>h
 |yield|fork|await|register|choose|os|call|genState|newGen|resume=>exact λk=>k.elim
 |rule _ k ih|«at» _ k ih|point _ k ih|loadIfAlive _ k ih|fresh k ih|ask k ih|handled _ k ih|stack k ih|thread k ih=>exact λz Q E p s h=>ih _ (z _) Q E _ _ h
 |alloc o k ih=>exact λz Q E p s h=>Sem.wp_mono _ _ _ (λa p' s' q=>⟨q.1,(DK.push _ _).trans q.2⟩) (λa p' s' q=>⟨q.1,(DK.push _ _).trans q.2⟩) _ _ (ih _ (z _) Q E _ _ h)
 |load a _ k ih=>exact λz Q E p s ⟨o,ho,h⟩=>⟨o,ho,ih _ (z _) Q E _ _ h⟩
 |update a _ f k ih=>exact λz Q E p s ⟨ha,h⟩=>⟨ha,Sem.wp_mono _ _ _ (λa p' s' q=>⟨q.1,(DK.update _ _ z.1).trans q.2⟩) (λa p' s' q=>⟨q.1,(DK.update _ _ z.1).trans q.2⟩) _ _ (ih _ (z.2 _) Q E _ _ h)⟩
theorem KT.run{M:Model}{A:Around}{t:Sem α}{Q:α->qS->Prop}(k:KT t)(h:wpAny M A t Q E s):
  wpAny M A t (λa s'=>Q a s'/\DK s.heap 9#9) (λe s'=>E e s'/\DK s.heap 9#9) s:=λΓ p hΓ=>KT.keep t k _ _ p s (h Γ p hΓ)
theorem KT.bind{m:Sem α}{f:α->Sem β}(a:KT m)(b:∀x,KT (f x)):KT (m >>= f):=by
 show KT (m.bind f)
 induction m with
 |pure x=>exact b x
 |raise v=>exact a
 |unsupported|finish=>exact a
 |yield|fork|await|register|choose|os|call|genState|newGen|resume=>exact a.elim
 |rule _ k ih|«at» _ k ih|point _ k ih|loadIfAlive _ k ih|fresh k ih|ask k ih|handled _ k ih|stack k ih|thread k ih|alloc _ k ih|load _ _ k ih=>exact λu=>ih u (a u)
 |update _ _ f' k ih=>exact⟨a.1,λu=>ih u (a.2 u)⟩
theorem KT.pure(x:α):KT (Pure.pure x:Sem α):=trivial
theorem KT.ite{c:Prop}[Decidable c]{a b:Sem α}(x:KT a)(y:KT b):KT (if c then a else b):=by split<;>assumption
theorem Fj(x:String):KT (PySem.unsupported x:Sem α):=trivial
theorem Ks(a:qR):KT (PySem.load a):=λ_=>trivial
theorem LW(v:qQ):KT (fieldsOf v):=by
 unfold fieldsOf;split
 ·refine KT.bind (Ks _) λo=>?_;split
  ·exact KT.pure _
  ·exact Fj _
 ·exact Fj _
theorem GI(v:qQ)(i:Nat):KT (field v i):=by
 unfold field;refine KT.bind (LW v) λo=>?_;split
 ·exact KT.pure _
 ·exact Fj _
theorem Ev(v x:qQ)(i:Nat)(hi:i≠2):KT (setField v i x):=by
 unfold setField;split
 ·unfold updateField;refine KT.bind (Ks _) λo=>?_;split
  ·refine KT.ite ⟨λo=>?_,λ_=>trivial⟩ (Fj _);obtain⟨c,d,dt,sl⟩:=o;cases dt with
   |fields vs=>exact⟨rfl,Array.getElem?_setIfInBounds_ne hi⟩
   |_=>exact⟨rfl,rfl⟩
  ·exact Fj _
 ·exact Fj _
theorem EM(e:qQ)(f:Option qR):KT (setFlight e f):=by unfold setFlight;refine KT.bind (GI _ _) λtb=>?_;exact KT.ite (Ev _ _ _ (by decide)) (KT.pure _)
theorem IX:KT PySem.stack:=λ_=>trivial
theorem LX:∀l:List Env,KT (readyFrames l)
 |[]=>trivial
 |env::outer=>by
  unfold readyFrames;split
  ·refine KT.bind (Ks _) λo=>KT.ite (KT.pure _) ?_
   refine KT.bind ?_ λi=>KT.bind ?_ λback=>KT.bind ⟨λo=>⟨rfl,rfl⟩,λ_=>trivial⟩ λ_=>LX outer
   ·unfold behindIsImport;exact KT.ite (KT.pure _) (KT.ite (KT.pure _) (KT.bind (GI _ _) λ_=>KT.pure _))
   ·unfold keptBack;split
    ·refine KT.ite (KT.pure _) (KT.bind ?_ λ_=>KT.pure _);unfold underTheClaimsCaller;exact KT.bind IX λ_=>KT.pure _
    ·exact KT.pure _
  ·exact Fj _
theorem NS(env:Env):KT (PySem.frameOf env):=by
 unfold PySem.frameOf frameEnvs;refine KT.bind (KT.bind IX λ_=>KT.pure _) λl=>KT.bind ?_ λr=>?_
 ·unfold frameObject;split
  ·exact KT.pure _
  ·exact KT.bind (LX _) λ_=>KT.pure _
 ·split
  ·exact KT.pure _
  ·exact Fj _
theorem Kt(ty:String)(vs:List qQ):KT (newFields ty vs):=by
 unfold newFields newObj;dsimp only;split
 ·exact Fj _
 ·exact λ_=>trivial
theorem Ri(f:qR)(b:Bool):KT (entryPlaceOf f b):=by
 unfold entryPlaceOf;refine KT.bind IX λ_=>?_
 split<;>exact KT.pure _
theorem Oj(e:qQ)(env:Env):KT (noteFrame e env):=by
 have last:∀h:qQ,∀f:qR,KT (do setField e 1 (<-EntryCells.newEntry h (<-PySem.frameOf env) .none (rawInt f) .none (<-entryPlaceOf f (h != .none)))):=λh f =>
  KT.bind (NS env) λ_=>KT.bind (Ri _ _) λ_=>KT.bind (Kt _ _) λ_=>Ev _ _ _ (by decide)
 unfold noteFrame;split
 ·refine KT.bind (GI _ _) λh=>?_;split
  ·refine KT.bind (GI _ _) λx=>KT.ite (KT.pure _) (KT.bind (Ev _ _ _ (by decide)) λ_=>last h _)
  ·exact last h _
 ·exact Fj _
theorem IY(e:qQ)(env:Env):KT (leaving env e):=by unfold leaving;exact KT.bind (Oj _ _) λ_=>EM _ _
structure Ui(nc:Bool)(P:qT)(w:qU)(outer:List Env)(H:Hp)(s:qS)(a:qR)(cls a0:qQ)(D:Option qR)(B:Heap)(H':Hp)(s':qS):Prop where
 os:s'.os=s.os
 bare:AllBare s'.gens
 un:Un (Ei outer) [] H H' s.heap 9#9
 hok:Dx P w H' 9#9
 fly:Heap.FlyingW B outer a cls a0 9#9
 old:∀b o,s.heap.get? b=some o->b∉Ei outer->∀o',s'.heap.get? b=some o'->B.get? b=some o'
 trk:∀b u,H' b=some u->∀o',s'.heap.get? b=some o'->B.get? b=some o'
 dct:∃oe,s'.heap.get? a=some oe/\oe.dict=D
 ctx:nc=true->∃oe,s'.heap.get? a=some oe/\Eu oe=some .none
def RK(nc:Bool)(P:qT)(w:qU):RJ:=λouter H s E e s'=>∃a cls a0 D B H',e=.ref a/\Ui nc P w outer H s a cls a0 D B H' s'/\E cls D H'
abbrev J7(P:qT)(w:qU):RJ:=RK false P w
theorem Aq.somewhere{P:qT}{w:qU}{h:Heap}{o:HO}(x:Aq P w H h a o):∃ob,h.get? a=some ob:=by
 cases o with
 |lst xs=>obtain⟨_,_,_,_,e⟩:=x;exact⟨_,e⟩
 |tup xs=>obtain⟨_,_,_,ob,e,_⟩:=x;exact⟨ob,e⟩
 |dK kvs=>obtain⟨_,_,_,_,ob,_,_,e,_⟩:=x;exact⟨ob,e⟩
 |dT kvs=>obtain⟨_,_,_,_,ob,_,_,e,_⟩:=x;exact⟨ob,e⟩
 |set S n=>obtain⟨ob,_,_,_,e,_⟩:=x;exact⟨ob,e⟩
 |ins C dx fs=>obtain⟨_,_,_,e,_⟩:=x;exact⟨_,e⟩
 |own y=>exact x
 |xd fs=>obtain⟨_,⟨ob,_,_,e,_⟩,_⟩:=x;exact⟨ob,e⟩
 |rng lo hi=>obtain⟨_,_,_,e⟩:=x;exact⟨_,e⟩
 |frz ob u=>obtain⟨e,_⟩:=x;exact⟨ob,e⟩
 |tbl ps=>exact⟨_,(show h.get? a=some _ from x)⟩
 |met f y=>exact⟨_,(show h.get? a=some _ from x)⟩
 |ext φ=>obtain⟨_,e,_⟩:=x;exact e
variable{nc:Bool}{cls a0:qQ}
section
variable{X:Cx}
theorem AY.slotted(I:AY X ad σ H s)(k:∀b o,s.heap.get? b=some o->b∉Ei 6#4->h'.get? b=some o)
  (f:∀b o,s.heap.get? b=some o->b∈Ei 6#4->∃sl,h'.get? b=some {o with slots:=sl}):AY X ad σ H {s with heap:=h',toks:=t'}:=by
 have u:Un 21#5 [] H H s.heap h':=⟨λb o e _ hb _=>k b o e hb,λb o e _ hb _=>f b o e hb,λ_ _ _ n _=>n,λb o e _=>by
  by_cases hb:b∈Ei X.stack
  ·obtain⟨sl,q⟩:=f b o e hb;exact⟨_,q⟩
  ·exact⟨o,k b o e hb⟩,λ_ _ q=>q,λ_ _ _ q=>q,λb ps q=>⟨#[],by rw[q];simp⟩⟩
 have hok:Dx X.prog X.w H h':=λb u q=>(I.hok b u q).stay (λc v hc r=>k c v r λhm=>by
  have z:=I.stkFree c hm;rcases hc with e|e
  ·rw[e,q]at z;cases z
  ·rw[e]at z;cases z) (λ_ q=>q) λ_ _ q=>q
 exact I.call (g':=s.gens) (d':=s.drawn) (ch:=[]) u hok I.bare (λb z=>qG z (by simp))
theorem AY.frameData(I:AY X ad σ H s){b:qR}(e:s.heap.get? b=some o)(hb:b∈Ei 6#4):∀vs,9#1≠.fields vs:=by obtain⟨_,o',e',nf⟩:=I.stack.mem hb;rw[e]at e';cases e';exact nf
theorem Ui.fresh{D:Option qR}{B:Heap}(F:Ui nc X.prog X.w X.stack H s a cls a0 D B H' s'):H' a=none/\s.heap.get? a=none:=by
 have hB:=F.fly.2.1;obtain⟨oe,vs,he,_,hd,_⟩:=F.fly.first;refine⟨?_,?_⟩
 ·cases q:H' a with
  |none=>rfl
  |some u =>
   have z:=F.trk a u q oe he;rw[hB]at z;cases z
 ·cases q:s.heap.get? a with
  |none=>rfl
  |some o =>
   by_cases hm:a∈Ei X.stack
   ·obtain⟨_,o',e',nf⟩:=F.fly.2.2.1.mem hm;rw[he]at e';cases e';exact qG hd (nf vs)
   ·have z:=F.old a o q hm oe he;rw[hB]at z;cases z
theorem Ui.unAt{D:Option qR}{B:Heap}(I:AY X ad σ H s)(F:Ui nc X.prog X.w X.stack H s a cls a0 D B H' s')(hB:B.StaysIn h')(sm:s'.heap.UpToSlots h'):
  Un 21#5 [] H H' s.heap h'/\Dx X.prog X.w H' h':=by
 have up:∀b o,s.heap.get? b=some o->b∈Ei 6#4->∃sl,h'.get? b=some {o with slots:=sl}:=λb o e hb=>by obtain⟨sl,e1⟩:=F.un.slot b o e (I.stkFree b hb) hb (by simp);obtain⟨sl',e2⟩:=sm b _ e1 (show ∀vs,9#1≠.fields vs from I.frameData e hb);exact⟨sl',e2⟩
 refine⟨⟨λb o e n hb hx=>hB b o (F.old b o e hb o (F.un.keep b o e n hb hx)),λb o e _ hb _=>up b o e hb,F.un.free,λb o e hx=>?_,F.un.tups,F.un.frzs,F.un.tbls⟩,λb u q=>?_⟩
 ·by_cases hb:b∈Ei X.stack
  ·obtain⟨sl,q⟩:=up b o e hb;exact⟨_,q⟩
  ·obtain⟨o',e1⟩:=F.un.there b o e hx;exact⟨o',hB b o' (F.old b o e hb o' e1)⟩
 ·refine (F.hok b u q).stay (λc v hc r=>?_) (λ_ q=>q) λ_ _ q=>q
  rcases hc with e|e
  ·subst e;exact hB c v (F.trk c u q v r)
  ·exact hB c v (F.trk c _ e v r)
theorem Ui.land{D:Option qR}{B:Heap}(I:AY X ad σ H s)(F:Ui nc X.prog X.w X.stack H s a cls a0 D B H' s')(hB:B.StaysIn h')(sm:s'.heap.UpToSlots h'):AY X ad σ H' {s' with heap:=h',toks:=t'}:=by obtain⟨u,hok⟩:=F.unAt I hB sm;exact I.call' (s':={s' with heap:=h',toks:=t'}) (ch:=[]) F.os u hok F.bare (λb z=>qG z (by simp))
def HM(a:qR)(cls:qQ)(D:Option qR)(n:Bool)(h:Heap):Prop:=∃o vs,h.get? a=some o/\o.cls=cls/\9#1=.fields vs/\o.dict=D/\(n=true->∃t:qR,vs=#[.ref t,.none,.none,.none,.bool false,.none])
noncomputable def Y0(a:qR)(cls:qQ)(D:Option qR)(n:Bool):HO:=.ext (HM a cls D n)
theorem Ui.land'{D:Option qR}{B:Heap}{l:List Env}(I:AY X ad σ H s)(F:Ui nc X.prog X.w X.stack H s a cls a0 D B H' s')(fl:Heap.FlyingW B l a cls a0 h')(sm:s'.heap.UpToSlots h')(dk:DK s'.heap h'):
  AY X ad σ (AZ H' a (Y0 a cls D false)) {s' with heap:=h',toks:=t'}:=by
 obtain⟨u,hok⟩:=F.unAt I fl.1 sm;obtain⟨n1,n2⟩:=F.fresh;rcases fl.first with⟨oe,vs,he,hc,hd,_⟩;have ne:∀b o,s.heap.get? b=some o->b≠a:=λb o e z=>by rw[z,n2]at e;cases e
 have ne2:∀b o,H' b=some o->b≠a:=λb o e z=>by rw[z,n1]at e;cases e
 refine I.call' (s':={s' with heap:=h',toks:=t'}) (ch:=[]) F.os ⟨u.keep,u.slot,λb o e n hx=>?_,u.there,λb xs q=>?_,λb o v q=>?_,λb ps q=>?_⟩ (λb v q=>?_) F.bare (λb z=>qG z (by simp))
 ·rw[AI (ne b o e)];exact u.free b o e n hx
 ·have q':=u.tups b xs q;rw[AI (ne2 b _ q')];exact q'
 ·have q':=u.frzs b o v q;rw[AI (ne2 b _ q')];exact q'
 ·obtain⟨more,q'⟩:=u.tbls b ps q;exact⟨more,by rw[AI (ne2 b _ q')];exact q'⟩
 ·by_cases hb:b=a
  ·subst hb;rw[AC]at q;cases q;obtain⟨ow,hw,hwd⟩:=F.dct;exact⟨⟨oe,vs,he,hc,hd,(dk.get hw he).1.trans hwd,λz=>by cases z⟩,⟨oe,he⟩,λh1 h2 ⟨o,ws,e,r⟩ k=>⟨o,ws,k o e,r⟩⟩
  ·rw[AI hb]at q;exact (hok b v q).stay (λc v' _ r=>r) (λc z=>by rw[AI (ne2 c _ z)];exact z) λc xs z=>by rw[AI (ne2 c _ z)];exact z
end
def Rj(X:Cx)(C:qQ)(E:XK):Prop:=
 ∀(ad:List (qR×Obj)) (σ:St) (H:Hp) (s:qS) (h':Heap) (e:qR) (args:List qQ),AY X ad σ H s->Heap.MadeExcOf s.heap h' e C args->E C none H->X.xe 16#9 {s with heap:=h'}
def GJ(CX:RJ)(X:Cx)(E:St->XK):Prop:=∀(ad:List (qR×Obj)) (σ:St) (H:Hp) (s:qS) (e:qQ) (s':qS),AY X ad σ H s->CX X.stack H s (E σ) e s'->X.xe e s'
section
variable{P:qT}{w:qU}{K:qV}{mg:Str->Option qQ}{base:Heap}{N:List Str}{f:qR}{cd:qQ}{A:Around}{outer:List Env}{E:XK}
theorem B9{C:qQ}:Rj 17#7 C E:=by
 intro ad σ H1 s1 h1 e args I hx hE;generalize hX:Ej 17#6 P w K mg base N qual scope f cd A outer s H E=X at I⊢;have hst:6#4=1#2::17#1:=by rw[<-hX];rfl
 have hfr:X.env.frame=some 2#3:=by rw[<-hX];rfl
 have hxe:X.xe=λe s'=>wpAny 8#7 X.A (leaving X.env e) (λ_ s''=>RK nc P w X.outer X.H₀ X.s₀ E e s'') (λe' s''=>RK nc P w X.outer X.H₀ X.s₀ E e' s'') s':=by rw[<-hX];rfl
 have hex:X.ex=[]:=by rw[<-hX];rfl
 have hp:X.prog=P:=by rw[<-hX];rfl
 have hw:X.w=w:=by rw[<-hX];rfl
 subst hp hw;rw[hxe];have fr:=I.stack;have hin:∀env∈6#4,∀b,env.frame=some b->b∈Ei 6#4:=λenv he b hb=>iU.mpr ⟨env,he,hb⟩
 have fr':s1.heap.FunFrames (PySem.W.hideAll s1.heap 21#5) (1#2::17#1):=by rw[<-hst];exact PySem.W.funFrames_hide fr hin
 refine qM (KT.run (IY _ _) (wpAny_leaves_madeW (Q:=λ_ s2=>∃h2 t,s2={s1 with heap:=h2}/\Heap.FlyingW (PySem.W.hideAll s1.heap 21#5) X.outer e C (.ref t) h2/\h1.UpToSlots h2) (E:=λ_ _=>False) (base:=PySem.W.hideAll s1.heap 21#5) (h:=s1.heap) (L:=2#3) (by rw[<-hst];exact I.ok.frames) hfr (λb o q=>PySem.W.of_hideAll _ q) fr' hx λh2 t x1 x2 x3 x4=>⟨h2,t,rfl,x1,x4⟩)) (λ_ s2 q=>?_) λ_ _ q=>q.1.elim
 obtain⟨⟨h2,t,rfl,x1,x4⟩,dk⟩:=q;have kept:∀b o,s1.heap.get? b=some o->b∉Ei 6#4->h2.get? b=some o:=λb o q hb=>x1.1 b o (iS _ q hb)
 have J:AY X ad σ H1 {s1 with heap:=h2,toks:=s1.toks}:=I.slotted kept λb o q hb=>x4 b o (hx.keeps b o q) (I.frameData q hb)
 have un:Un (Ei 17#1) [] X.H₀ H1 X.s₀.heap h2:=by have z:=J.base;rw[hex]at z;exact z
 have hdc:∃oe,h2.get? e=some oe/\oe.dict=none:=by obtain⟨ob,hob,_⟩:=x1.there;obtain⟨t',he,_,_⟩:=hx.there;exact⟨ob,hob,(dk.get he hob).1.trans rfl⟩
 have hcx:∃oe,h2.get? e=some oe/\Eu oe=some .none:=by obtain⟨ob,hob,_⟩:=x1.there;obtain⟨t',he,_,_⟩:=hx.there;exact⟨ob,hob,(dk.get he hob).2.trans rfl⟩
 refine⟨e,C,.ref t,none,_,H1,rfl,⟨J.os,J.bare,un,J.hok,x1,λb o q hb o' q'=>?_,λb u q o' q'=>?_,hdc,λ_=>hcx⟩,hE⟩
 ·obtain⟨o1,q1⟩:=I.base.there b o q (by rw[hex];simp)
  have hn:b∉Ei 6#4:=λz=>by
   rcases dD.mp (I.stkSub b z) with y|y
   ·exact qG (cy (cr q) I.ok.above) (by rw[y];exact dP _)
   ·exact hb y
  have q2:=kept b o1 q1 hn;rw[q']at q2;cases q2;exact iS _ q1 hn
 ·have hn:b∉Ei 6#4:=λz=>by
   have y:=I.stkFree b z;rw[q]at y;cases y
  obtain⟨o1,r⟩:=(I.hok b u q).somewhere;have q2:=kept b o1 r hn;rw[q']at q2;cases q2;exact iS _ r hn
theorem BQ:GJ 17#6 17#7 (λ_=>E):=by
 intro ad σ H1 s1 e s2 I h;generalize hX:Ej 17#6 P w K mg base N qual scope f cd A outer s H E=X at I h⊢;have hst:6#4=1#2::17#1:=by rw[<-hX];rfl
 have hfr:X.env.frame=some 2#3:=by rw[<-hX];rfl
 have hxe:X.xe=λe s'=>wpAny 8#7 X.A (leaving X.env e) (λ_ s''=>RK nc P w X.outer X.H₀ X.s₀ E e s'') (λe' s''=>RK nc P w X.outer X.H₀ X.s₀ E e' s'') s':=by rw[<-hX];rfl
 have hex:X.ex=[]:=by rw[<-hX];rfl
 have hp:X.prog=P:=by rw[<-hX];rfl
 have hw:X.w=w:=by rw[<-hX];rfl
 subst hp hw;rw[hxe];rcases h with⟨a,cls,a0,D,B,H',rfl,F,hE⟩;have fl:Heap.FlyingW B (1#2::17#1) a cls a0 s2.heap:=by rw[<-hst];exact F.fly
 refine qM (KT.run (IY _ _) (wpAny_leaves_onW (Q:=λ_ s3=>∃h3,s3={s2 with heap:=h3}/\Heap.FlyingW B X.outer a cls a0 h3/\s2.heap.UpToSlots h3) (E:=λ_ _=>False) (by rw[<-hst];exact I.ok.frames) hfr fl λh3 x1 x2=>⟨h3,rfl,x1,x2⟩)) (λ_ s3 q=>?_) λ_ _ q=>q.1.elim
 rcases q with⟨⟨h3,rfl,x1,x2⟩,dk⟩;have J:AY X ad σ H' {s2 with heap:=h3,toks:=s2.toks}:=F.land I x1.1 x2;have un:Un (Ei 17#1) [] X.H₀ H' X.s₀.heap h3:=by have z:=J.base;rw[hex]at z;exact z
 have hdc:∃oe,h3.get? a=some oe/\oe.dict=D:=by obtain⟨ob,hob,_⟩:=x1.there;obtain⟨ow,hw,hwd⟩:=F.dct;exact⟨ob,hob,(dk.get hw hob).1.trans hwd⟩
 have hcx:nc=true->∃oe,h3.get? a=some oe/\Eu oe=some .none:=λhnc=>by obtain⟨ob,hob,_⟩:=x1.there;obtain⟨ow,hw,hwd⟩:=F.ctx hnc;exact⟨ob,hob,(dk.get hw hob).2.trans hwd⟩
 refine⟨a,cls,a0,D,B,H',rfl,⟨J.os,J.bare,un,J.hok,x1,λb o q hb o' q'=>?_,λb u q o' q'=>?_,hdc,hcx⟩,hE⟩
 ·obtain⟨o1,q1⟩:=I.base.there b o q (by rw[hex];simp)
  have hn:b∉Ei 6#4:=λz=>by
   rcases dD.mp (I.stkSub b z) with y|y
   ·exact qG (cy (cr q) I.ok.above) (by rw[y];exact dP _)
   ·exact hb y
  obtain⟨o2,q2⟩:=F.un.there b o1 q1 (by simp);have q3:=F.old b o1 q1 hn o2 q2;have q4:=x1.1 b o2 q3;rw[q']at q4;cases q4;exact q3
 ·obtain⟨o2,q2⟩:=(F.hok b u q).somewhere;have q3:=F.trk b u q o2 q2;have q4:=x1.1 b o2 q3;rw[q']at q4;cases q4;exact q3
end
abbrev NT:List qQ:=[.type "ValueError",.type "Exception",.type "BaseException",.type "object"]
theorem Rk{p:Prop}(h:false=true):p:=nomatch h
theorem Uj{F:qR->List qQ->Option qQ->Option qQ->Option qQ->Option qQ->String->Option qQ->Bool}{G:Prop}:∀{m:List qQ} {l:List (Option qQ)},(∀C' bm k0 k1 k2 k3 n k5,m=.ref C'::bm->l=[k0,k1,k2,k3,some (.builtin n),k5]->F C' bm k0 k1 k2 k3 n k5=true->G)->PySem.W.excIn.match_1 (λ_ _=>Bool) m l F (λ_ _=>false)=true->G:=by
 intro m l hG q;rcases m with _|⟨v,bm⟩
 ·exact Rk q
 cases v
 case ref C2 =>
  rcases l with _|⟨k0,_|⟨k1,_|⟨k2,_|⟨k3,_|⟨k4,l⟩⟩⟩⟩⟩
  iterate 5 exact Rk q
  rcases k4 with _|k4
  ·exact Rk q
  cases k4
  case builtin n =>
   rcases l with _|⟨k5,_|_⟩
   ·exact Rk q
   ·exact hG _ _ _ _ _ _ _ _ rfl rfl q
   ·exact Rk q
  all_goals exact Rk q
 all_goals exact Rk q
theorem Uk{F:Option qR->ClassData->Array (Option qQ)->Bool}{G:Prop}{o:Option Obj}(hG:∀dd cd sl,o=some ⟨.type "type",dd,.cls cd,sl⟩->F dd cd sl=true->G)(q:PySem.W.excIn.match_6 (λ_=>Bool) o F (λ_=>false)=true):G:=by
 rcases o with _|⟨cls,dd,data,sl⟩
 ·exact Rk q
 cases cls
 case type s =>
  by_cases hs:s="type"
  ·subst hs;cases data
   case cls cd=>exact hG _ _ _ rfl q
   all_goals exact Rk q
  ·delta PySem.W.excIn.match_6 PySem.W.nsOkIn._sparseCasesOn_4 PySem.W.excIn._sparseCasesOn_6 at q
   dsimp only at q;rw[dif_neg hs]at q;exact Rk q
 all_goals exact Rk q
theorem Ul{K:qV}{h:Heap}{newId:String}{bmB:List qQ}(kin:K.In h)(q:PySem.W.excIn K C bmB newId=true):
  ∃tl N nm qn bs dy sn sub ab col dd k0 k1 k2 k3 k5 mN,h.get? C=some (excClassObj nm qn C N bs tl dy sn sub ab col dd k0 k1 k2 k3 k5 newId)/\h.Ns N mN/\mN "__init__"=none/\OwnTail h bmB tl:=by
 unfold PySem.W.excIn at q;refine Uk (λdd cd sl ho q=>?_) q;refine Uj (λC2 tl k0 k1 k2 k3 n k5 hm hs q=>?_) q;rcases cd with⟨nm,bs,mro,N,qn,dy,sn,sub,ab,col,del⟩;obtain⟨l⟩:=sl;dsimp only at hm hs q;subst hm hs;simp only[Bool.and_eq_true,beq_iff_eq,Bool.not_eq_true']at q;rcases q with⟨⟨⟨⟨⟨e1,e2⟩,e3⟩,e4⟩,e5⟩,e6⟩;subst e1 e2 e3;exact⟨tl,N,nm,qn,bs,dy,sn,sub,ab,col,dd,k0,k1,k2,k3,k5,_,kin _ _ ho,.of_isNs (PySem.W.isNs_of_in kin e5),PySem.W.nsMap_none_of_in kin e5 e6,PySem.W.tail_of_in kin e4⟩
def Rm(C:qR)(E:XK)(t:TA):TS:=λ_ σ H=>t σ H λvs H1=>3#2<=sizeLine/\E (.ref C) none H1
section
variable{X:Cx}{x:Str}{E:XK}{e:Expr}{t:TA}{np cpos pos:Pos}
theorem DV(hc:19#9=true)(hC:PySem.W.excIn X.K C NT "ValueError.__new__"=true)(hg:Gl X x)(hm:X.mg x=some (.ref C))(hx:Rj X (.ref C) E)(ha:PA X (e::es) t)
  (hdb:(x==("__debug__":Str))=false:=by decide) (he:starEach (e::es) 1#2=(false,eval e 1#2)::starEach es 1#2:=by rfl) (hpl:(backTo cpos 4#2).any (·.1)=false:=by rfl):
  PS X (.Raise (some (.Call (.Name x np) (e::es) [] cpos)) none pos) (Rm C E t):=by
 intro ad s σ H D I h;rcases Ul I.mod.kin hC with⟨tl,N,nm,qn,bs,dy,sn,sub,ab,col,dd,k0,k1,k2,k3,k5,mN,hO,hN,hni,T⟩;have FB:=PySem.F.excBase_ValueError;have arg:=ha cpos ad s σ H _ I h;refine wpAny_Raise_call_subT (C:=C) (nm:=nm) (q:=qn) (N:=N) (bs:=bs) (bm:=tl) (hdct:=dy) (sn:=sn) (sub:=sub) (ab:=ab) (col:=col) (dd:=dd) (k0:=k0) (k1:=k1) (k2:=k2) (k3:=k3) (k5:=k5) FB (mN:=mN) (T.hasType FB.hasBase) 6#3 ?_ hni (GD I hg hm ⟨rfl,?_⟩ hdb)
 ·rw[he];show (false||(backTo cpos 4#2).any (·.1))=false;rw[hpl];rfl
 ·rw[he]at arg⊢;refine Calls.evalArgs_plain (BM arg λus s2 z9=>?_);obtain⟨vs,H2,I2,r,z,q⟩:=z9;exact⟨rfl,by rw[<-7#5];exact z,I2.bk _ _ hO,hN.keeps I2.bk,T.keeps I2.bk,λh2 a hq=>hx ad σ H2 s2 h2 a us I2 hq q⟩
end
def Ku(sp:Sp)(dvs:List V)(E:St->XK)(t:TA):TE:=λσ H Q=>t σ H λvs H1=>sp (vs++dvs) H1 Q (E σ)
section
variable{X:Cx}{k:Nat}{f:qR}{sp:Sp}{dvs:List V}{ds:List qQ}{E:St->XK}{x:Str}{p pos:Pos}{e:Expr}{t:TA}
theorem Rn(F:Fu X.prog X.w X.K X.mg X.base CX k f fd ps sp)(hr:CM k X.A)(hg:Gl X x)(hm:X.mg x=some 5#7)(hk:PySem.W.keepIn X.K 5#7=true)(hb:HK X.K fd ps ds)(hd:Av dvs ds)(hx:GJ CX X E)
  (ha:PA X (e::es) t) (hdb:(x==("__debug__":Str))=false:=by decide) (he:starEach (e::es) 1#2=(false,eval e 1#2)::starEach es 1#2:=by rfl) (hpl:(backTo pos 4#2).any (·.1)=false:=by rfl):
  PE X (.Call 18#2 (e::es) [] pos) (Ku sp dvs E t):=by
 intro ad s σ H Q I h;refine wpAny_Call_Name_kw (GD I hg hm ?_ hdb);refine PySem.W.callWith_K (h₀:=X.base) I.ok.mod.kin hk (BM (ha pos ad s σ H _ I h) λus s1 ⟨vs,H1,I1,r,q⟩=>⟨I1.kIn,?_⟩) he hpl;have r2:Av (vs++dvs) (us++ds):=r.append hd;have hl:(us++ds).length=3#0:=by rw[<-r2.length];exact F.len _ _ _ _ q
 refine wpAny_call (codeAny_mono (F.run X.A X.stack s1 H1 ⟨us,[]⟩ (us++ds) (vs++dvs) Q (E σ) hr I1.env0 (hb s1 us I1.kIn hl) r2 q) λrs s2 hq=>?_);rcases rs with er|fl
 ·exact hx ad σ H1 s1 er s2 I1 hq
 ·cases fl with
  |ret u=>exact I1.after hq
  |next=>exact False.elim hq
  |brk=>exact False.elim hq
  |cont=>exact False.elim hq
end
variable{sp:Sp}
section
variable{P:qT}{w:qU}{K:qV}{mg:Str->Option qQ}{base:Heap}
theorem NG.okX{x:Str}{st:Stmt}{f:qR}{N:List Str}{k:Nat}(F:NG K x qual st f fd)(S:AJ N ps 6#6)(len:∀vs H Q E,sp vs H Q E->3#2=3#0)
  (hbody:∀(j6:qQ) (A:Around) (outer:List Env) (s:qS) (H:Hp) (vs:List V) (Q:VK) (E:XK),CM k 11#3->sp vs H Q E ->
   ∃t,HE (Ej 17#6 P w K mg base N qual 6#6 f j6 A outer s H E) 17#8 t/\t {nx:=λ_ H'=>Q .non H',rt:=Q} 12#5 H):Fu P w K mg base 17#6 (k+1) f fd ps sp:=by
 rcases F.ex with⟨oc,od,kV,doc,pm,an,j6,ct,osl,rfl,lk,hcd⟩;exact Vq lk hcd S len λA outer s H vs Q E hr hsp=>hbody j6 A outer s H vs Q E hr hsp
end
theorem PS.nox{X:Cx}{st:Stmt}{t:TS}(h:PS X.nox st t):PS X st t:=λad s σ H D I hw =>
 qM (h ad s σ H D (I.wish _) hw) (λ_ _ q=>q.unwish) λ_ _ q=>q.elim
abbrev Cx.but(X:Cx)(p:List (qR×Obj))(E:qQ->qS->Prop):Cx:={X with pn:=p,xe:=E}
theorem Cx.Ok.but{X:Cx}(ok:X.Ok)(p:List (qR×Obj))(E:qQ->qS->Prop):(X.but p E).Ok:=
 ⟨ok.mod,ok.kind,ok.glob,ok.blt,ok.above,ok.inj,ok.has,ok.cab,ok.hd,ok.frames,ok.stk,ok.exf,ok.bs,ok.bsz,ok.noex,ok.exfs,ok.funs,ok.frf⟩
theorem Cx.Ok.unbut{X:Cx}{p:List (qR×Obj)}(ok:(X.but p E).Ok):X.Ok:=
 ⟨ok.mod,ok.kind,ok.glob,ok.blt,ok.above,ok.inj,ok.has,ok.cab,ok.hd,ok.frames,ok.stk,ok.exf,ok.bs,ok.bsz,ok.noex,ok.exfs,ok.funs,ok.frf⟩
noncomputable def Cx.tr(X:Cx)(p:List (qR×Obj))(W:St->XK):Cx:=X.but p λe s'=>∃ad σ H s,AY (X.but p λ_ _=>False) ad σ H s/\J7 X.prog X.w X.stack H s (W σ) e s'
noncomputable def Cx.hdl(X:Cx)(v:qQ):Cx:={X with A:=X.A.mark 11#0,calm:=false,xe:=λ_ _=>False}
variable{pos:Pos}
section
variable{X:Cx}{pins' p:List (qR×Obj)}{E':qQ->qS->Prop}
theorem AY.but(I:AY X ad σ H s)(E:qQ->qS->Prop):AY (X.but (X.pn++ad) E) [] σ H s:=
 ⟨I.ok.but _ _,I.os,I.bare,I.base,I.loc,I.cell,I.free,I.freeC,λq hq=>I.pin q (by simpa using hq),I.hok,I.len⟩
theorem AY.unbut(I:AY (X.but (X.pn++ad) E) pins' σ H s):AY X ad σ H s:=
 ⟨I.ok.unbut,I.os,I.bare,I.base,I.loc,I.cell,I.free,I.freeC,λq hq=>I.pin q (jC _ hq),I.hok,I.len⟩
theorem AY.rebut(I:AY (X.but p E) ad σ H s):AY (X.but p E') ad σ H s:=
 ⟨I.ok.unbut.but _ _,I.os,I.bare,I.base,I.loc,I.cell,I.free,I.freeC,I.pin,I.hok,I.len⟩
theorem AY.hdl(I:AY X ad σ H s)(v:qQ):AY (X.hdl v) ad σ H s:=
 ⟨⟨I.ok.mod,I.ok.kind,I.ok.glob,I.ok.blt,I.ok.above,I.ok.inj,I.ok.has,I.ok.cab,λz=>qG z (by show ¬(false=true);decide),I.ok.frames,I.ok.stk,I.ok.exf,I.ok.bs,I.ok.bsz,I.ok.noex,I.ok.exfs,I.ok.funs,I.ok.frf⟩,
  I.os,I.bare,I.base,I.loc,I.cell,I.free,I.freeC,I.pin,I.hok,I.len⟩
theorem AY.unhdl{v:qQ}(hd:19#9=true->X.A.handled=none)(I:AY (X.hdl v) ad σ H s):AY X ad σ H s:=
 ⟨⟨I.ok.mod,I.ok.kind,I.ok.glob,I.ok.blt,I.ok.above,I.ok.inj,I.ok.has,I.ok.cab,hd,I.ok.frames,I.ok.stk,I.ok.exf,I.ok.bs,I.ok.bsz,I.ok.noex,I.ok.exfs,I.ok.funs,I.ok.frf⟩,
  I.os,I.bare,I.base,I.loc,I.cell,I.free,I.freeC,I.pin,I.hok,I.len⟩
theorem IZ{W:St->XK}:GJ (J7 X.prog X.w) (X.tr p W) W:=λad σ H s e s' I h=>⟨ad,σ,H,s,AY.rebut (X:=X) I,h⟩
theorem SP.unbut{f:Flow}(h:SP (X.but (X.pn++ad) E) pins' D f s'):SP X ad D f s':=by
 cases f with
 |next=>obtain⟨a,b,I,q⟩:=h;exact⟨a,b,I.unbut,q⟩
 |brk=>obtain⟨a,b,I,q⟩:=h;exact⟨a,b,I.unbut,q⟩
 |cont=>obtain⟨a,b,I,q⟩:=h;exact⟨a,b,I.unbut,q⟩
 |ret u=>obtain⟨v,a,b,I,q⟩:=h;exact⟨v,a,b,I.unbut,q⟩
theorem Hw{M:Model}{A:Around}{n:Str}{Q:Unit->qS->Prop}(I:AY X ad σ H s)(hN:X.N.Nodup)(hi:X.N[i]?=some n)(hl:X.env.scope.names.lookup n=some .local)
  (h:∀s',AY X ad (σ.set i none) H s'->Q () s'):wpAny M A (do bindName X.env n .none;unbindBehindTheSuite X.env n pos) Q E s:=by
 obtain⟨m,hn,lk⟩:=id I.loc;have hcls:(14#5==.class||(14#5==.module&&2#3 != X.env.globals))=false:=by rw[I.ok.kind];rfl
 refine wpAny_nameGoes_keeps (show X.env.kindOf n=some .local from hl) hn hcls λh' v hn' sb=>h _ ?_
 have away:∀b o,X.s₀.heap.get? b=some o->b≠2#3:=λb o e=>dS 11#1
 have hiσ:i<σ.length:=by rw[I.len];exact (cW.mp hi).1
 refine⟨I.ok,I.os,I.bare,⟨λb o e nn hb hx=>(sb.2 b (away b o e)).trans (I.base.keep b o e nn hb hx),λb o e nn hb hx=>?_,I.base.free,λb o e hx=>?_,I.base.tups,I.base.frzs,I.base.tbls⟩,
  ⟨_,hn',λj y w e1 e2 e3=>?_⟩,λy c e=>?_,I.free,I.freeC,λq hq=>?_,λb u q=>?_,by simpa using I.len⟩
 ·obtain⟨sl,e1⟩:=I.base.slot b o e nn hb hx;exact⟨sl,(sb.2 b (away b o e)).trans e1⟩
 ·obtain⟨o',e1⟩:=I.base.there b o e hx;exact⟨o',(sb.2 b (away b o e)).trans e1⟩
 ·by_cases hj:j=i
  ·subst hj;rw[iZ hiσ]at e2;cases e2
  ·rw[jD (Ne.symm hj)]at e2;obtain⟨u,r,z⟩:=lk j y w e1 e2 e3;refine⟨u,r,?_⟩;rcases z with⟨k,z⟩|⟨k,c,z,y'⟩
   ·have ny:y≠n:=λq=>hj (IP hN e1 (q▸hi))
    exact .inl ⟨k,by simp[ny,z]⟩
   ·exact .inr ⟨k,c,z,y'.sameBut sb (I.cne y c z)⟩
 ·obtain⟨w,z⟩:=I.cell y c e;exact⟨w,z.sameBut sb (I.cne y c e)⟩
 ·obtain⟨e,nn,ne,nf,d⟩:=I.pin q hq;exact⟨(sb.2 q.1 ne).trans e,nn,ne,nf,d⟩
 ·refine (I.hok b u q).stay (λc w hc r=>(sb.2 c λz=>?_).trans r) (λ_ q=>q) λ_ _ q=>q
  have fz:=I.free;rcases hc with e|e
  ·rw[<-z,e,q]at fz;cases fz
  ·rw[<-z,e]at fz;cases fz
end
def ZI(K:qV)(R:qQ)(i:Nat)(W:St->XK)(tb th:TS):TS:=λD σ H=>tb D σ H/\∀σ' cls D' H',W σ' cls D' H'->PySem.W.exmOne K cls R=some true/\∀a,H' a=none ->
 th {nx:=λσ2 H2=>D.nx (σ2.set i none) H2,rt:=D.rt,bk:=λσ2 H2=>D.bk (σ2.set i none) H2,ct:=λσ2 H2=>D.ct (σ2.set i none) H2} (σ'.set i (some 2#6)) (AZ H' a (Y0 a cls D' false))
section
variable{X:Cx}{x n:Str}{R:qR}{W:St->XK}{b:List Stmt}{c0:Stmt}{suite:List Stmt}{tb th:TS}{np hpos:Pos}
theorem Ro(hN:X.N.Nodup)(hi:X.N[i]?=some n)(hl:X.env.scope.names.lookup n=some .local)(hg:Gl X x)(hm:X.mg x=some (.ref R))(hst:6#4=1#2::17#1)(hfr:X.env.frame=some 2#3)
  (hb:∀p,HE (X.tr p W) b tb) (hs:∀v,HE (X.hdl v) (c0::suite) th) (hd:(x==("__debug__":Str))=false:=by decide):
  PS X (.Try b [.ExceptHandler (some (.Name x np)) (some n) (c0::suite) hpos] [] [] pos) (ZI X.K (.ref R) i W tb th):=by
 intro ad s σ H D I h;obtain⟨h1,h2⟩:=h;refine wpAny_Try_except (qM (hb (X.pn++ad) [] s σ H D (I.but _) h1) (λf s1 q=>?_) λe s1 q=>?_)
 ·have q':SP X ad D f s1:=SP.unbut (pins':=[]) q;cases f with
  |next=>exact wpAny_execs_nil q'
  |ret u=>exact q'
  |brk=>exact q'
  |cont=>exact q'
 ·obtain⟨pins0,σ0,H0,s0,I0,a,cls,a0,D',B,H',rfl,F,hW⟩:=q;have J0:AY X ad σ0 H0 s0:=I0.unbut;obtain⟨hx,hth⟩:=h2 σ0 cls D' H' hW;have fl:Heap.FlyingW B (1#2::17#1) a cls a0 s1.heap:=by rw[<-hst];exact F.fly
  refine qM (KT.run (Oj _ _) (wpAny_looks_onW (Q:=λ_ s4=>∃h4,s4={s1 with heap:=h4}/\Heap.HeldW B (1#2::17#1) a cls a0 X.env.locals h4/\s1.heap.UpToSlots h4) (E:=λ_ _=>False) (by rw[<-hst];exact J0.ok.frames) hfr fl λh4 held4 sm4=>⟨h4,rfl,held4,sm4⟩)) (λ_ s4 q=>?_) λ_ _ q=>q.1.elim
  obtain⟨⟨h4,rfl,held4,sm4⟩,dk4⟩:=q;refine qM (KT.run (EM _ _) (wpAny_landsW (Q:=λ_ s5=>∃h5,s5={s1 with heap:=h5}/\Heap.FlyingW B (1#2::17#1) a cls a0 h5/\h4.UpToSlots h5) (E:=λ_ _=>False) (s:={s1 with heap:=h4}) held4 λh5 fl5 sm5=>⟨h5,rfl,fl5,sm5⟩)) (λ_ s5 q=>?_) λ_ _ q=>q.1.elim
  obtain⟨⟨h5,rfl,fl5,sm5⟩,dk5⟩:=q;have J5:AY X ad σ0 H' {s1 with heap:=h5,toks:=s1.toks}:=F.land J0 fl5.1 (sm4.trans sm5);have K5:=J5.hdl 2#6;refine wpAny_handleBy_cons (codeAny_handlers_test (GD K5 hg hm ?_ hd)) (by intro q;cases q);obtain⟨ob,hob,hobc⟩:=fl5.there
  have LT:PySem.W.Looks 0#4 h5 (typeOf 2#6) cls:=by subst hobc;exact (PySem.W.Looks.ld hob).andThen .now
  refine (PySem.W.exm_one J5.kIn LT hx).here ?_;show codeAny _ _ _ _ _;refine codeAny_handlers_suite_as ?_;refine qM (KT.run (EM _ _) (lands_againW (Q:=λ_ s6=>∃h6,s6={s1 with heap:=h6}/\Heap.FlyingW B (1#2::17#1) a cls a0 h6/\h5.UpToSlots h6) (E:=λ_ _=>False) (s:={s1 with heap:=h5}) fl5 λh6 fl6 sm6=>⟨h6,rfl,fl6,sm6⟩)) (λ_ s6 q=>?_) λ_ _ q=>q.1.elim
  obtain⟨⟨h6,rfl,fl6,sm6⟩,dk6⟩:=q;have J6:AY X ad σ0 (AZ H' a (Y0 a cls D' false)) {s1 with heap:=h6,toks:=s1.toks}:=F.land' J0 fl6 ((sm4.trans sm5).trans sm6) ((dk4.trans dk5).trans dk6);refine IQ J6 hN hi (.inl hl) (v:=.ref a) rfl (λs7 I7=>?_) (.inr hl);have run:=hs 2#6 ad s7 _ _ _ (I7.hdl 2#6) (hth a F.fresh.1);refine qM run (λf s8 q8=>?_) λ_ _ z=>z.elim
  cases f with
  |next =>
   obtain⟨σ8,H8,I8,q8⟩:=q8;exact Hw 16#2 hN hi hl λs9 I9=>⟨_,_,I9,q8⟩
  |brk =>
   obtain⟨σ8,H8,I8,q8⟩:=q8;exact Hw 16#2 hN hi hl λs9 I9=>⟨_,_,I9,q8⟩
  |cont =>
   obtain⟨σ8,H8,I8,q8⟩:=q8;exact Hw 16#2 hN hi hl λs9 I9=>⟨_,_,I9,q8⟩
  |ret u =>
   obtain⟨v8,σ8,H8,I8,r8,q8⟩:=q8;exact Hw 16#2 hN hi hl λs9 I9=>⟨v8,_,_,I9,r8,q8⟩
end
structure LY(K:qV)(D:qR):Prop where
 ci:(PySem.W.clsIn K D).isSome=true
 ga:PySem.W.findIn K 2#1 "__getattribute__"=some (some (.builtin "BaseException.__getattribute__"))
 gn:PySem.W.findIn K 2#1 "__getattr__"=some none
 ca:PySem.W.findIn K 2#1 "__class__"=some (some (.builtin "object.__class__"))
 sg:PySem.W.specialIn K (.builtin "object.__class__") "__get__"=some (some (.builtin "getset_descriptor.__get__"))
 tk:PySem.W.takesIn K (.builtin "object.__class__")=some true
 mo:PySem.W.mroIn K D (.type "object")=some true
 mb:PySem.W.mroIn K D (.type "BaseException")=some true
section
variable{K:qV}{D:qR}{dy:Option qR}{n:Bool}
theorem Rp(h:(PySem.W.clsIn K D).isSome=true):∃c d cd sl,K.lookup D=some ⟨c,d,.cls cd,sl⟩:=by
 delta PySem.W.clsIn at h
 cases e:K.lookup D with
 |none=>rw[e]at h;exact qG h c7
 |some o =>
  rw[e]at h;obtain⟨c,d,dt,sl⟩:=o;cases dt with
  |cls cd=>exact⟨c,d,cd,sl,rfl⟩
  |_=>exact qG h c7
theorem LY.isCls(c:LY K D){M:Model}{h:Heap}(kin:K.In h):PySem.W.Looks M h (isType 2#1) true:=by obtain⟨_,_,_,_,ho⟩:=Rp c.ci;intro A Q E s k q;unfold isType loadHead;exact qC (wpAny_loadPart (k _ _ (kin _ _ ho)) (qD q))
theorem HM.ty{M:Model}{h:Heap}(x:HM a cls dy n h):PySem.W.Looks M h (typeOf 2#6) cls:=by rcases x with⟨o,vs,e,c,_⟩;subst c;exact (PySem.W.Looks.ld e).andThen .now
theorem NU{M:Model}{h:Heap}{x:qQ}{g:qQ}(kin:K.In h)(h1:PySem.W.findIn K 2#1 name=some 18#7)(h2:PySem.W.specialIn K u "__get__"=some (some g))(h3:PySem.W.takesIn K u=some true):
  PySem.W.Looks M h (Builtin.ObjectAttr.find x 2#1 name) (.bind g u):=by
 have a1:=jF (M:=M) kin h1;have a2:PySem.W.Looks M h (Builtin.ObjectAttr.getOf 18#7) (some g):=PySem.W.looks_specialIn kin h2;have a3:PySem.W.Looks M h (Builtin.ObjectAttr.dataDescriptor? 18#7 (some g)) (some (g,u)):=(PySem.W.looks_takesIn (M:=M) kin h3).andThen .now;exact a1.andThen (a2.andThen (a3.andThen (PySem.W.Looks.tag .now)))
theorem Um{prog:qT}{w:qU}{A:Around}{R:Result->qS->Prop}{tp:qQ}(c:LY K D)(kin:K.In 20#3)(x:HM a 2#1 dy n 20#3)(q:R (.ok (.ret 2#1)) s):
  codeAny 0#3 A (.call (.builtin "getset_descriptor.__get__") ⟨[.builtin "object.__class__",.ref a,tp],[]⟩) R s:=by
 obtain⟨hp,g,d,t,os⟩:=s;have a1:=x.ty (M:=model prog w);have a2:=PySem.W.looks_mroIn (M:=model prog w) kin c.mo;refine codeAny_call_builtin PySem.W.KF.slot_gs.plain PySem.W.KF.entry_gs (PySem.W.KF.slot_gs.check _ _ _ _ _ _ _ _ PySem.W.KF.type_class (PySem.W.KF.args_gs _ _ _) ?_)
 (unfold Builtin.«getset_descriptor.__get__» Builtin.Getset_descriptor.descrGet;rw[PySem.W.dga_obj];refine qC (qD ?_))
 (unfold Builtin.Getset_descriptor.descrGetter Builtin.Getset_descriptor.descrCheckInstance Builtin.Getset_descriptor.descrNameAndClass isInstance;simp only[PySem.W.KF.owner_class])
 repeat lk
 refine⟨Code.quiet_builtin _ (by decide +kernel),codeAny_builtin PySem.W.KF.entry_class ?_⟩
 (unfold Builtin.«object.__class__» shownTypeOf;repeat lk)
 exact q
theorem QQ{prog:qT}{w:qU}{A:Around}{Q:Option qQ->qS->Prop}(c:LY K D)(kin:K.In 20#3)(x:HM a 2#1 dy n 20#3)
  (q:Q (some 2#1) {s with toks:=5#2+1}):wpAny 0#3 A (getAttr? 2#6 "__class__") Q E s:=by
 rcases s with⟨hp,g,d,t,os⟩;have LT:=x.ty (M:=model prog w);have L1:=jF (M:=model prog w) kin c.ga;have L2:=jF (M:=model prog w) kin c.gn;have L3:=NU (M:=model prog w) (x:=.ref a) kin c.ca c.sg c.tk;have L4:PySem.W.Looks 0#3 hp (isInstance 2#6 (.type "BaseException")) true:=LT.andThen (PySem.W.looks_mroIn kin c.mb);have FA:=PySem.F.excAttr_ValueError;unfold getAttr? getAttrBy? getAttrBy;refine qC (wpAny_mkText (qC (wpAny_attempt (qO (qC (LT.at (qC (L1.at ?_))))))));show wpAny _ _ (getAttrByItsOwn _ _ _ _ _ _) _ _ _;unfold getAttrByItsOwn;refine qC (show wpAny _ _ (typeLookup 2#1 "__getattr__") _ _ _ from L2.at ?_);refine qC (wpAny_attempt (qO ?_));show wpAny _ _ (boundAndCalled _ _ _) _ _ _;unfold boundAndCalled;refine qC (wpAny_of_eq (FA.ga.bind _) ?_);refine wpAny_call (codeAny_call_builtin FA.ga.plain PySem.F.entry_bexc_ga ?_);have hk:builtinKind "BaseException.__getattribute__"=some .slot:=by decide +kernel
 have hsp:splitId "BaseException.__getattribute__"=some ("BaseException","__getattribute__"):=by decide +kernel
 have ha:=PySem.F.args_bexc_ga 2#6 (.str "__class__" t);show wpAny _ _ (checkBuiltinCall "BaseException.__getattribute__" ⟨[.ref a,.str "__class__" t],[]⟩) _ _ _;simp only[checkBuiltinCall,hk,hsp];refine qC (L4.at ?_)
 repeat (any_goals (first|assumption|wp_step))
 rcases id x with⟨o,vs,eo,co,vo⟩;refine wpAny_loadPart eo ?_;refine qD ?_;rw[co];refine qC (L3.at ?_);show wpAny _ _ (call (.builtin "getset_descriptor.__get__") [.builtin "object.__class__",.ref a,.ref D] >>= λv=>ret v) _ _ _;refine qC (wpAny_call (Um c kin ⟨o,vs,eo,co,vo⟩ ?_));refine qD ?_;show wpAny _ _ (handedOut 2#1) _ _ _;exact qD (qD q)
theorem LZ(c:LY K D):PySem.W.KitX K 2#6 2#1 (HM a 2#1 dy n) where
 ty:=λ_ _ _ x=>x.ty
 it:=λ_ _ kin _=>c.isCls kin
 ne:=λh tp dd its n sl kin htp=>by refine Bool.eq_false_iff.mpr λq=>?_;have e:D=tp:=Value.ref.inj (beq_iff_eq.mp q);subst e;obtain⟨_,_,_,_,ho⟩:=Rp c.ci;have y:=(kin _ _ ho).symm.trans htp;cases y
 ca:=λkin x q=>QQ c kin x q
end
inductive ZJ(K:qV)(H:Hp):V->qQ->Prop where
 |of {x:V} {t:qQ} (h:Gh K H x t):ZJ K H x t
 |exc {a D:qR} {dy:Option qR} {n:Bool} (e:H a=some (Y0 a 2#1 dy n)) (c:LY K D):ZJ K H 2#6 2#1
section
variable{X:Cx}
noncomputable def Rq:V->Option qQ
 |.ty n=>some (.type n)
 |.ref a=>some 2#6
 |_=>none
noncomputable def W7(K:qV):List V->Hp->VK->Prop
 |[x,c],H,Q=>∃t u b,ZJ K H x t/\Rq c=some u/\PySem.W.kitOne K t u=some b/\Q (.bl b) H
 |_,_,_=>False
theorem Rr:Co X (.builtin "isinstance") (W7 X.K):=by
 intro ad s σ H xs us Q I rv h;rcases xs with _|⟨x,_|⟨c,_|⟨_,_⟩⟩⟩
 ·exact h.elim
 ·exact h.elim
 rotate_left
 ·exact h.elim
 rcases h with⟨t,u,b,ty,rc,k,q⟩;rcases Od rv with⟨v1,v2,rfl,r1,r2⟩
 have e:v2=u:=by
  cases c with
  |ty n=>cases rc;exact r2
  |ref a=>cases rc;exact r2
  |_=>cases rc
 subst e;cases ty with
 |of ty=>exact QM I r1 ty k λtk=>⟨.bl b,H,I.tok tk,rfl,q⟩
 | @exc a D dy n e ck =>
  cases (show v1=Value.ref a from r1);obtain⟨x,_,_⟩:=(show Aq X.prog X.w H s.heap a (.ext (HM a 2#1 _ _)) from I.hok a _ e);exact fI (LZ ck) I.kIn x k (λz=>nomatch z) λtk=>⟨.bl b,H,I.tok tk,rfl,q⟩
end
variable{items:Array qQ}
section
variable{prog:qT}{w:qU}{A:Around}
theorem QR:typeLookup (.type "list_reverseiterator") "__len__"=pure none:=by rw[typeLookup_type,builtinLookup_eq_fast];kernel_rfl
theorem Rs:typeLookup (.type "list_reverseiterator") "__length_hint__"=pure (some (.builtin "list_reverseiterator.__length_hint__")):=by rw[typeLookup_type,builtinLookup_eq_fast];kernel_rfl
theorem Rt{I:qR}{Q:Bool->qS->Prop}(hT:s.TypeIs (.ref I) "list_reverseiterator")(q:Q false s):wpAny 0#3 A (Builtin.List.listLengthHint (.ref I)) Q E s:=by
 unfold Builtin.List.listLengthHint;refine qC (wpAny_specialOf hT QR ?_);show wpAny _ A (specialOf (Value.ref I) (Str.ofString "__length_hint__") >>= _) _ _ _;refine qC (wpAny_specialOf hT Rs ?_);generalize hz:("list_reverseiterator.__length_hint__":String)=zz
 wp_delta
 rw[show splitId zz=some ("list_reverseiterator","__length_hint__") from by subst hz;decide +kernel];subst hz;refine qC (wpAny_isInstance (b:=true) hT (by rw[isSubtype_type];kernel_rfl) ?_);exact qD q
theorem La{I l:qR}{Q:qQ->qS->Prop}(hh:16#0=none)(hIl:l≠I)(hit:s.heap.IsRevIter I l ((items.size:Int)-1))(hl:s.heap.IsList l items)(hz:items.size<=sizeLine)
  (hQ:∀h' tk c' j5,(∀b o,b≠I->s.heap.get? b=some o->h'.get? b=some o)->h'.get? 0#1=some {cls:=.type "list",dict:=none,data:=.seq j5 c',slots:=#[]} ->
   j5.toList=items.toList.reverse->Q 13#1 {s with heap:=h',toks:=tk}):wpAny 0#3 A (call (.type "list") [.ref I]) Q E s:=by
 have W:=(Walks.listRev (prog:=prog) (w:=w) (A:=A.in1.in1) hh I l hIl items).toS;have hIlt:I<0#1:=by obtain⟨o,e,_⟩:=hit;exact cr e
 have hllt:l<0#1:=by obtain⟨o,e,_⟩:=hl;exact cr e
 refine callType_codes (Q₁:=λobj s₁=>obj=.ref 0#1/\s₁={s with heap:=s.heap.push {cls:=.type "list",data:=.seq #[]}}) PySem.F.called_list (PySem.F.typeCall_list_1 _) PySem.F.entry_list_init
  (code_list_new _ ⟨rfl,rfl⟩) λobj s₁ h₁=>?_
 obtain⟨rfl,rfl⟩:=h₁;have hS:(s.heap.push {cls:=.type "list",data:=.seq #[]}).get? 0#1=some {cls:=.type "list",data:=.seq #[]}:=c9 _ rfl;refine⟨⟨_,hS,rfl⟩,PySem.F.args_list_init_2 _ _,?_⟩;show wpAny _ _ (do let old <-Builtin.List.listItems 13#1;Builtin.List.listUpdate 13#1 (λ_=>#[]);letGo old.toList.reverse;Builtin.List.listExtendWith 13#1 (.ref I) .none) _ _ _;refine qC ?_;unfold Builtin.List.listItems;refine qC (wpAny_seqItems hS rfl (qD ?_));show wpAny _ _ (updateSeq s.heap.objs.size (λ_=>#[]) >>= λ_=>letGo (#[]:Array qQ).toList.reverse >>= λ_=>Builtin.List.listExtendWith 13#1 (.ref I) .none) _ _ _;refine qC (wpAny_updateSeq hS rfl ?_);have hS2:=gC (Obj.mapSeq (λ_=>(#[]:Array qQ))) hS rfl
 have kp:∀b o,s.heap.get? b=some o->((s.heap.push {cls:=.type "list",data:=.seq #[]}).update s.heap.objs.size (Obj.mapSeq (λ_=>(#[]:Array qQ)))).get? b=some o:=
  λb o e=>(f8 _ _ (hV 9#7)).trans (cm _ e)
 refine qC (wpAny_letGo ?_);have hit2:=hit.at λo e=>kp I o e
 have hl2:=hl.at λo e=>kp l o e
 unfold Builtin.List.listExtendWith;refine qC (wpAny_typeOf (T:="list_reverseiterator") hit2.typeIs ?_);have h1:Builtin.List.listSameRef 13#1 (.ref I)=false:=by simp[Builtin.List.listSameRef,Nat.ne_of_gt hIlt]
 rw[qE (by rw[h1];decide)];refine qC (wpAny_pyIter_revIter hit2 ?_);refine qC (qO (Rt hit2.typeIs ?_));rw[qE (by decide)]
 have nf:0#1∉[I,l]:=by simp only[List.mem_cons,List.not_mem_nil,or_false,not_or];exact⟨hV hIlt,hV hllt⟩
 refine qD ⟨plainId_quiet PySem.F.plain_extend_loop _,codeAny_extend_loopS W hz _ nf _ items.size 0 _ _ _ rfl (Nat.zero_le _) ⟨Nat.zero_le _,by simpa using hit2,hl2⟩ hS2 (ItemsOf.nil _) λs' j5 c' hm hS' hacc=>?_⟩;refine⟨rfl,?_⟩;rw[Moved.eq_with hm];refine hQ s'.heap s'.toks c' j5 (λb o hb e=>hm.heap b o (λz=>?_) (kp b o e)) hS' ?_
 ·rcases dD.mp z with z|z
  ·exact qG 9#7 (by rw[z];exact dP _)
  ·exact hb (ce.mp z)
 ·apply List.ext_getElem?;intro i
  by_cases hi:i<items.size
  ·have hi2:i<j5.size:=by rw[hacc.1];exact hi
   have p:=hacc.2 i j5[i] (iM hi2);rw[List.getElem?_reverse (by simpa using hi),Array.getElem?_toList,Array.getElem?_eq_getElem hi2,Array.getElem?_toList,Array.length_toList];exact p.symm
  ·rw[iB (by rw[eu,hacc.1];lia),iB (by rw[fJ,eu];lia)]
end
noncomputable def ZK(K:qV)(a:qR)(n:Nat):It:=
 ⟨λi H=>i<n/\∃xs,Aa K H a xs/\0#7=n,λi H x H'=>H'=H/\∀xs,Aa K H a xs->xs.reverse[i]?=some x,λi _=>i=n⟩
theorem Ru{P:qT}{w:qU}{K:qV}(a it:qR)(n:Nat):Jh P w K tg (ZK K a n) [it] it (λi h=>i<=n/\h.IsRevIter it a ((n:Int)-1-(i:Int))) where
 mem:=by simp
 obj:=λi h st b hb=>by
  have e:b=it:=by simpa using hb
  subst e;rcases st with⟨_,o,e,c,d⟩;exact⟨o,e,λv z=>by rw[d]at z;cases z⟩
 keep:=λi h h' st k=>⟨st.1,st.2.at λo e=>k it (by simp) o e⟩
 item:=by
  intro X hP hw hK hc i ad s σ H E I hf st hg;subst hP hw hK;rcases hg with⟨hi,xs,hq,hn⟩;rcases I.list hq with⟨its,rv,p,hz⟩;have hlen:=rv.length;rcases hf it (by simp) with⟨f0,f1,f2,f3,f4,f5⟩;have e:(n:Int)-1-(i:Int)=((n-1-i:Nat):Int):=by lia
  have hit:=st.2;rw[e]at hit;have hx:xs[n-1-i]?=some (xs[n-1-i]'(by lia)):=cX (by lia);obtain⟨u,hu,ru⟩:=rv.get hx;refine wpAny_pyNext_rev_item hit p.isList (x:=u) (by simpa using hu) λh' st' sb=>?_;have I1:AY X ad σ H {s with heap:=h'}:=I.turned (t':=5#2) (λb o hb e=>(sb.2 b hb).trans e) f0 f1 f3 f4 f5;rcases id st' with⟨o,e,c,d⟩
  have st2:i+1<=n/\h'.IsRevIter it a ((n:Int)-1-((i+1:Nat):Int)):=⟨hi,by
   have e2:((n-1-i:Nat):Int)-1=(n:Int)-1-((i+1:Nat):Int):=by lia
   rw[<-e2];exact st'⟩
  refine⟨u,rfl,LQ (s:={s with heap:=h'}) e c d (by decide) ⟨_,H,I1,ru,⟨rfl,λys hy=>?_⟩,st2,λb hb=>(hf b hb).1⟩⟩;rw[I.list_inj hy hq,gE (by lia),<-hx]
  congr 1
  lia
 done:=by
  intro X hP hw hK hc i ad s σ H E I hf st hg;subst hP hw hK;rcases hf it (by simp) with⟨f0,f1,f2,f3,f4,f5⟩;have hg':i=n:=hg;subst hg';have hit:=st.2;have e:(i:Int)-1-(i:Int)=-1:=by lia
  rw[e]at hit;exact wpAny_pyNext_rev_end 6#3 hit λh' eb=>⟨rfl,I.turned (t':=5#2) (λb o hb e=>eb b o hb e) f0 f1 f3 f4 f5⟩
 self:=λ_ _ _ _ _ st h=>wpAny_pyIter_revIter st.2 h
section
variable{X:Cx}
def bK(K:qV)(ta:TA):TI:=λσ H R=>ta σ H λvs H1=>∃a xs,vs=[.ref a]/\Aa K H1 a xs/\R (ZK K a 0#7) H1
theorem W8{l:Expr}{p pos:Pos}(hg:Gl X "reversed")(hm:X.mg "reversed"=none)(ha:PA X [l] ta)(hs:starEach [l] 1#2=[(false,eval l 1#2)]:=by rfl):PI X tg (.Call (.Name "reversed" p) [l] [] pos) (bK X.K ta):=by
 intro ad s σ H R I h;refine Call_ (Cq I hg hm boot_reversed (dh (BM (ha pos ad s σ H _ I h) λus s1 z9=>?_) hs rfl));obtain⟨vs,H1,I1,r1,q1⟩:=z9;rcases q1 with⟨a,xs,e,hq,q⟩;subst e;cases r1 with
 |cons r rr =>
  cases rr;cases r;rcases I1.list hq with⟨its,rv,pl,hz⟩;have hlen:=rv.length;refine call_reversed_list pl.isList ?_;have I2:AY X ad σ H1 {s1 with heap:=s1.heap.push (revObj a ((2#5:Int)-1)),toks:=s1.toks}:=I1.kept λb o e=>cm _ e
  have st:(s1.heap.push (revObj a ((2#5:Int)-1))).IsRevIter s1.heap.objs.size a ((0#7:Int)-1-((0:Nat):Int)):=by
   have e:((0#7:Int)-1-((0:Nat):Int))=(2#5:Int)-1:=by rw[dR,hlen];lia
   rw[e];exact⟨_,c9 _ rfl,rfl,rfl⟩
  refine wpAny_pyIter_revIter st ?_;refine⟨1#4,[1#4],_,_,H1,rfl,I2,Ru a _ 0#7,⟨dz _,st⟩,λb hb=>?_,q⟩;have e:b=1#4:=by simpa using hb
  subst e;exact I1.fpOk (cj _) (I1.hok.fresh (cj _))
theorem Uo{K:qV}{g:TG}{tb:TS}(Pv:Nat->St->Hp->Prop)(h0:Pv 0 σ H)(hl:∀i σ H,i<=0#7->Pv i σ H->Aa K H a xs)
  (hs:∀i x σ H,xs.reverse[i]?=some x->Pv i σ H->g x σ H λσ2 H2=>tb {D with nx:=Pv (i+1),ct:=Pv (i+1),bk:=D.nx} σ2 H2) (hd:∀σ H,Pv xs.length σ H->D.nx σ H):
  ∃W:Nat->Nat->St->Hp->Prop,(∃m,W 0 m σ H)/\∀i m σ H,W i m σ H ->
   ((ZK K a 0#7).stop i H/\D.nx σ H)\/((ZK K a 0#7).go i H/\∃N:St->Hp->Prop,(∀σ' H',N σ' H'->∃m',m'<m/\W (i+1) m' σ' H')/\∀x H',(ZK K a 0#7).yld i H x H'->g x σ H' λσ2 H2=>tb {D with nx:=N,ct:=N,bk:=D.nx} σ2 H2):=by
 refine⟨λi m σ H=>m=0#7-i/\i<=0#7/\Pv i σ H,⟨0#7,by simp,Nat.zero_le _,h0⟩,?_⟩;rintro i m σ H ⟨rfl,hi,p⟩;have q:=hl i σ H hi p
 by_cases hlt:i<xs.length
 ·refine .inr ⟨⟨hlt,xs,q,rfl⟩,Pv (i+1),λσ' H' p'=>⟨0#7-(i+1),by lia,rfl,hlt,p'⟩,λx H' y=>?_⟩;obtain⟨e,y⟩:=y;subst e;exact hs i x σ _ (y xs q) p
 ·have e:i=0#7:=by lia
  subst e;exact .inl ⟨rfl,hd σ H p⟩
def Vv(K:qV)(ta:TA):TE:=λσ H Q=>ta σ H λvs H1=>∃a xs,vs=[.ref a]/\Aa K H1 a xs/\∀p,H1 p=none->Q 1#5 (AZ H1 p (.lst xs.reverse))
theorem Hz{l:Expr}{p1 p2 pos1 pos2:Pos}(hc:19#9=true)(hg:Gl X "reversed")(hm:X.mg "reversed"=none)(hg2:Gl X "list")(hm2:X.mg "list"=none)(ha:PA X [l] ta)(hs:starEach [l] 1#2=[(false,eval l 1#2)]:=by rfl)
  (hs2:starEach [.Call (.Name "reversed" p1) [l] [] pos1] 1#2=[(false,eval (.Call (.Name "reversed" p1) [l] [] pos1) 1#2)]:=by rfl):
  PE X (.Call (.Name "list" p2) [.Call (.Name "reversed" p1) [l] [] pos1] [] pos2) (Vv X.K ta):=by
 intro ad s σ H Q I h;refine Call_ (Cq I hg2 hm2 ie (dh (T:="list") ?_ hs2 rfl));rw[hs2];show wpAny _ _ (spliced ((false,eval (.Call (.Name "reversed" p1) [l] [] pos1) 1#2)::[])) _ _ s;refine Calls.spliced_cons (Call_ (Cq I hg hm boot_reversed (dh (BM (ha pos1 ad s σ H _ I h) λus s1 z9=>?_) hs rfl)));obtain⟨vs,H1,I1,r1,q1⟩:=z9;rcases q1 with⟨a,xs,e,hq,q⟩;subst e;cases r1 with
 |cons r rr =>
  cases rr;cases r;rcases I1.list hq with⟨its,rv,pl,hz⟩;have hlen:=rv.length;refine call_reversed_list pl.isList ?_;refine Calls.spliced_nil ?_;have ne:a≠1#4:=by obtain⟨o,e,_⟩:=pl.isList;exact dS 9#7
  have hL:(s1.heap.push (revObj a ((2#5:Int)-1))).IsList a 5#5:=pl.isList.at λo e=>cm _ e
  refine La (s:={s1 with heap:=s1.heap.push (revObj a ((2#5:Int)-1))}) 6#3 ne ⟨_,c9 _ rfl,rfl,rfl⟩ hL (by rw[dR,<-hlen];exact hz) λh' tk c' j5 kp hD hacc=>?_;have kp2:∀b o,s1.heap.get? b=some o->h'.get? b=some o:=λb o e=>kp b o (dS 9#7) (cm _ e)
  have hf:H1 (s1.heap.push (revObj a ((2#5:Int)-1))).objs.size=none:=I1.hok.fresh (by rw[fL];lia);have rv2:Av xs.reverse j5.toList:=by rw[hacc];simpa using rv.reverse
  refine⟨.ref _,_,I1.laid (t':=tk) kp2 (by rw[fL];lia) ?_,rfl,q _ hf⟩;exact⟨by rw[List.length_reverse];exact hz,j5.toList,c',rv2,by simpa using hD⟩
def ZL(K:qV):R2:=λx y H Q=>∃(a b:qR) (ns ms:qW),x=.ref a/\y=.ref b/\Aa K H a 1#8/\Aa K H b (ms.map 1#0)/\Q (.bl (decide (ns=ms))) H
theorem Rv(hu:7#2+64<cLine):Es X (compareOp .Eq) (ZL X.K):=by intro ad s σ H x y v u Q I rx ry h;rcases h with⟨a,b,ns,ms,rfl,rfl,ha,hb,q⟩;cases rx;cases ry;rcases I.list ha with⟨va,ra,pa,_⟩;rcases I.list hb with⟨vb,rb,pb,_⟩;exact PySem.W.eq_intsK pa.isList (IU ra) pb.isList (IU rb) hu ⟨.bl _,H,I,rfl,q⟩
end
theorem Rw{P:qT}{w:qU}{K:qV}{mg:Str->Option qQ}{base:Heap}{N:List Str}{f:qR}{cd:qQ}{A:Around}{outer:List Env}{E:XK}:(Ej CX P w K mg base N qual scope f cd A outer s H E).K=K:=rfl
theorem bL{X:Cx}{p:List (qR×Obj)}{W:St->XK}:(X.tr p W).K=X.K:=rfl
theorem Vw{X:Cx}{v:qQ}:(X.hdl v).K=X.K:=rfl
theorem Vx{P:qT}{w:qU}{X:Cx}:GJ 12#1 X (λ_=>E0):=λ_ _ _ _ _ _ _ h=>by obtain⟨_,_,_,_,_,_,_,_,h⟩:=h;exact h.elim
theorem AG.new{p:qR}(h:H p=none)(o:HO):AG H (AZ H p o):=λb u q=>by rw[AI (BU q h)];exact q
theorem Rx{p q:qR}{o:HO}(h:AZ H p o q=none):q≠p/\H q=none:=by
 have ne:q≠p:=λz=>by rw[z,AC]at h;cases h
 rw[AI ne]at h;exact⟨ne,h⟩
theorem Ry{n:Nat}(h:n<=1000):n<=sizeLine:=eU (AW h)
section
variable{X:Cx}{x:Str}{p:Pos}{a c:Expr}{ta tc:TE}
theorem Lb{n:String}(hg:Gl X x)(hm:X.mg x=none)(hv:bootBuiltins x=some (.type n))(hn:x≠"__name__":=by decide)(hd:(x==("__debug__":Str))=false:=by decide):PE X 7#8 (tC (.ty n)):=
 UW (v:=.ty n) hg hm hv rfl hn hd
theorem EN(hg:Gl X x)(hm:X.mg x=some (.ref C))(hd:(x==("__debug__":Str))=false:=by decide):PE X 7#8 (tC (.ref C)):=OX (v:=.ref C) hg hm rfl hd
theorem Rz{i:Int}{t:Tok}(hg:Gl X x)(hm:X.mg x=some 18#1)(hd:(x==("__debug__":Str))=false:=by decide):PE X 7#8 (tC 8#3):=OX (v:=.int i) hg hm ⟨t,rfl⟩ hd
theorem Fv(hg:Gl X "isinstance")(hm:X.mg "isinstance"=none)(ha:PE X a ta)(hc:PE X c tc)(h1:starEach [a,c] 1#2=(false,eval a 1#2)::starEach [c] 1#2:=by rfl)(h2:starEach [c] 1#2=(false,eval c 1#2)::starEach [] 1#2:=by rfl)
  (h3:(backTo pos (starEach [c] 1#2)).any (·.1)=false:=by rfl):PE X (.Call (.Name "isinstance" p) [a,c] [] pos) (ZD (W7 X.K) (Fh ta (Fh tc Kl))):=
 As Rr hg hm PyProof.Rows.boot_isinstance (AA ha (AA hc AB h2) h1) (by decide) (by decide) h1 h3
end
theorem ZM{c:TT}{t u:TS}(hc:∀Q:Bool->Hp->Prop,Q false H1->c σ H Q)(h:u D σ H1):RN c t u D σ H:=hc _ (by rw[qE c7];exact h)
theorem W9{c:TT}{t u:TS}(hc:∀Q:Bool->Hp->Prop,Q true H1->c σ H Q)(h:t D σ H1):RN c t u D σ H:=hc _ (by rw[qF rfl];exact h)
theorem cP{t u:TS}(Z:St->Hp->Prop)(h1:∀N:St->Hp->Prop,(∀σ' H',Z σ' H'->N σ' H')->t {D with nx:=N} σ H)(h2:∀σ' H',Z σ' H'->u D σ' H'):QF t u D σ H:=h1 (u D) h2
noncomputable def R0(ns:qW)(lo hi:Option Int):qW:=(ns.drop (HT.Jj ns.length 0 lo)).take (HT.Jj ns.length ns.length hi-HT.Jj ns.length 0 lo)
theorem R4(ns:qW)(lo hi:Option Int):Kn 1#8 lo hi=(R0 ns lo hi).map 1#0:=by unfold Kn R0;rw[cU,iX,List.map_drop]
theorem R7(k:Nat)(v:V):(List.replicate k [v]).flatten=List.replicate k v:=by
 induction k with
 |zero=>rfl
 |succ k ih=>rw[fW,iG,ih,fW];rfl
def AV(K:qV)(x:Str)(st:Stmt)(f:qR):Prop:=(∃fd,NG K x x st f fd)/\PySem.W.nsIn K mainGlobals x=some (some 5#7)
theorem AX{K:qV}{x:Str}{st:Stmt}{f:qR}{kV pm ct:qQ}(a:PySem.W.nsIn K mainGlobals x=some (some 5#7))
  (l:K.lookup f=some ⟨oc,od,.func (PySem.W.fnOf x x (Dm st) 17#8 6#6 .none kV doc pm an j6 ct),osl⟩) (c:PySem.W.codeIn K j6 x=true) (k:PySem.W.keepIn K 5#7=true):AV K x st f:=
 ⟨⟨_,W5 l c k⟩,a⟩
section
variable{X:Cx}
theorem AY.turnedNew{p:qR}{o:HO}(I:AY X ad σ H s)(hf:∀b∈ch,Ft X ad H b)(k:∀b u,b∉ch->s.heap.get? b=some u->h'.get? b=some u)(hp:0#1<=p)
  (new:Aq X.prog X.w (AZ H p o) h' p o):AY X ad σ (AZ H p o) {s with heap:=h',toks:=t'}:=by
 have hpn:H p=none:=I.hok.fresh hp;have nit:∀b u,H b=some u->b∉ch:=λb u e z=>by rw[(hf b z).1]at e;cases e
 have np:∀b u,s.heap.get? b=some u->b≠p:=λb u e=>dS (cy 9#7 hp)
 refine I.step (g':=s.gens) (d':=s.drawn) (ch:=ch) (λb hb=>⟨(hf b hb).2.2.2.1,(hf b hb).2.1,(hf b hb).2.2.2.2.1,(hf b hb).2.2.2.2.2⟩) (λb u _ _ hc e _=>k b u hc e) (λb u _ _ hc e _=>⟨u.slots,k b u hc e⟩)
  (λb u _ e n=>by rw[AI (np b u e)];exact n) (λb u hc e=>⟨u,k b u hc e⟩) (λb xs e=>by rw[AI (BU e hpn)];exact e) (λb u v e=>by rw[AI (BU e hpn)];exact e)
  (λb ps e=>⟨#[],by rw[AI (BU e hpn),e];simp⟩) (λm hm=>?_) (λb u e=>?_) I.bare
 ·obtain⟨o,es,ep,ho,r⟩:=hm;exact⟨o,es,ep,k _ o (λz=>(hf _ z).2.1 rfl) ho,r⟩
 ·by_cases z:b=p
  ·subst z;rw[AC]at e;cases e;exact new
  ·rw[AI z]at e;refine (I.hok b u e).stay (λc v hc q=>k c v ?_ q) (λc q=>by rw[AI (BU q hpn)];exact q) λc xs q=>by rw[AI (BU q hpn)];exact q
   rcases hc with y|y
   ·rw[y];exact nit b u e
   ·exact nit c _ y
end
noncomputable def ZN(K:qV)(a:qR):It:=
 ⟨λi H=>∃xs x,Aa K H a xs/\xs[i]?=some x,λi H v H'=>∃p x,v=.ref p/\H p=none/\H'=AZ H p (.tup [.int i,x])/\∀xs,Aa K H a xs->xs[i]?=some x,λi H=>∃xs,Aa K H a xs/\0#7<=i⟩
theorem QS{P:qT}{w:qU}{K:qV}{elts:List Expr}{ctx}{tpos:Pos}(a e it:qR)(hne:e≠it):
  Jh P w K 13#3 (ZN K a) [e,it] e (λi h=>(∃old,IsEnum h e it ((i:Nat):Int) old)/\h.IsListIter it a i) where
 mem:=by simp
 obj:=λi h st b hb=>by
  rcases st with⟨⟨old,q⟩,o,e1,c,d⟩;rcases dD.mp hb with z|z
  ·rw[z];exact⟨_,q,λv y=>by cases y⟩
  ·rw[ce.mp z];exact⟨o,e1,λv y=>by rw[d]at y;cases y⟩
 keep:=λi h h' st k=>by obtain⟨⟨old,q⟩,li⟩:=st;exact⟨⟨old,k e (by simp) _ q⟩,li.at λo z=>k it (by simp) o z⟩
 item:=by
  intro X hP hw hK hc i ad s σ H E I hf st hg;subst hP hw hK;rcases hg with⟨xs,x,hq,hx⟩;rcases I.list hq with⟨its,rv,p,hz⟩;obtain⟨u,hu,ru⟩:=rv.get hx;obtain⟨⟨old,he⟩,li⟩:=st;refine wpAny_pyNext_enum_item he li p.isList (x:=u) (by simpa using hu) hne λh1 out li1 ht hsz k1=>?_;refine⟨_,rfl,wpAny_letOwnedTupleGo_enum out λh2 he2 sb=>?_⟩
  have k2:∀b o,b∉[e,it]->s.heap.get? b=some o->h2.get? b=some o:=λb o hb z=>by
   have hb1:b≠e:=λy=>hb (by simp[y])
   have hb2:b≠it:=λy=>hb (by simp[y])
   exact (sb.2 b hb1).trans (k1 b o hb1 hb2 z)
  have hpe:0#1≠e:=hV (cr he);have ht2:h2.get? 0#1=some {cls:=.type "tuple",data:=.seq #[.int ((i:Nat):Int) 5#2,u]}:=(sb.2 _ hpe).trans ht;have hn:H 0#1=none:=I.hok.fresh (cj _);refine⟨.ref 0#1,AZ H s.heap.objs.size (.tup [.int ((i:Nat):Int),x]),I.turnedNew (h':=h2) (t':=5#2+1) hf k2 (cj _) ?_,rfl,⟨_,x,rfl,hn,rfl,λys hy=>by rw[I.list_inj hy hq];exact hx⟩,⟨⟨u,?_⟩,?_⟩,λb hb=>?_⟩
  ·exact⟨by show 2<=sizeLine;decide,[.int ((i:Nat):Int) 5#2,u],.cons ⟨_,rfl⟩ (.cons ru .nil),⟨_,ht2,rfl,_,rfl⟩⟩
  ·have ec:(((i+1:Nat)):Int)=((i:Nat):Int)+1:=by push_cast;rfl
   rw[ec];exact he2
  ·exact li1.at λo z=>(sb.2 it (Ne.symm hne)).trans z
  ·have b0:=(hf b hb).1;rw[AI λz=>?_]
   ·exact b0
   ·obtain⟨o,z1,_⟩:=id li;rcases dD.mp hb with y|y
    ·exact hpe (z.symm.trans y)
    ·exact qG (cr z1) (by rw[<-ce.mp y,z];exact dP _)
 done:=by intro X hP hw hK hc i ad s σ H E I hf st hg;subst hP hw hK;obtain⟨xs,hq,hx⟩:=hg;rcases I.list hq with⟨its,rv,p,hz⟩;obtain⟨⟨old,he⟩,li⟩:=st;rcases hf it (by simp) with⟨f0,f1,f2,f3,f4,f5⟩;have hl:=rv.length;exact wpAny_pyNext_enum_end 6#3 he li p.isList (by simp;lia) λh' eb=>⟨rfl,I.turned (t':=5#2) (λb o hb e=>eb b o hb e) f0 f1 f3 f4 f5⟩
 self:=λ_ _ _ _ _ st h=>by obtain⟨⟨old,he⟩,_⟩:=st;exact wpAny_pyIter_enum he h
section
variable{X:Cx}{elts:List Expr}{ctx}{tpos:Pos}
def ZO(K:qV)(ta:TA):TI:=λσ H R=>ta σ H λvs H1=>∃a xs,vs=[.ref a]/\Aa K H1 a xs/\R (ZN K a) H1
theorem IA{l:Expr}{p pos:Pos}(hg:Gl X "enumerate")(hm:X.mg "enumerate"=none)(ha:PA X [l] ta)(hs:starEach [l] 1#2=[(false,eval l 1#2)]:=by rfl):PI X 13#3 (.Call (.Name "enumerate" p) [l] [] pos) (ZO X.K ta):=by
 intro ad s σ H R I h;refine Call_ (Cq I hg hm boot_enumerate (dh (BM (ha pos ad s σ H _ I h) λus s1 z9=>?_) hs rfl));obtain⟨vs,H1,I1,r1,q1⟩:=z9;obtain⟨a,xs,e,hq,q⟩:=q1;subst e;cases r1 with
 |cons r rr =>
  cases rr;cases r;obtain⟨its,rv,pl,hz⟩:=I1.list hq;refine call_enumerate_list pl.isList λh1 he li hsz k1=>?_;refine wpAny_pyIter_enum he ?_;have n1:H1 (1#4+1)=none:=I1.hok.fresh (iA _);have n0:H1 1#4=none:=I1.hok.fresh (cj _);refine⟨1#4+1,[1#4+1,1#4],_,_,H1,rfl,I1.kept (t':=s1.toks) k1,QS a _ _ (Nat.succ_ne_self _),⟨⟨_,he⟩,li⟩,λb hb=>?_,q⟩;rcases dD.mp hb with z|z
  ·rw[z];exact I1.fpOk (iA _) n1
  ·rw[ce.mp z];exact I1.fpOk (cj _) n0
theorem GK{K:qV}{g:TG}{tb:TS}(Pv:Nat->St->Hp->Prop)(h0:Pv 0 σ H)(hl:∀i σ H,i<=0#7->Pv i σ H->Aa K H a xs)
  (hs:∀i x p σ H,xs[i]?=some x->Pv i σ H->H p=none->g 1#5 σ (AZ H p (.tup [.int ((i:Nat):Int),x])) λσ2 H2=>tb {D with nx:=Pv (i+1),ct:=Pv (i+1),bk:=D.nx} σ2 H2) (hd:∀σ H,Pv xs.length σ H->D.nx σ H):
  ∃W:Nat->Nat->St->Hp->Prop,(∃m,W 0 m σ H)/\∀i m σ H,W i m σ H ->
   ((ZN K a).stop i H/\D.nx σ H)\/((ZN K a).go i H/\∃N:St->Hp->Prop,(∀σ' H',N σ' H'->∃m',m'<m/\W (i+1) m' σ' H')/\∀x H',(ZN K a).yld i H x H'->g x σ H' λσ2 H2=>tb {D with nx:=N,ct:=N,bk:=D.nx} σ2 H2):=by
 refine⟨λi m σ H=>m=0#7-i/\i<=0#7/\Pv i σ H,⟨0#7,by simp,Nat.zero_le _,h0⟩,?_⟩;rintro i m σ H ⟨rfl,hi,p⟩;have q:=hl i σ H hi p
 by_cases hlt:i<xs.length
 ·refine .inr ⟨⟨xs,xs[i],q,by simp[hlt]⟩,Pv (i+1),λσ' H' p'=>⟨0#7-(i+1),by lia,rfl,hlt,p'⟩,λv H' y=>?_⟩;rcases y with⟨p2,x,e1,e2,e3,y⟩;subst e1 e3;exact hs i x p2 σ H (y xs q) p e2
 ·have e:i=0#7:=by lia
  subst e;exact .inl ⟨⟨xs,q,cj _⟩,hd σ H p⟩
end
theorem Kv:∀{xs:List V} {us:List qQ},0#7=6#1->(∀(i:Nat) (x:V) (u:qQ),xs[i]?=some x->us[i]?=some u->Az x u)->Av xs us
 |[],[],_,_=>.nil
 |x::xs,u::us,hl,h=>.cons (h 0 x u rfl rfl) (Kv (by simpa using hl) λi y v e1 e2=>h (i+1) y v (by simpa using e1) (by simpa using e2))
 |[],_::_,hl,_=>by simp at hl
 |_::_,[],hl,_=>by simp at hl
noncomputable def NV(n:Nat):qW:=(List.range n).map λi:Nat=>(i:Int)
theorem R9{n:Nat}(h:i<n):(NV n)[i]?=some (i:Int):=by unfold NV;rw[13#6,List.getElem?_range h];rfl
theorem GL(n:Nat):(NV n).length=n:=by unfold NV;rw[2#8,4#1]
section
variable{X:Cx}
def Ol(ta:TA):TE:=λσ H Q=>ta σ H λvs H1=>∃j:Int,vs=[.int j]/\0<=j/\j<=1000/\∀p,H1 p=none->Q 1#5 (AZ H1 p (.lst ((NV j.toNat).map 1#0)))
theorem QT{l:Expr}{p1 p2 pos1 pos2:Pos}(hc:19#9=true)(hg:Gl X "range")(hm:X.mg "range"=none)(hg2:Gl X "list")(hm2:X.mg "list"=none)(ha:PA X [l] ta)(hs:starEach [l] 1#2=[(false,eval l 1#2)]:=by rfl)
  (hs2:starEach [.Call (.Name "range" p1) [l] [] pos1] 1#2=[(false,eval (.Call (.Name "range" p1) [l] [] pos1) 1#2)]:=by rfl):
  PE X (.Call (.Name "list" p2) [.Call (.Name "range" p1) [l] [] pos1] [] pos2) (Ol ta):=by
 intro ad s σ H Q I h;refine Call_ (Cq I hg2 hm2 ie (dh (T:="list") ?_ hs2 rfl));rw[hs2];show wpAny _ _ (spliced ((false,eval (.Call (.Name "range" p1) [l] [] pos1) 1#2)::[])) _ _ s;refine Calls.spliced_cons (Call_ (Cq I hg hm boot_range (dh (BM (ha pos1 ad s σ H _ I h) λus s1 z9=>?_) hs rfl)));obtain⟨vs,H1,I1,r1,q1⟩:=z9;obtain⟨j,e,j0,j1,q⟩:=q1;subst e;cases r1 with
 |cons r rr =>
  cases rr;obtain⟨t,rfl⟩:=r;refine call_range_1 (Calls.spliced_nil ?_);have sm:Builtin.Range.small 0 j 1=true:=small_one (by lia) (by lia) (by lia) (by lia);refine call_list_range 6#3 (IsRange.new ..) sm (n:=j.toNat) (by rw[rangeSize_one];split<;>lia) (by lia) λh1 tk j5 c' k1 hD hacc=>?_;have k2:∀b o,s1.heap.get? b=some o->h1.get? b=some o:=λb o z=>k1 b o (cm _ z)
  refine⟨.ref _,_,I1.laid (t':=tk) k2 (by rw[fL];lia) ?_,rfl,q _ (I1.hok.fresh (by rw[fL];lia))⟩;refine⟨by rw[2#8,GL];exact Ry (by lia),j5.toList,c',?_,by simpa using hD⟩;refine Kv (by rw[cU,GL,eu,hacc.1]) λi x u e1 e2=>?_
  have hi:i<j.toNat:=by have z:=(cW.mp e1).1;rw[cU,GL]at z;exact z
  rw[cn,R9 hi]at e1;cases e1;obtain⟨t',z⟩:=hacc.2 i u (by simpa using e2);exact⟨t',by rw[z,dO,ig]⟩
end
section
variable{X:Cx}{a:Expr}{cs:List Expr}{ta:TE}{tc:TA}{p tpos:Pos}{ctx}
noncomputable def SA(K:qV):List V->Hp->VK->Prop
 |[x,c],H,Q=>∃t tp vs us b,ZJ K H x t/\c=.ref tp/\H tp=some (.tup vs)/\vs.map Rq=us.map some/\PySem.W.kitAny K t us=some b/\Q (.bl b) H
 |_,_,_=>False
theorem Lc:∀{vs:List V} {its us:List qQ},Av vs its->vs.map Rq=us.map some->its=us
 |_,_,[],.nil,_=>rfl
 |_,_,_::_,.nil,e=>by simp at e
 |_,_,[],.cons _ _,e=>by simp at e
 |x::xs,_,u::us,.cons r rr,e=>by
  simp only[List.map_cons,List.cons.injEq]at e;obtain⟨e1,e2⟩:=e;rw[Lc rr e2]
  congr 1
  cases x with
  |ty n=>cases e1;exact r
  |ref a=>cases e1;exact r
  |_=>cases e1
theorem XA{x:V}{v t:qQ}(I:AY X ad σ H s)(rx:Az x v)(ty:ZJ X.K H x t):(∃φ,PySem.W.KitX X.K v t φ/\φ 20#3)/\v≠.builtin "__main__.__loader__#opaque":=by
 cases ty with
 |of ty =>
  cases ty with
  |non=>cases (show v=Value.none from rx);exact⟨⟨_,PySem.W.kitx_none,6#9⟩,λz=>nomatch z⟩
  |bl y=>cases (show v=Value.bool y from rx);exact⟨⟨_,PySem.W.kitx_bool,6#9⟩,λz=>nomatch z⟩
  |int i=>obtain⟨t,q⟩:=(show ∃t,v=Value.int i t from rx);cases q;exact⟨⟨_,PySem.W.kitx_int,6#9⟩,λz=>nomatch z⟩
  |str y=>obtain⟨t,q⟩:=(show ∃t,v=Value.str y t from rx);cases q;exact⟨⟨_,PySem.W.kitx_str,6#9⟩,λz=>nomatch z⟩
  |flt y=>obtain⟨t,q⟩:=(show ∃t,v=Value.float y t from rx);cases q;exact⟨⟨_,PySem.W.kitx_float,6#9⟩,λz=>nomatch z⟩
  | @lst a xs ea =>
   cases (show v=Value.ref a from rx);obtain⟨_,_,n,_,h1⟩:=(show Aq X.prog X.w H s.heap a 3#6 from I.hok a _ ea);exact⟨⟨_,ii,⟨_,h1,rfl⟩⟩,λz=>nomatch z⟩
  | @frz a ob xs ea =>
   cases (show v=Value.ref a from rx);obtain⟨_,_,_,n,_,h1⟩:=(show Aq X.prog X.w H s.heap a (.frz ob 3#6) from I.hok a _ ea);exact⟨⟨_,ii,⟨_,h1,rfl⟩⟩,λz=>nomatch z⟩
  | @tup a xs ea =>
   cases (show v=Value.ref a from rx);obtain⟨_,_,_,p⟩:=(show Aq X.prog X.w H s.heap a 9#0 from I.hok a _ ea);obtain⟨o,h1,h2,_⟩:=p;exact⟨⟨_,PySem.W.kitx_tuple,⟨o,h1,h2⟩⟩,λz=>nomatch z⟩
  | @dK a kvs ea =>
   cases (show v=Value.ref a from rx);obtain⟨_,_,vs,_,p⟩:=(show Aq X.prog X.w H s.heap a 5#1 from I.hok a _ ea);obtain⟨o,es,ep,h1,h2,_⟩:=p;exact⟨⟨_,io,⟨o,h1,h2.1⟩⟩,λz=>nomatch z⟩
  | @dT a kvs ea =>
   cases (show v=Value.ref a from rx);obtain⟨_,_,xs,_,o,es,ep,h1,h2,_⟩:=(show Aq X.prog X.w H s.heap a 19#5 from I.hok a _ ea);exact⟨⟨_,io,⟨o,h1,h2.1⟩⟩,λz=>nomatch z⟩
  | @ins a C dx fs ea cl ha hn htk hm =>
   cases (show v=Value.ref a from rx);obtain⟨mA,O,_⟩:=Oe I.hok ea;obtain⟨od,J,_⟩:=O.look;exact⟨⟨_,PySem.W.kitx_own (cl.get _) cl.hd ha hn htk hm,J⟩,λz=>nomatch z⟩
 | @exc a D dy n e ck =>
  cases (show v=Value.ref a from rx);obtain⟨x,_,_⟩:=(show Aq X.prog X.w H s.heap a (.ext (HM a 2#1 _ _)) from I.hok a _ e);exact⟨⟨_,LZ ck,x⟩,λz=>nomatch z⟩
theorem QU:Co X (.builtin "isinstance") (SA X.K):=by
 intro ad s σ H xs us Q I rv h;rcases xs with _|⟨x,_|⟨c,_|⟨_,_⟩⟩⟩
 ·exact h.elim
 ·exact h.elim
 rotate_left
 ·exact h.elim
 rcases h with⟨t,tp,vs,ucs,b,ty,rfl,ht,hcs,k,q⟩;rcases Od rv with⟨v1,v2,rfl,r1,r2⟩;cases (show v2=Value.ref tp from r2);rcases (show Aq X.prog X.w H s.heap tp (.tup vs) from I.hok tp _ ht) with⟨_,its,rits,o,ho,hcl,n,hd⟩;rcases o with⟨c1,c2,c3,c4⟩;dsimp only at hcl hd;subst hcl hd;have e:=Lc rits hcs;subst e;rcases XA I r1 ty with⟨⟨φ,Z,hφ⟩,hx⟩;exact PySem.W.kia_tup Z I.kIn hφ ho k hx λtk=>⟨.bl b,H,I.tok tk,rfl,q⟩
theorem Up(hg:Gl X "isinstance")(hm:X.mg "isinstance"=none)(ha:PE X a ta)(hc:PA X cs tc)(h1:starEach [a,.Tuple cs ctx tpos] 1#2=(false,eval a 1#2)::starEach [.Tuple cs ctx tpos] 1#2:=by rfl)
  (h2:starEach [.Tuple cs ctx tpos] 1#2=(false,eval (.Tuple cs ctx tpos) 1#2)::starEach [] 1#2:=by rfl)
  (h3:(backTo pos (starEach [.Tuple cs ctx tpos] 1#2)).any (·.1)=false:=by rfl):PE X (.Call (.Name "isinstance" p) [a,.Tuple cs ctx tpos] [] pos) (ZD (SA X.K) (Fh ta (Fh (Wx tc) Kl))):=
 As QU hg hm PyProof.Rows.boot_isinstance (AA ha (AA (DA hc) AB h2) h1) (by decide) (by decide) h1 h3
end
section
variable{K:qV}
theorem ZP:PySem.W.kitOne K (.type "int") (.type "int")=some true:=by kernel_rfl
theorem ZQ:PySem.W.kitOne K (.type "int") (.type "bool")=some false:=by kernel_rfl
theorem ZR:PySem.W.kitOne K (.type "bool") (.type "int")=some true:=by kernel_rfl
theorem Vy:PySem.W.kitOne K (.type "bool") (.type "bool")=some true:=by kernel_rfl
theorem ZS:PySem.W.kitOne K (.type "NoneType") (.type "int")=some false:=by kernel_rfl
theorem ZT:PySem.W.kitOne K (.type "str") (.type "int")=some false:=by kernel_rfl
theorem ZU:PySem.W.kitOne K (.type "list") (.type "int")=some false:=by kernel_rfl
theorem ZV:PySem.W.kitOne K (.type "list") (.type "list")=some true:=by kernel_rfl
theorem ZW:PySem.W.kitOne K (.type "tuple") (.type "int")=some false:=by kernel_rfl
end
structure B2(P:qT)(w:qU)(K:qV)(mg:Str->Option qQ)(base:Heap)(k:Nat)(f:qR)(ps:List Str)(sp:Sp):Prop where
 ex:∃fd,Fu P w K mg base 12#1 k f fd ps sp/\HK K fd ps []
 kp:PySem.W.keepIn K 5#7=true
section
variable{P:qT}{w:qU}{K:qV}{mg:Str->Option qQ}{base:Heap}{x:Str}{st:Stmt}{f:qR}{N:List Str}{k:Nat}
theorem NG.ok0(F:NG K x qual st f fd)(S:AJ N ps 6#6)(len:∀vs H Q E,sp vs H Q E->3#2=3#0)
  (hbody:∀(j6:qQ) (A:Around) (outer:List Env) (s:qS) (H:Hp) (vs:List V) (Q:VK) (E:XK),CM k 11#3->sp vs H Q E ->
   ∃t,HE (Ej 12#1 P w K mg base N qual 6#6 f j6 A outer s H E).nox 17#8 t/\t {nx:=λ_ H'=>Q .non H',rt:=Q} 12#5 H):Fu P w K mg base 12#1 (k+1) f fd ps sp:=
 F.okX S len λj6 A outer s H vs Q E hr hsp=>by obtain⟨t,h,q⟩:=hbody j6 A outer s H vs Q E hr hsp;exact⟨t,h.nox,q⟩
abbrev Ew(x qual:Str)(st:Stmt)(ps:List Str):Prop:=∀(kV doc pm:qQ) (an:Option qR) (j6 ct:qQ) (us:List qQ),us.length=ps.length->bindArgs (PySem.W.fnOf x qual (Dm st) (Bm st) (AH st) .none kV doc pm an j6 ct) ⟨us,[]⟩=pure (ps.zip us)
theorem Uq(D:∃fd,NG K x qual st f fd)(S:AJ N ps 6#6)(bd:Ew x qual st ps)(len:∀vs H Q E,sp vs H Q E->3#2=3#0)
  (hbody:∀(j6:qQ) (A:Around) (outer:List Env) (s:qS) (H:Hp) (vs:List V) (Q:VK) (E:XK),CM k 11#3->sp vs H Q E ->
   ∃t,HE (Ej 12#1 P w K mg base N qual 6#6 f j6 A outer s H E).nox 17#8 t/\t {nx:=λ_ H'=>Q .non H',rt:=Q} 12#5 H):B2 P w K mg base (k+1) f ps sp:=by
 obtain⟨fd,F⟩:=D;exact⟨⟨fd,F.ok0 S len hbody,F.binds bd⟩,F.kp⟩
theorem Ur(D:∃fd,NG K x qual st f fd)(S:AJ N ps 6#6)(bd:Ew x qual st ps)(len:∀vs H Q E,sp vs H Q E->3#2=3#0)
  (hbody:∀(j6:qQ) (A:Around) (outer:List Env) (s:qS) (H:Hp) (vs:List V) (Q:VK) (E:XK),CM k 11#3->sp vs H Q E ->
   ∃t,HE 13#9 17#8 t/\t {nx:=λ_ H'=>Q .non H',rt:=Q} 12#5 H):B2 P w K mg base (k+1) f ps sp:=by
 obtain⟨fd,F⟩:=D;exact⟨⟨fd,F.okX S len hbody,F.binds bd⟩,F.kp⟩
end
section
variable{X:Cx}{k:Nat}{f:qR}{E:St->XK}{EX:XK}{x:Str}{np p cpos:Pos}{e:Expr}{t:TA}
theorem Bh(G:B2 X.prog X.w X.K X.mg X.base k f ps sp)(hr:CM k X.A)(hg:Gl X x)(hm:X.mg x=some 5#7)(hx:GJ (J7 X.prog X.w) X E)
  (ha:PA X (e::es) t) (hdb:(x==("__debug__":Str))=false:=by decide) (he:starEach (e::es) 1#2=(false,eval e 1#2)::starEach es 1#2:=by rfl) (hpl:(backTo pos 4#2).any (·.1)=false:=by rfl):
  PE X (.Call 18#2 (e::es) [] pos) (Ku sp [] E t):=by
 rcases G with⟨⟨fd,F,b⟩,kp⟩;exact Rn F hr hg hm kp b .nil hx ha hdb he hpl
theorem DM{i:Int}(hg:Gl X x)(hm:∃t,X.mg x=some 18#1)(hd:(x==("__debug__":Str))=false:=by decide):PE X 7#8 (tC 8#3):=by obtain⟨t,hm⟩:=hm;exact Rz hg hm hd
end
inductive SB(K:qV)(vs:List V)(H:Hp)(Q:VK)(z3_:XK):Prop
 |m (a:qR) (ns:qW) (k:Nat):vs=[.ref a,.int k]->Aa K H a 1#8->1#6<=63->Q (.int (ns.getD k 0)) H->SB K vs H Q z3_
noncomputable def Kd(H:Hp):V->Prop
 |.int _=>True
 |.bl _=>True
 |.non=>True
 |.str _=>True
 |.ref a=>∃xs,H a=some 3#6\/H a=some 9#0
 |_=>False
theorem Kd.same(e:AG H H'):∀{x:V},Kd H x->Kd H' x
 |.int _,_=>6#9
 |.bl _,_=>6#9
 |.non,_=>6#9
 |.str _,_=>6#9
 |.ref a,h=>by obtain⟨xs,h⟩:=h;exact⟨xs,h.elim (λq=>.inl (e _ _ q)) λq=>.inr (e _ _ q)⟩
noncomputable def bM:V->Bool
 |.int _=>true
 |_=>false
inductive Om(vs:List V)(H:Hp)(Q:VK)(z3_:XK):Prop
 |m (x:V):vs=[x]->Kd H x->Q (.bl (bM x)) H->Om vs H Q z3_
noncomputable def UQ(g:Int):V->Bool
 |.int i=>decide (0<=i)&&decide (i<g)
 |_=>false
inductive SC(vs:List V)(H:Hp)(Q:VK)(z3_:XK):Prop
 |m (x:V) (g:Int):vs=[x,.int g]->Kd H x->Q (.bl (UQ g x)) H->SC vs H Q z3_
noncomputable def Cb(g:Int)(xs:List V):Option Nat:=xs.findIdx? λx=>!UQ g x
noncomputable def NW(g n:Int)(ns:qW):Int:=ns.foldl (λm x=>m*g+x) n
noncomputable def An(g:Int)(ns:qW):Int:=NW g 0 ns
variable{g:Int}
theorem Fw(h:Cb g xs=none):∃ns:qW,xs=ns.map 1#0/\∀n∈ns,0<=n/\n<g:=by
 unfold Cb at h;rw[iN]at h
 induction xs with
 |nil=>exact⟨[],rfl,λn z=>qG z (by simp)⟩
 |cons x xs ih =>
  obtain⟨ns,e,b⟩:=ih λy hy=>h y (c8 _ hy)
  have hx:=h x dH;cases x with
  |int i =>
   simp only[UQ,Bool.not_eq_false',Bool.and_eq_true,decide_eq_true_eq]at hx;exact⟨i::ns,by rw[e];rfl,λn z=>(dD.mp z).elim (λq=>q▸hx) (b n)⟩
  |_=>simp[UQ]at hx
theorem Fx{ns:qW}(h:∀n∈ns,0<=n/\n<g):Cb g 1#8=none:=by unfold Cb;rw[iN];intro x hx;obtain⟨n,hn,e⟩:=dG.mp hx;subst e;have q:=h n hn;simp[UQ,q.1,q.2]
theorem FN{ns:qW}:∀x∈ns.map 1#0,Kd H x:=λx hx=>by obtain⟨n,_,e⟩:=dG.mp hx;subst e;exact 6#9
end L2
namespace L2
open PySem
variable{D:Ho}{H':Hp}{g:Int}{i:Nat}{xs:List V}{σ:St}
theorem EO{t:TS}(Z:Hp->Prop)(hz:Z H')(h:∀H2,Z H2->t D σ H2):t D σ H':=h H' hz
theorem D1{ns ms:qW}(h:ns.map 1#0=ms.map 1#0):ns=ms:=(List.map_inj_right (f:=1#0) λ_ _ e=>V.int.inj e).mp h
theorem NX{x:V}(hb:Cb g (xs.take i)=none)(hx:xs[i]?=some x)(hs:UQ g x=true):Cb g (xs.take (i+1))=none:=by
 unfold Cb at *;rw[iN]at hb⊢;intro y hy;rw[gu,hx]at hy;rcases cZ.mp hy with z|z
 ·exact hb y z
 ·have e:y=x:=by simpa using z
  rw[e,hs];rfl
theorem NY{x:V}(hb:Cb g (xs.take i)=none)(hx:xs[i]?=some x)(hs:UQ g x=false):Cb g xs=some i:=by
 obtain⟨hi,ex⟩:=cW.mp hx
 have e:xs=xs.take i++x::xs.drop (i+1):=by rw[<-ex,<-fB hi,eI]
 unfold Cb at *;rw[e,List.findIdx?_append,hb];simp[List.findIdx?_cons,hs,List.length_take];lia
theorem CK{ns:qW}{x:V}(h:(ns.map 1#0)[i]?=some x):∃n,ns[i]?=some n/\x=.int n:=by rw[cn]at h;obtain⟨n,e1,e2⟩:=dq.mp h;exact⟨n,e1,e2.symm⟩
theorem Ia{n:Int}{ns:qW}(h:ns[i]?=some n):An g (ns.take (i+1))=An g (ns.take i)*g+n:=by unfold An NW;rw[gu,h,iH];rfl
noncomputable def low(g:Int):qW->Int
 |[]=>0
 |x::r=>x+g*low g r
theorem Ld(g x:Int):∀l:qW,low g (l++[x])=low g l+x*g^7#6
 |[]=>by simp[low]
 |y::l=>by
  rw[iO,low,low,Ld g x l,d5,dj,Int.mul_add,Int.add_assoc]
  congr 2
  rw[ej g,Int.mul_assoc]
theorem D4(g x:Int)(l:qW):An g (l++[x])=An g l*g+x:=by unfold An NW;rw[iH];rfl
theorem Kw(g:Int):∀l:qW,An g l.reverse=low g l
 |[]=>rfl
 |x::l=>by rw[List.reverse_cons,D4,Kw g l,low,ej,fZ]
theorem On(g:Int)(ns:qW):An g ns=low g ns.reverse:=by rw[<-Kw,iL]
end L2
namespace L2
open PySem PySem.Spec PyProof.Rows
variable{C a it:qR}{D:Ho}{E Q:qQ->qS->Prop}{H H' H2:Hp}{T:String}{fp:List qR}{h' h1:Heap}{i:Nat}{items:Array qQ}{lo:Int}{ad:List (qR×Obj)}{s s':qS}{scope:Scope}{ta:TA}{te:TE}{u:qQ}{xs:List V}{α:Type}{σ:St}
mutual
inductive EQ(K:qV)(H:Hp):V->PyData->Prop
 |non:EQ K H .non .none
 |bl (b:Bool):EQ K H (.bl b) (.bool b)
 |int (i:Int):EQ K H 8#3 8#3
 |str (x:Str):EQ K H (.str x) (.str x)
 |lst {a:qR} {xs:List V} {ds:List PyData}:Aa K H a xs->Gm K H xs ds->EQ K H 2#6 (.list ds)
 |tup {a:qR} {xs:List V} {ds:List PyData}:Ai K H a xs->Gm K H xs ds->EQ K H 2#6 (.tuple ds)
inductive Gm(K:qV)(H:Hp):List V->List PyData->Prop
 |nil:Gm K H [] []
 |cons {x:V} {xs:List V} {d:PyData} {ds:List PyData}:EQ K H x d->Gm K H xs ds->Gm K H (x::xs) (d::ds)
end
section
variable{X:Cx}
theorem EQ.reads(I:AY X ad σ H s){x:V}{d:PyData}(h:EQ X.K H x d)(r:Az x u):∃as,Reads s.heap u d as:=by
 revert u
 refine EQ.rec (motive_1:=λx d _=>∀{u:qQ},Az x u->∃as,Reads s.heap u d as) (motive_2:=λxs ds _=>∀{us:List qQ},Av xs us->∃as,ReadsAll s.heap us ds as) ?_ ?_ ?_ ?_ ?_ ?_ ?_ ?_ h
 ·intro _ r;cases r;exact⟨_,.none⟩
 ·intro b _ r;cases r;exact⟨_,.bool b⟩
 ·intro i _ r;obtain⟨t,e⟩:=r;subst e;exact⟨_,.int i t⟩
 ·intro x _ r;obtain⟨t,e⟩:=r;subst e;exact⟨_,.str x t⟩
 ·intro _ _ _ hq _ ih _ r;cases r;obtain⟨its,rv,⟨o,n,e,c,_,d⟩,_⟩:=I.list hq;obtain⟨as,q⟩:=ih rv;exact⟨_,.list e c d (by simpa using q)⟩
 ·intro _ _ _ hq _ ih _ r;cases r;obtain⟨its,rv,⟨o,e,c,n,d⟩,_⟩:=I.tuple hq;obtain⟨as,q⟩:=ih rv;exact⟨_,.tuple e c d (by simpa using q)⟩
 ·intro _ r;cases r;exact⟨_,.nil⟩
 ·intro _ _ _ _ _ _ ih1 ih2 _ r;cases r with
  |cons r rr =>
   obtain⟨as,q⟩:=ih1 r;obtain⟨bs,q2⟩:=ih2 rr;exact⟨_,.cons q q2⟩
def bN(K:qV):R2:=λx y H Q=>∃d e,EQ K H x d/\EQ K H y e/\d.canLay0=true/\e.canLay0=true/\d.depth<=60/\Q (.bl (PyData.eqv d e)) H
theorem XB(hu:7#2+64<cLine):Es X (compareOp .Eq) (bN X.K):=by intro ad s σ H x y v u Q I rx ry h;obtain⟨d,e,hd,he,c1,c2,dd,q⟩:=h;obtain⟨as,r1⟩:=hd.reads I rx;obtain⟨bs,r2⟩:=he.reads I ry;have z:=SeqAt.rcAt_reads (A:=X.A) r1 r2 c1 c2 (by have:=Nat.min_le_left d.depth e.depth;lia);exact z X.prog X.w X.xe _ ⟨.bl _,H,I,rfl,q⟩
end
theorem Ic{K:qV}:∀ns:qW,Gm K H 1#8 8#0
 |[]=>.nil
 |n::ns=>.cons (.int n) (Ic ns)
theorem Ie:∀ns:qW,PyData.canLayAll0 8#0=true
 |[]=>by simp only[List.map_nil,PyData.canLayAll0]
 |n::ns=>by simp only[List.map_cons,PyData.canLayAll0,PyData.canLay0,Ie ns,Bool.and_self]
theorem cT{K:qV}{t:qQ}(h:PySem.W.kitOne K t (.type T)=some true)(r:List qQ):PySem.W.kitAny K t (.type T::r)=some true:=by unfold PySem.W.kitAny;rw[h]
theorem DY{X:Cx}{K:qV}(h:X.K=K):Vt X (Ra K):=h▸Oi
theorem Oo{X:Cx}{K:qV}(h:X.K=K):Vt X (Ue K):=h▸Rb
noncomputable def Ed(X:Cx)(s2:qS)(H2:Hp)(env:Env)(fp:List qR)(N:List Str):Cx:={X with N:=N,s₀:=s2,H₀:=H2,env:=env,outer:=6#4,ex:=fp,fn:=λ_=>false,pn:=[],xe:=λ_ _=>False}
theorem Vz{X:Cx}{s2:qS}{env:Env}{N:List Str}:(Ed X s2 H2 env fp N).K=X.K:=rfl
noncomputable def Hq(env:Env):List (Str×qR)->Prop
 |[]=>True
 | (y,c)::r=>env.cells.lookup y=some c/\Hq env r
theorem Hq.at'{env:Env}:∀{cl:List (Str×qR)},Hq env cl->∀{y:Str} {c:qR},cl.lookup y=some c->env.cells.lookup y=some c
 |[],_,_,_,h=>by cases h
 | (z,d)::r,⟨h1,h2⟩,y,c,h=>by
  rw[gq]at h;cases e:y==z with
  |true =>
   rw[e]at h;cases h;rw[eq_of_beq e];exact h1
  |false =>
   rw[e]at h;exact h2.at' h
noncomputable def au:Option NameKind->Bool
 |some .cell=>true
 |some .free=>true
 |_=>false
theorem SD{k:Option NameKind}(h:au k=true):k=some .cell\/k=some .free:=by
 unfold au at h
 split at h
 ·exact .inl rfl
 ·exact .inr rfl
 ·cases h
noncomputable def Ig(X:Cx)(scope:Scope)(cl:List (Str×qR)):List (Nat×Str)->Prop
 |[]=>True
 | (j,y)::r=>(X.N[j]?=some y/\au (X.env.scope.names.lookup y)=true/\(relabel scope 1#2).names.lookup y=X.env.scope.names.lookup y/\(cl.lookup y).isSome=true)/\Ig X scope cl r
theorem Ig.at'{X:Cx}{cl:List (Str×qR)}:∀{fv:List (Nat×Str)},Ig X scope cl fv->∀q∈fv,X.N[q.1]?=some q.2/\au (X.env.scope.names.lookup q.2)=true/\(relabel scope 1#2).names.lookup q.2=X.env.scope.names.lookup q.2/\(cl.lookup q.2).isSome=true
 |[],_,q,h=>by cases h
 | (j,y)::r,⟨h1,h2⟩,q,h=>(dD.mp h).elim (λe=>by rw[e];exact h1) λz=>h2.at' q z
noncomputable def Du(σ:St)(fv:List (Nat×Str)):List (Option V):=fv.map λq=>(σ[q.1]?).join
def PF(X:Cx)(ifs:List Expr)(t:TT):Prop:=∀(ad:List (qR×Obj)) (s:qS) (σ:St) (H:Hp) (Q:Bool->Hp->Prop),AY X ad σ H s->t σ H Q ->
 wpAny 0#4 X.A (forIn ifs true λc r=>if r=true then do let ok <-isTrue c X.env (eval c 1#2);pure (ForInStep.yield ok) else pure (ForInStep.yield r)) (TP X ad σ Q) X.xe s
def SE:TT:=λ_ H Q=>Q true H
theorem Cs{X:Cx}:PF X [] SE:=λad s σ H Q I h=>qD ⟨H,I,h⟩
theorem Fy{X:Cx}{c:Expr}{t:TT}(h:PT X c t):PF X [c] t:=λad s σ H Q I q=>by simp only[List.forIn_cons,List.forIn_nil,if_true];exact qC (qC (BM (h ad s σ H Q I q) λb s1 z=>qD (qD z)))
def Ex(J:It)(tt:TT)(te:TE)(σf:List (Option V))(D:qR)(Q:VK)(H:Hp):Prop:=∃W:Nat->Nat->List V->Hp->Prop,(∃n,W n 0 [] (AZ H D (.lst [])))/\∀n i j5 H2,W n i j5 H2 ->
 (J.stop i H2/\Q 2#1 H2)\/(J.go i H2/\∃N:List V->Hp->Prop,(∀l H',N l H'->∃n',n'<n/\W n' (i+1) l H')/\∀v H3,J.yld i H2 v H3->tt (some v::σf) H3 λb H4 =>
  if b=true then te (some v::σf) H4 λy H5=>H5 D=some 5#0/\j5.length<sizeLine/\N (j5++[y]) (AZ H5 D (.lst (j5++[y]))) else N j5 H4)
def SF(wi:TI)(fv:List (Nat×Str))(tt:TT)(te:TE):TE:=λσ H Q=>wi σ H λJ H1=>∀D,H1 D=none->Ex J tt te (Du σ fv) D Q H1
section
variable{X:Cx}{x:Str}{px pos:Pos}{elt iter:Expr}{ifs:List Expr}{scope:Scope}{cl:List (Str×qR)}{fv:List (Nat×Str)}{wi:TI}{tt:TT}{te:TE}
 {ad:List (qR×Obj)} {σ:St} {H2:Hp} {s2:qS} {fp:List qR} {it:qR} {tn:Nat->Heap->Prop} {J:It}
theorem SG{N:List Str}(I2:AY X ad σ H2 s2)(f2:∀b∈fp,Ft X ad H2 b)(o2:∀b∈fp,∃o,s2.heap.get? b=some o/\∀v,9#1≠.cell v)(hC:2#9<=C)(hk:12#6=.function)(hcl:Hq X.env cl)
  (hhas:((relabel scope 1#2).names.all λz=>!(z.2==.cell||z.2==.free)||(cl.lookup z.1).isSome)=true):(Ed X s2 H2 0#5 fp N).Ok where
 mod:=I2.ok.mod
 kind:=hk
 glob:=I2.ok.glob
 blt:=I2.ok.blt
 above:=hC
 inj:=λx y c h1 h2=>I2.ok.inj x y c (hcl.at' h1) (hcl.at' h2)
 has:=λy h=>by
  have key:∀k:NameKind,(relabel scope 1#2).names.lookup y=some k->(k==.cell||k==.free)=true->∃c,cl.lookup y=some c:=λk hl hk=>by
   have mem:(y,k)∈(relabel scope 1#2).names:=by
    generalize (relabel scope 1#2).names=l at hl
    induction l with
    |nil=>cases hl
    |cons q r ih =>
     rw[gq]at hl;cases e:y==q.1 with
     |true =>
      rw[e]at hl;cases hl;rw[eq_of_beq e];exact dH
     |false =>
      rw[e]at hl;exact c8 _ (ih hl)
   have z:=i8.mp hhas _ mem;simp only[hk,Bool.not_true,Bool.false_or]at z;exact gP.mp z
  rcases h with h|h
  ·exact key _ h rfl
  ·exact key _ h rfl
 cab:=λ_ _ h=>nomatch h
 hd:=I2.ok.hd
 frames:=I2.ok.frames
 stk:=.inl rfl
 exf:=λb hb=>by obtain⟨o,e,_⟩:=o2 b hb;exact⟨dS (cy 9#7 hC),λy c h=>(f2 b hb).2.2.2.2.1 y c (hcl.at' h)⟩
 bs:=λb o e=>I2.bs b o e
 bsz:=dM I2.ok.bsz I2.sz
 noex:=λb o e hb=>by
  obtain⟨_,_,_,h,_⟩:=f2 b hb;rcases h with h|h
  ·exact I2.ok.noex b o e h
  ·exact qG (cy 9#7 (dM I2.ok.bsz h)) (dP _)
 exfs:=λb hb z=>(dD.mp (I2.stkSub b z)).elim (f2 b hb).2.1 (f2 b hb).2.2.1
 funs:=I2.stack
 frf:=I2.stkFree
theorem Ih{env:Env}{N:List Str}{σ':St}{pl:List (qR×Obj)}(I2:AY X ad σ H2 s2)(f2:∀b∈fp,Ft X ad H2 b)(Ib:AY (Ed X s2 H2 env fp N) pl σ' H' s'):AY X ad σ H' s':=
 I2.call' (ch:=fp) Ib.os Ib.base Ib.hok Ib.bare λb hb=>⟨(f2 b hb).2.2.2.1,(f2 b hb).2.1,(f2 b hb).2.2.2.2.1,(f2 b hb).2.2.2.2.2⟩
theorem XC{D:qR}{t1:Nat}(I2:AY X ad σ H2 s2)(f2:∀b∈fp,Ft X ad H2 b)(o2:∀b∈fp,∃o,s2.heap.get? b=some o/\∀v,9#1≠.cell v)(hD:2#9<=D)(hC:2#9<=C)(hDC:D≠C)
  (old:∀b o,s2.heap.get? b=some o->h1.get? b=some o) (hl:h1.PlainList D #[]) (hn:h1.Ns C (λ_=>none)) (hk:12#6=.function) (hcl:Hq X.env cl)
  (hhas:((relabel scope 1#2).names.all λz=>!(z.2==.cell||z.2==.free)||(cl.lookup z.1).isSome)=true) (hfv:Ig X scope cl fv):
  AY (Ed X s2 H2 0#5 fp (x::fv.map (·.2))) [] (none::Du σ fv) (AZ H2 D (.lst [])) {s2 with heap:=h1,toks:=t1} where
 ok:=SG I2 f2 o2 hC hk hcl hhas
 os:=rfl
 bare:=I2.bare
 base:=Un.laid old hD (I2.hok.fresh hD)
 loc:=by
  refine⟨_,hn,λi y v h1' h2' _=>?_⟩;cases i with
  |zero=>cases h2'
  |succ i =>
   have h1':(fv.map (·.2))[i]?=some y:=h1';have h2':(Du σ fv)[i]?=some 11#0:=h2'
   obtain⟨q,hq,e1⟩:∃q,fv[i]?=some q/\q.2=y:=by rw[cn]at h1';exact dq.mp h1'
   subst e1;rcases hfv.at' q (cw hq) with⟨g1,g2,g3,g4⟩;unfold Du at h2';rw[cn,hq]at h2';have e2:(σ[q.1]?).join=some v:=Option.some.inj h2'
   have e3:σ[q.1]?=some 11#0:=by
    cases z:σ[q.1]? with
    |none=>rw[z]at e2;cases e2
    |some w=>rw[z]at e2;exact qP some e2
   obtain⟨m,_,lk⟩:=I2.loc;have g2:=SD g2;obtain⟨u,ru,lu⟩:=lk q.1 q.2 v g1 e3 (.inr g2);refine⟨u,ru,.inr ⟨g2.imp (λz=>g3.trans z) (λz=>g3.trans z),?_⟩⟩;obtain⟨c,hc⟩:=gP.mp g4;refine⟨c,hc,?_⟩;rcases lu with⟨kk,_⟩|⟨_,c',e',⟨o,eo,d⟩⟩
   ·rcases g2 with z|z<;>(rw[show X.env.kindOf q.2=_ from z]at kk;cases kk)
   ·have e4:=hcl.at' hc;rw[e']at e4;cases e4;exact⟨o,old c o eo,d⟩
 cell:=λy c h=>by rcases I2.cell y c (hcl.at' h) with⟨v,o,eo,d⟩;exact⟨v,o,old c o eo,d⟩
 free:=by show AZ H2 D _ C=none;rw[AI (Ne.symm hDC)];exact I2.hok.fresh hC
 freeC:=λy c h=>by rcases I2.cell y c (hcl.at' h) with⟨v,o,eo,d⟩;rw[AI (dS (cy (cr eo) hD))];exact I2.freeC y c (hcl.at' h)
 pin:=λp hp=>nomatch hp
 hok:=I2.hok.laid old hD (by obtain⟨n,e⟩:=hl;exact⟨Nat.zero_le _,[],n,.nil,by simpa using e⟩)
 len:=by simp[Du,Ed]
theorem Op{RR:qQ->qR->Result->qS->Prop}{Q:VK}(hc:19#9=true)(I2:AY X ad σ H2 s2)(T:Jh X.prog X.w X.K 19#6 J fp it tn)(st2:tn 0 s2.heap)(f2:∀b∈fp,Ft X ad H2 b)
  (hcell:∀y∈9#2,y.2≠.cell) (hk:12#6=.function) (hx:scope.names.lookup x=some .local) (hcl:Hq X.env cl) (hhas:((relabel scope 1#2).names.all λz=>!(z.2==.cell||z.2==.free)||(cl.lookup z.1).isSome)=true) (hfv:Ig X scope cl fv) (hnd:(x::fv.map (·.2)).Nodup)
  (hf:∀s H C fp,PF (Ed X s H 0#5 fp (x::fv.map (·.2))) ifs tt) (he:∀s H C fp,PE (Ed X s H 0#5 fp (x::fv.map (·.2))) elt te)
  (hw:∀D,H2 D=none->Ex J tt te (Du σ fv) D Q H2)
  (hRR:∀D C σ' H' s',2#9<=C->AY (Ed X s2 H2 0#5 fp (x::fv.map (·.2))) [] σ' H' s'->Q 2#1 H'->RR 2#1 C (.ok .next) s'):
  wpAny 0#4 X.A (newList []) (λj5 s3=>wpAny 0#4 X.A (newFunctionEnv scope X.env.globals cl [] X.env.qual none .none (some 1#2)) (λcenv s4 =>
   codeAny 0#4 X.A (.compStart (.ListComp elt [⟨.Name x px,iter,ifs,0⟩] scope pos) 0 6#8 j5 {cenv with scope:=relabel scope 1#2}) (RR j5 cenv.locals) s4) E s3) E s2:=by
 refine wpAny_newObj_type (wpAny_newFunctionEnv hcell (by intro y hy;simp at hy) (λh1 hns hsb=>?_) hk);dsimp only at hns hsb⊢;generalize hH:s2.heap.push {cls:=.type "list",dict:=none,data:=.seq ([]:List qQ).toArray}=HH at hns hsb⊢;have eC:12#0=2#9+1:=by rw[<-hH,fL]
 have hDC:2#9≠12#0:=by rw[eC];exact dS (gt _)
 have hC:2#9<=12#0:=by rw[eC];exact iA _
 have old:∀b o,s2.heap.get? b=some o->h1.get? b=some o:=λb o e=>hsb.extBut b o (by rw[eC];exact dS (fX 9#7)) (cm _ (hH▸cm _ e))
 have hacc:h1.PlainList s2.heap.objs.size #[]:=⟨_,hsb.extBut _ _ hDC (cm _ (hH▸c9 _ rfl))⟩;have o2:=T.obj _ _ st2;rcases hw s2.heap.objs.size (I2.hok.fresh (cj _)) with⟨W,⟨n0,w0⟩,turn⟩;generalize eD:2#9=D at *;generalize eCC:12#0=C at *;have Ib:=XC (x:=x) (t1:=s2.toks+([]:List (Str×qQ)).length) I2 f2 o2 (by rw[eD];exact cj _) (by rw[eD];exact hC) hDC old hacc hns hk hcl hhas hfv;have st1:tn 0 h1:=T.keep _ _ _ st2 λb _ o e=>old b o e
 have nD:∀b∈fp,b≠D:=λb hb=>by obtain⟨o,e,_⟩:=o2 b hb;rw[<-eD];exact dS 9#7
 have fr1:∀b∈fp,AZ H2 D (.lst []) b=none:=λb hb=>by rw[AI (nD b hb)];exact (f2 b hb).1
 have hxl:(relabel scope 1#2).names.lookup x=some .local:=lookup_relabel_local hx
 have stat:∀{H':Hp},(∀b∈fp,H' b=none)->∀b∈fp,Ft (Ed X s2 H2 0#5 fp (x::fv.map (·.2))) [] H' b:=λhn b hb=>by obtain⟨o,e,_⟩:=o2 b hb;exact⟨hn b hb,λz=>qG 9#7 (by rw[z,eD];exact Nat.not_lt.mpr hC),λz=>(dD.mp (I2.stkSub b z)).elim (f2 b hb).2.1 (f2 b hb).2.2.1,.inl hb,λy c h=>(f2 b hb).2.2.2.2.1 y c (hcl.at' h),λq hq=>nomatch hq⟩
 have loop:codeAny 0#4 X.A (.compLoop (.ListComp elt [⟨.Name x px,iter,ifs,0⟩] scope pos) 0 6#8 2#1 0#5) (RR 2#1 C) {s2 with heap:=h1,toks:=s2.toks+([]:List (Str×qQ)).length}:=by
  refine codeAny_compLoop_tests (λn s'=>∃i j5 σb H',AY (Ed X s2 H2 0#5 fp (x::fv.map (·.2))) [] σb H' s'/\σb.tail=Du σ fv/\tn i 9#9/\(∀b∈fp,H' b=none)/\W n i j5 H') ?_ n0 ⟨0,[],_,_,Ib,rfl,st1,fr1,w0⟩;intro n s3 hRq;rcases hRq with⟨i,j5,σ3,H3,I3,t3,st3,fr3,w3⟩;rcases turn n i j5 H3 w3 with⟨stop,qn⟩|⟨go,NN,hNN,step⟩
  ·refine BM (T.done (Ed X s2 H2 0#5 fp (x::fv.map (·.2))) rfl rfl rfl hc i [] s3 σ3 H3 _ I3 (stat fr3) st3 stop) λr s4 q4=>?_;obtain⟨hr,I4⟩:=q4;subst hr;exact hRR D C σ3 H3 s4 hC I4 qn
  ·refine BM (T.item (Ed X s2 H2 0#5 fp (x::fv.map (·.2))) rfl rfl rfl hc i [] s3 σ3 H3 _ I3 (stat fr3) st3 go) λr s4 q4=>?_;obtain⟨u,hr,h4⟩:=q4;subst hr;refine (show wpAny _ _ (letOwnedTupleGo 19#6 6#8 u >>= λ_=>assign 19#6 0#5 u) _ _ _ from qC (BM h4 λ_ s5 q5=>?_));rcases q5 with⟨v,H5,I5,r5,y5,st5,fr5⟩;have I5':=I5.pinned (stat fr5) (T.obj _ _ st5);have again:∀{σ7:St} {H7:Hp} {s7:qS},AY (Ed X s2 H2 0#5 fp (x::fv.map (·.2))) ([]++Gg fp s5.heap) σ7 H7 s7->tn (i+1) s7.heap/\∀b∈fp,H7 b=none:=λ{σ7 H7 s7} I7=>by refine⟨T.keep _ _ _ st5 λb hb o e=>(I7.pin (b,o) (dc _ (dc _ (Cr hb e)))).1,λb hb=>?_⟩;obtain⟨o,e,d⟩:=T.obj _ _ st5 b hb;exact (I7.pin (b,o) (dc _ (dc _ (Cr hb e)))).2.1
   have sσ:σ3.set 0 11#0=some v::Du σ fv:=by
    cases σ3 with
    |nil =>
     have z:=I3.len;simp[Ed]at z
    |cons a b =>
     have z:b=Du σ fv:=t3;rw[z];rfl
   have g:=Hu (X:=Ed X s2 H2 0#5 fp (x::fv.map (λq:Nat×Str=>q.2))) (pos:=px) (i:=0) (x:=x) hnd rfl (.inl hxl) (.inr hxl);refine wpAny_noRaise (BM (g _ s5 σ3 H5 v u (λσ' H'=>σ'=some v::Du σ fv/\H'=H5) I5' r5 ⟨sσ,rfl⟩) λ_ s6 q6=>?_);rcases q6 with⟨σ6,H6,I6,rfl,rfl⟩;refine wpAny_noRaise (BM (hf _ _ _ _ _ s6 _ _ _ I6 (step v _ y5)) λb s7 q7=>?_);obtain⟨H7,I7,q7⟩:=q7;cases b with
   |false =>
    rw[qE (by decide)]at q7⊢;obtain⟨n',hn',w7⟩:=hNN _ _ q7;exact⟨n',hn',i+1,j5,_,H7,I7.unpinned,rfl,(again I7).1,(again I7).2,w7⟩
   |true =>
    rw[qF rfl]at q7⊢;refine wpAny_noRaise (BM (he _ _ _ _ _ s7 _ _ _ I7 q7) λyv s8 q8=>?_);rcases q8 with⟨y,H8,I8,r8,e8,l8,q8⟩;obtain⟨n',hn',w8⟩:=hNN _ _ q8;refine wpAny_noRaise (BM (Gk (X:=Ed X s2 H2 0#5 fp (x::fv.map (·.2))) _ s8 _ H8 2#1 [y] 2#1 [yv] (λ_ H'=>H'=AZ H8 D (.lst (j5++[y]))) I8 rfl (.cons r8 .nil) ⟨D,j5,y,rfl,rfl,e8,l8,rfl⟩) λ_ s9 q9=>?_);rcases q9 with⟨_,H9,I9,_,rfl⟩;exact⟨n',hn',i+1,j5++[y],_,_,I9.unpinned,rfl,(again I9).1,(again I9).2,w8⟩
 exact codeAny_compStart_list loop (T.self X.A 0 _ _ _ st1 loop)
theorem AY.letGo(I2:AY X ad σ H2 s2){σ':St}(J:AY X ad σ' H' s')(hC:2#9<=C)(hn:H' C=none)(sb:Heap.SameBut C s'.heap h'):AY X ad σ' H' {s' with heap:=h',toks:=s'.toks}:=
 J.turned (it:=C) (λb o hb e=>(sb.2 b hb).trans e) hn (hV (cy I2.lt hC)) (.inr (dM I2.sz hC)) (λy c e z=>by obtain⟨v,o,eo,d⟩:=I2.cell y c e;exact qG (cy (cr eo) (by rw[z];exact hC)) (dP _)) λp hp z=>qG (cy (cr (I2.pin p hp).1) (by rw[z];exact hC)) (dP _)
theorem Us(hc:19#9=true)(hi:PI X 19#6 iter wi)(hclos:closureFor scope 1#2=pure cl)(hcell:∀y∈9#2,y.2≠.cell)(hk:12#6=.function)(hnames:∀z∈9#2,z.2=.local->scope.names.lookup z.1=some .local)
  (hx:scope.names.lookup x=some .local) (hcl:Hq X.env cl) (hhas:((relabel scope 1#2).names.all λz=>!(z.2==.cell||z.2==.free)||(cl.lookup z.1).isSome)=true) (hfv:Ig X scope cl fv) (hnd:(x::fv.map (·.2)).Nodup)
  (hf:∀s H C fp,PF (Ed X s H 0#5 fp (x::fv.map (·.2))) ifs tt) (he:∀s H C fp,PE (Ed X s H 0#5 fp (x::fv.map (·.2))) elt te)
  (hs:∀x,foldedSetIterable iter X.env x=pure x:=by intro _;rfl):PE X (.ListComp elt [⟨.Name x px,iter,ifs,0⟩] scope pos) (SF wi fv tt te):=by
 intro ad s σ H Q I h;rw[eval_ListComp];refine wpAny_comprehension_free (use:=none) rfl hs hclos hk hnames (BM (hi ad s σ H _ I h) λv s1 h1=>BM h1 λitv s2 h2=>?_);rcases h2 with⟨it,fp,tn,J,H2,e,I2,T,st2,f2,hw⟩;subst e;refine Op (RR:=λj5 C=>compPost 0#4 X.A X.xe none 5#9 j5 C) hc I2 T st2 f2 hcell hk hx hcl hhas hfv hnd hf he hw λD C σ' H' s' hC Ib q=>?_;obtain⟨m,hn,_⟩:=Ib.loc;exact⟨m,hn,λh' sb=>⟨.ref D,H',AY.letGo I2 (Ih I2 f2 Ib) hC Ib.free sb,rfl,q⟩⟩
theorem Oq{y:Str}{iy:Nat}{py spos:Pos}(hc:19#9=true)(hN:X.N.Nodup)(hy:X.N[iy]?=some y)(hyl:Vi X.env.scope y)(hi:PI X 19#6 iter wi)(hsw:swapsWith (.ListComp elt [⟨.Name x px,iter,ifs,0⟩] scope pos) (some (.Name y py)) spos.line 1#2=pure true)
  (hclos:closureFor scope 1#2=pure cl) (hcell:∀y∈9#2,y.2≠.cell) (hk:12#6=.function) (hnames:∀z∈9#2,z.2=.local->scope.names.lookup z.1=some .local)
  (hx:scope.names.lookup x=some .local) (hcl:Hq X.env cl) (hhas:((relabel scope 1#2).names.all λz=>!(z.2==.cell||z.2==.free)||(cl.lookup z.1).isSome)=true) (hfv:Ig X scope cl fv) (hnd:(x::fv.map (·.2)).Nodup)
  (hf:∀s H C fp,PF (Ed X s H 0#5 fp (x::fv.map (·.2))) ifs tt) (he:∀s H C fp,PE (Ed X s H 0#5 fp (x::fv.map (·.2))) elt te)
  (hyf:X.fn y=true\/X.env.scope.names.lookup y=some .local:=by first|exact .inl rfl|exact .inr rfl) (hs:∀x,foldedSetIterable iter X.env x=pure x:=by intro _;rfl):
  PS X (.Assign [.Name y py] (.ListComp elt [⟨.Name x px,iter,ifs,0⟩] scope pos) spos) (QG (SF wi fv tt te) (Fg iy)):=by
 intro ad s σ H D h' h;have I:=h';rw[exec_Assign_Name_used _ _ _ _ hsw];refine qC (wpAny_standAt (qC ?_));show wpAny _ X.A (do let _ <-comprehension (.ListComp elt [⟨.Name x px,iter,ifs,0⟩] scope pos) scope X.env _ (newList []) false (eval iter 1#2) (some (assign (.Name y py) 1#2))) _ _ s;refine qC (qM (wpAny_comprehension_free (use:=some (assign (.Name y py) 1#2)) (Q:=λ_ s'=>SP X ad D .next s') rfl hs hclos hk hnames (BM (hi ad s σ H _ I h) λv s1 h1=>BM h1 λitv s2 h2=>?_)) (λ_ s' hq=>qD (qD hq)) λ_ _ e=>e);obtain⟨it,fp,tn,J,H2,e,I2,T,st2,f2,hw⟩:=h2;subst e;refine Op (Q:=λv H1=>Fg iy v σ H1 D.nx) (RR:=λj5 C=>compPost 0#4 X.A X.xe (some (assign (.Name y py) 1#2)) (λ_ s'=>SP X ad D .next s') j5 C) hc I2 T st2 f2 hcell hk hx hcl hhas hfv hnd hf he hw λD' C σ' H' s' hC Ib q=>?_;obtain⟨m,hn,_⟩:=Ib.loc;show wpAny _ X.A (assign (.Name y py) X.env (.ref D')) _ _ _;refine wpAny_assign_Name (Jx (Ih I2 f2 Ib) hN hy hyl (v:=.ref D') rfl (λs3 I3 hsb=>?_) hyf);obtain⟨a,sb3,ha⟩:=hsb
 have nC:C≠a:=λz=>by
  rcases ha with e|e
  ·exact qG (cy I2.lt hC) (by rw[z,e];exact dP _)
  ·obtain⟨v,o,eo,d⟩:=I2.cell y a e;exact qG (cy (cr eo) (by rw[<-z];exact hC)) (dP _)
 exact⟨m,hn.sameBut sb3 nC,λh'' sb=>⟨_,H',AY.letGo I2 I3 hC Ib.free sb,q⟩⟩
end
variable{tt:TT}{σf:List (Option V)}
theorem Bb{n:Nat}{D:qR}{Q:VK}(Pv:Nat->List V->Hp->Prop)(h0:Pv 0 [] (AZ H D (.lst [])))
  (hs:∀i j5 H2,i<n->Pv i j5 H2->tt (some (.int (lo+i))::σf) H2 λb H4=>if b=true then te (some (.int (lo+i))::σf) H4 λy H5=>H5 D=some 5#0/\j5.length<sizeLine/\Pv (i+1) (j5++[y]) (AZ H5 D (.lst (j5++[y]))) else Pv (i+1) j5 H4)
  (hd:∀j5 H2,Pv n j5 H2->Q 2#1 H2):Ex (Vm lo n) tt te σf D Q H:=by
 refine⟨λk i j5 H=>k=n-i/\i<=n/\Pv i j5 H,⟨n,by simp,Nat.zero_le _,h0⟩,?_⟩;rintro k i j5 H2 ⟨rfl,hi,p⟩
 by_cases hlt:i<n
 ·refine .inr ⟨hlt,Pv (i+1),λl H' p'=>⟨n-(i+1),by lia,rfl,hlt,p'⟩,λx H' y=>?_⟩;obtain⟨e,y⟩:=y;subst e y;exact hs i j5 _ hlt p
 ·have e:i=n:=by lia
  subst e;exact .inl ⟨cj _,hd j5 H2 p⟩
theorem D5{K:qV}{D:qR}{Q:VK}(Pv:Nat->List V->Hp->Prop)(h0:Pv 0 [] (AZ H D (.lst [])))(hl:∀i j5 H,i<=0#7->Pv i j5 H->Aa K H a xs)
  (hs:∀i x j5 H2,xs[i]?=some x->Pv i j5 H2->tt (some x::σf) H2 λb H4=>if b=true then te (some x::σf) H4 λy H5=>H5 D=some 5#0/\j5.length<sizeLine/\Pv (i+1) (j5++[y]) (AZ H5 D (.lst (j5++[y]))) else Pv (i+1) j5 H4)
  (hd:∀j5 H2,Pv xs.length j5 H2->Q 2#1 H2):Ex (Yv K a) tt te σf D Q H:=by
 refine⟨λk i j5 H=>k=0#7-i/\i<=0#7/\Pv i j5 H,⟨0#7,by simp,Nat.zero_le _,h0⟩,?_⟩;rintro k i j5 H2 ⟨rfl,hi,p⟩;have q:=hl i j5 H2 hi p
 by_cases hlt:i<xs.length
 ·refine .inr ⟨⟨xs,xs[i],q,by simp[hlt]⟩,Pv (i+1),λl H' p'=>⟨0#7-(i+1),by lia,rfl,hlt,p'⟩,λx H' y=>?_⟩;obtain⟨e,y⟩:=y;subst e;exact hs i x j5 _ (y xs q) p
 ·have e:i=0#7:=by lia
  subst e;exact .inl ⟨⟨xs,q,cj _⟩,hd j5 H2 p⟩
section
variable{X:Cx}
theorem NZ:Co X (.type "int") (λxs H Q=>∃i:Int,(xs=[.int i]\/∃b,xs=[.bl b]/\i=if b=true then 1 else 0)/\Q 8#3 H):=by
 intro ad s σ H xs us Q I r h;obtain⟨i,h,q⟩:=h;rcases h with rfl|⟨b,rfl,e⟩
 ·obtain⟨u,rfl,⟨t,rfl⟩⟩:=Et r;exact call_int_int ⟨.int i,H,I,⟨t,rfl⟩,q⟩
 ·obtain⟨u,rfl,rx⟩:=Et r;cases rx;subst e;exact call_int_bool ⟨.int _,H,I.tok _,⟨_,rfl⟩,q⟩
theorem HN:∀(ns:qW) (k:Nat),k<=1#6->preSum (λi=>ns.getD i 0) k=(ns.take k).sum
 |ns,0,_=>by simp[preSum]
 |ns,k+1,h=>by
  have e:ns.take (k+1)=ns.take k++[ns[k]]:=by rw[gu,cX (by lia)];rfl
  rw[preSum,HN ns k (by lia),e,jH,cV,cX (by lia)];simp
theorem HP(hc:19#9=true):Co X (.builtin "sum") (λxs H Q=>∃(p:qR) (ns:qW),xs=[.ref p]/\Aa X.K H p 1#8/\Q (.int ns.sum) H):=by
 intro ad s σ H xs us Q I r h;obtain⟨p,ns,rfl,hq,q⟩:=h;obtain⟨u,rfl,rx⟩:=Et r;cases rx;obtain⟨its,rits,pl,hz⟩:=I.list hq;have hlen:=rits.length;rw[cU]at hlen;have alt:p<0#1:=by obtain⟨o,e,_⟩:=pl.isList;exact cr e
 refine call_sum_walkG (wpAny_pyIter_list pl.isList ?_);have up:∀b o,s.heap.get? b=some o->(s.heap.push {cls:=.type "list_iterator",data:=.fields #[.ref p,.int 0 0]}).get? b=some o:=λb o e=>cm _ e
 refine⟨0#1,[0#1,p],[0#1],2#5,_,_,λi=>ns.getD i 0,rfl,Walks.list (A:=X.A.in1) 6#3 _ p (dS alt) 5#5,⟨⟨_,c9 _ rfl,rfl,rfl⟩,pl.isList.at λo e=>up p o e⟩,λb hb=>?_,λi v hv=>?_,λh' tk t' kk=>?_⟩
 ·show b<(s.heap.push _).objs.size;rw[fL];rcases dD.mp hb with z|z
  ·rw[z];exact gt _
  ·rw[ce.mp z];exact fX alt
 ·have hv':its[i]?=some v:=by simpa using hv
  have hi:=(cW.mp hv').1;obtain⟨u2,hu2,ru2⟩:=rits.get (x:=.int (ns.getD i 0)) (i:=i) (by rw[cn,cX (by lia),cV,cX (by lia)];rfl);rw[hv']at hu2;cases hu2;exact ru2
 ·refine⟨.int ns.sum,H,I.kept (t':=tk) λb o e=>kk b o (λz=>?_) (up b o e),⟨t',?_⟩,q⟩
  ·rw[ce.mp z]at e;exact qG 9#7 (dP _)
  ·rw[HN ns _ (by simp[<-hlen]),6#2,<-hlen,List.take_length]
end
section
variable{prog:qT}{w:qU}{A:Around}
theorem Hr{t:qR}{items}{x:qQ}(hit:s.heap.IsTupleIter it t i)(ht:s.heap.IsTuple t items)(hx:items[i]?=some x)
  (hQ:∀h',h'.IsTupleIter it t (i+1)->Heap.SameBut it s.heap h'->Q x {s with heap:=h'}):wpAny 0#3 A (Builtin.SmallTypes.nextOf 6#8) Q E s:=by
 rcases id hit with⟨o,ho,hc,hd⟩;rcases ht with⟨ol,hol,_,nl,hdl⟩;unfold Builtin.SmallTypes.nextOf;refine qC (wpAny_callSpecial?_slot (name:=Str.ofString "__next__") hit.typeIs F.slot_tuple_iterator_next (wpAny_call_entry F.slot_tuple_iterator_next hit.typeIs F.entry_tuple_iterator_next ?_ (F.args_tuple_iterator_next_1 _)))
 (show wpAny _ _ (field 6#8 0 >>= _) _ _ s);refine qC (wpAny_field ho hd (x:=.ref t) rfl ?_)
 (show wpAny _ _ (if (Value.ref t==12#7)=true then _ else _) _ _ s);rw[qE (show ¬((Value.ref t==12#7)=true) from c7)]
 (show wpAny _ _ (field 6#8 1 >>= _) _ _ s);refine qC (wpAny_field ho hd (x:=.int i 0) rfl ?_)
 (show wpAny _ _ (seqItems? (.ref t) >>= _) _ _ s);refine qC (wpAny_seqItems hol hdl ?_)
 simp only[Int.toNat_natCast,hx];refine qC (wpAny_setField ho hd (by simp) (qD ⟨x,rfl,qD (hQ _ ⟨_,Heap.get?_update_self _ ho (Obj.isFreed_of_fields (Obj.data_mapFields hd _)),(Obj.cls_mapFields ..).trans hc,by rw[Obj.data_mapFields hd];simp[rawInt]⟩ (Heap.SameBut.update ..))⟩))
theorem Ey{t:qR}{items}(hh:16#0=none)(hit:s.heap.IsTupleIter it t i)(ht:s.heap.IsTuple t items)(hx:items[i]?=none)
  (hE:∀h' e,Heap.ExtBut it s.heap h'->(∃o,h'.get? e=some o/\o.cls=.type "StopIteration")->E 16#9 {s with heap:=h'}):wpAny 0#3 A (Builtin.SmallTypes.nextOf 6#8) Q E s:=by
 rcases id hit with⟨o,ho,hc,hd⟩;rcases ht with⟨ol,hol,_,nl,hdl⟩;unfold Builtin.SmallTypes.nextOf;refine qC (wpAny_callSpecial?_slot (name:=Str.ofString "__next__") hit.typeIs F.slot_tuple_iterator_next (wpAny_call_entry F.slot_tuple_iterator_next hit.typeIs F.entry_tuple_iterator_next ?_ (F.args_tuple_iterator_next_1 _)))
 (show wpAny _ _ (field 6#8 0 >>= _) _ _ s);refine qC (wpAny_field ho hd (x:=.ref t) rfl ?_)
 (show wpAny _ _ (if (Value.ref t==12#7)=true then _ else _) _ _ s);rw[qE (show ¬((Value.ref t==12#7)=true) from c7)]
 (show wpAny _ _ (field 6#8 1 >>= _) _ _ s);refine qC (wpAny_field ho hd (x:=.int i 0) rfl ?_)
 (show wpAny _ _ (seqItems? (.ref t) >>= _) _ _ s);refine qC (wpAny_seqItems hol hdl ?_)
 simp only[Int.toNat_natCast,hx];refine qC (wpAny_rule (qC (wpAny_setField ho hd (by simp) ?_)));show wpAny _ _ (newExc (.type "StopIteration") [] >>= _) _ _ _;refine qC ?_;simp only[newExc,newTuple];refine qC (wpAny_newObj_type ?_ (by size_fits));refine qC (m:=firstArgMember _ _) (wpAny_of_eq (a:=12#7) (by first|rfl|(simp only[firstArgMember];rfl)) ?_);refine wpAny_newObj_type ?_ (by size_fits);unfold raiseNew;refine qC (wpAny_handled ?_);(first|rw[show A.in1.handled=none from hh]|rw[hh]);refine qC (qD (wpAny_throw ?_));exact (hE _ _ (((Heap.SameBut.update ..).extBut.push _).push _) ⟨_,c9 _ rfl,rfl⟩)
theorem QV(hh:16#0=none)(it t:qR)(hne:t≠it)(items:Array qQ):Draws prog w A it [it,t] items.size (λi v=>items[i]?=some v) (λi h=>h.IsTupleIter it t i/\h.IsTuple t items) where
 live:=λ_ _ ⟨⟨o,ho,_⟩,_⟩=>⟨o,ho⟩
 frame:=λ_ _ _ ⟨st,o,ho,r⟩ hk=>⟨st.at λo e=>hk it (by simp) o e,o,hk t (by simp) o ho,r⟩
 item:=λi s Q E hi st hQ=>Hr st.1 st.2 (x:=items[i]) (by simp[hi]) λh' hit' hs'=>hQ _ h' s.toks (by simp[hi]) ⟨hit',st.2.extBut hs'.extBut hne⟩ hs'
 done:=λs Q E st hE=>Ey hh st.1 st.2 (by simp) hE
theorem SH{a:α}{Q:α->qS->Prop}(h:∀b,Q b s):wpAny 0#3 A (pure a) Q E s:=qD (h a)
open AutoSeq1 (wpAny_loadPart') in
theorem Le(l:qR)(items:Array qQ)(n:Nat)(dct:Option qR)(sl:Array (Option qQ)):
  Meets (Builtin.«enumerate.__new__» ⟨[.type "enumerate",.ref l],[]⟩) (λ_ R s=>s.heap.get? l=some {cls:=.type "tuple",dict:=dct,data:=.seq items n,slots:=sl} /\
   R (.ok (.ret (.ref (s.heap.push {cls:=.type "tuple_iterator",data:=.fields #[.ref l,.int 0 0]}).objs.size)))
    {s with heap:=(s.heap.push {cls:=.type "tuple_iterator",data:=.fields #[.ref l,.int 0 0]}).push {cls:=.type "enumerate",data:=.fields #[.none,.bool false,.ref 0#1,rawInt 0,.none,.none]}}):=
 .of_wp λprog w A R s h=>by
  obtain⟨hp,g,d,tk,os⟩:=s;obtain⟨hl,h⟩:=h;have hsub:=sub_enumerate;have hL:Heap.IsTuple (Shared.heap ⟨hp,g,d,tk,os⟩) l items:=⟨_,hl,rfl,n,rfl⟩
  wp_walk using wpAny_loadPart' hl
  refine wpAny_stack_any λst=>SH λb=>?_
  cases b<;>(wp_walk using wpAny_loadPart' hl,wpAny_pyIter_tuple hL)<;>exact⟨_,rfl,h⟩
theorem Na{l:qR}(hL:s.heap.IsTuple l items)
  (h:∀h',IsEnum h' (0#1+1) s.heap.objs.size 0 .none->h'.IsTupleIter s.heap.objs.size l 0->11#8=0#1+2->(∀b o,s.heap.get? b=some o->h'.get? b=some o)->Q (.ref (0#1+1)) {s with heap:=h'}):
  wpAny 0#3 A (call (.type "enumerate") [.ref l]) Q E s:=by
 rcases hL with⟨⟨c,dct,dt,sl⟩,hl,hc,n,hd⟩;replace hc:c=.type "tuple":=hc;replace hd:dt=.seq items n:=hd;subst hc hd;refine callType_new F.called_enumerate (by decide) (F.typeCall_enumerate_1 _) (F.newCall_enumerate_1 _) (λobj=>F.args_object_init_2 obj _) F.entry_enumerate_new (Le l items n dct sl) ⟨hl,?_⟩;have hz:(s.heap.push {cls:=.type "tuple_iterator",data:=.fields #[.ref l,.int 0 0]}).objs.size=0#1+1:=fL ..;show _/\_;rw[hz]
 have he:IsEnum ((s.heap.push {cls:=.type "tuple_iterator",data:=.fields #[.ref l,.int 0 0]}).push {cls:=.type "enumerate",data:=.fields #[.none,.bool false,.ref 0#1,rawInt 0,.none,.none]}) (0#1+1) s.heap.objs.size 0 .none:=by have:=c9 (s.heap.push {cls:=.type "tuple_iterator",data:=.fields #[.ref l,.int 0 0]}) (o:={cls:=.type "enumerate",data:=.fields #[.none,.bool false,.ref 0#1,rawInt 0,.none,.none]}) rfl;rw[hz]at this;exact this
 exact⟨⟨_,he,rfl⟩,h _ he ⟨_,cm _ (c9 _ rfl),rfl,rfl⟩ (by rw[fL,hz]) λb o x=>cm _ (cm _ x)⟩
theorem Gn{e t:qR}{old:qQ}{Q:Option qQ->qS->Prop}(hh:16#0=none)(he:IsEnum s.heap e it i old)(hit:s.heap.IsTupleIter it t i)(ht:s.heap.IsTuple t items)(hx:items[i]?=none)
  (hQ:∀h',Heap.ExtBut it s.heap h'->Q none {s with heap:=h'}):wpAny 0#3 A (pyNext 16#9) Q E s:=by
 have hT:s.TypeIs 16#9 "enumerate":=⟨_,he,rfl⟩;unfold pyNext;refine qC (wpAny_attempt (wpAny_callSpecial?_slot (name:=Str.ofString "__next__") hT F.slot_enumerate_next (wpAny_call_entry F.slot_enumerate_next hT F.entry_enumerate_next ?_ (F.args_enumerate_next_1 _))))
 (show wpAny _ _ (field 16#9 2 >>= _) _ _ _);refine qC (wpAny_field he rfl (x:=.ref it) rfl ?_)
 refine qC (Ey hh hit ht hx λh' x he' hx'=>?_);obtain⟨o,ho,hc⟩:=hx';exact qC (wpAny_isInstance (T:="StopIteration") (b:=true) ⟨o,ho,hc⟩ isSubtype_stop (qD (hQ _ he')))
end
noncomputable def QW(K:qV)(a:qR):It:=
 ⟨λi H=>∃xs x,Ai K H a xs/\xs[i]?=some x,λi H v H'=>∃p x,v=.ref p/\H p=none/\H'=AZ H p (.tup [.int i,x])/\∀xs,Ai K H a xs->xs[i]?=some x,λi H=>∃xs,Ai K H a xs/\0#7<=i⟩
theorem Nb{P:qT}{w:qU}{K:qV}{elts:List Expr}{ctx}{tpos:Pos}(a e it:qR)(hne:e≠it)(hna:a≠it)(hea:e≠a):
  Jh P w K 13#3 (QW K a) [e,it] e (λi h=>(∃old,IsEnum h e it ((i:Nat):Int) old)/\h.IsTupleIter it a i) where
 mem:=by simp
 obj:=λi h st b hb=>by
  rcases st with⟨⟨old,q⟩,o,e1,c,d⟩;rcases dD.mp hb with z|z
  ·rw[z];exact⟨_,q,λv y=>by cases y⟩
  ·rw[ce.mp z];exact⟨o,e1,λv y=>by rw[d]at y;cases y⟩
 keep:=λi h h' st k=>by obtain⟨⟨old,q⟩,li⟩:=st;exact⟨⟨old,k e (by simp) _ q⟩,li.at λo z=>k it (by simp) o z⟩
 item:=by
  intro X hP hw hK hc i ad s σ H E I hf st hg;subst hP hw hK;rcases hg with⟨xs,x,hq,hx⟩;rcases I.tuple hq with⟨its,rv,p,hz⟩;obtain⟨u,hu,ru⟩:=rv.get hx;obtain⟨⟨old,he⟩,li⟩:=st
  have hil:i<2#5:=by have:=(cW.mp hu).1;simpa using this
  refine wpAny_pyNext_enum_itemD (QV (A:=X.A.in1) (show X.A.in1.handled=none from I.ok.hd hc) it a hna 5#5) he ⟨li,show s.heap.IsTuple a 5#5 from p⟩ hil hne (by simp[hne,hea]) λy h1 tk hy out li1 ht hsz k1=>?_
  have ey:y=u:=by
   have e1:its.toArray[i]?=some u:=by simpa using hu
   rw[e1]at hy;exact (Option.some.inj hy).symm
  subst ey;refine⟨_,rfl,wpAny_letOwnedTupleGo_enum out λh2 he2 sb=>?_⟩;have k2:∀b o,b∉[e,it]->s.heap.get? b=some o->h2.get? b=some o:=λb o hb z=>(sb.2 b λy=>hb (by simp[y])).trans (k1 b o (λy=>hb (by simp[y])) (λy=>hb (by simp[y])) z)
  have hpe:0#1≠e:=hV (cr he);have ht2:h2.get? 0#1=some {cls:=.type "tuple",data:=.seq #[.int ((i:Nat):Int) tk,y]}:=(sb.2 _ hpe).trans ht;have hn:H 0#1=none:=I.hok.fresh (cj _);refine⟨.ref 0#1,AZ H s.heap.objs.size (.tup [.int ((i:Nat):Int),x]),I.turnedNew (h':=h2) (t':=tk+1) hf k2 (cj _) ⟨by show 2<=sizeLine;decide,[.int ((i:Nat):Int) tk,y],.cons ⟨_,rfl⟩ (.cons ru .nil),⟨_,ht2,rfl,_,rfl⟩⟩,rfl,⟨_,x,rfl,hn,rfl,λys hy=>by rw[I.tuple_inj hy hq];exact hx⟩,⟨⟨y,?_⟩,?_⟩,λb hb=>?_⟩
  ·have ec:(((i+1:Nat)):Int)=((i:Nat):Int)+1:=by push_cast;rfl
   rw[ec];exact he2
  ·exact li1.1.at λo z=>(sb.2 it (Ne.symm hne)).trans z
  ·have b0:=(hf b hb).1;rw[AI λz=>?_]
   ·exact b0
   ·obtain⟨o,z1,_⟩:=id li;rcases dD.mp hb with y|y
    ·exact hpe (z.symm.trans y)
    ·exact qG (cr z1) (by rw[<-ce.mp y,z];exact dP _)
 done:=by intro X hP hw hK hc i ad s σ H E I hf st hg;subst hP hw hK;obtain⟨xs,hq,hx⟩:=hg;rcases I.tuple hq with⟨its,rv,p,hz⟩;obtain⟨⟨old,he⟩,li⟩:=st;rcases hf it (by simp) with⟨f0,f1,f2,f3,f4,f5⟩;have hl:=rv.length;exact Gn 6#3 he li p (by simp;lia) λh' eb=>⟨rfl,I.turned (t':=5#2) (λb o hb e=>eb b o hb e) f0 f1 f3 f4 f5⟩
 self:=λ_ _ _ _ _ st h=>by obtain⟨⟨old,he⟩,_⟩:=st;exact wpAny_pyIter_enum he h
section
variable{X:Cx}{elts:List Expr}{ctx}{tpos:Pos}
def XD(K:qV)(ta:TA):TI:=λσ H R=>ta σ H λvs H1=>∃a xs,vs=[.ref a]/\Ai K H1 a xs/\R (QW K a) H1
theorem Ii{l:Expr}{p pos:Pos}(hg:Gl X "enumerate")(hm:X.mg "enumerate"=none)(ha:PA X [l] ta)(hs:starEach [l] 1#2=[(false,eval l 1#2)]:=by rfl):PI X 13#3 (.Call (.Name "enumerate" p) [l] [] pos) (XD X.K ta):=by
 intro ad s σ H R I h;refine Call_ (Cq I hg hm boot_enumerate (dh (BM (ha pos ad s σ H _ I h) λus s1 z9=>?_) hs rfl));obtain⟨vs,H1,I1,r1,q1⟩:=z9;rcases q1 with⟨a,xs,e,hq,q⟩;subst e;cases r1 with
 |cons r rr =>
  cases rr;cases r;rcases I1.tuple hq with⟨its,rv,pl,hz⟩;have hal:a<1#4:=by obtain⟨o,ho,_⟩:=id pl;exact cr ho
  refine Na pl λh1 he li hsz k1=>?_;refine wpAny_pyIter_enum he ?_;have n1:H1 (1#4+1)=none:=I1.hok.fresh (iA _);have n0:H1 1#4=none:=I1.hok.fresh (cj _);refine⟨1#4+1,[1#4+1,1#4],_,_,H1,rfl,I1.kept (t':=s1.toks) k1,Nb a _ _ (Nat.succ_ne_self _) (dS hal) (hV (fX hal)),⟨⟨_,he⟩,li⟩,λb hb=>?_,q⟩;rcases dD.mp hb with z|z
  ·rw[z];exact I1.fpOk (iA _) n1
  ·rw[ce.mp z];exact I1.fpOk (cj _) n0
theorem J8{K:qV}{g:TG}{tb:TS}(Pv:Nat->St->Hp->Prop)(h0:Pv 0 σ H)(hl:∀i σ H,i<=0#7->Pv i σ H->Ai K H a xs)
  (hs:∀i x p σ H,xs[i]?=some x->Pv i σ H->H p=none->g 1#5 σ (AZ H p (.tup [.int ((i:Nat):Int),x])) λσ2 H2=>tb {D with nx:=Pv (i+1),ct:=Pv (i+1),bk:=D.nx} σ2 H2) (hd:∀σ H,Pv xs.length σ H->D.nx σ H):
  ∃W:Nat->Nat->St->Hp->Prop,(∃m,W 0 m σ H)/\∀i m σ H,W i m σ H ->
   ((QW K a).stop i H/\D.nx σ H)\/((QW K a).go i H/\∃N:St->Hp->Prop,(∀σ' H',N σ' H'->∃m',m'<m/\W (i+1) m' σ' H')/\∀x H',(QW K a).yld i H x H'->g x σ H' λσ2 H2=>tb {D with nx:=N,ct:=N,bk:=D.nx} σ2 H2):=by
 refine⟨λi m σ H=>m=0#7-i/\i<=0#7/\Pv i σ H,⟨0#7,by simp,Nat.zero_le _,h0⟩,?_⟩;rintro i m σ H ⟨rfl,hi,p⟩;have q:=hl i σ H hi p
 by_cases hlt:i<xs.length
 ·refine .inr ⟨⟨xs,xs[i],q,by simp[hlt]⟩,Pv (i+1),λσ' H' p'=>⟨0#7-(i+1),by lia,rfl,hlt,p'⟩,λv H' y=>?_⟩;rcases y with⟨p2,x,e1,e2,e3,y⟩;subst e1 e3;exact hs i x p2 σ H (y xs q) p e2
 ·have e:i=0#7:=by lia
  subst e;exact .inl ⟨⟨xs,q,cj _⟩,hd σ H p⟩
end
section
variable{X:Cx}
def XE(K:qV):R2:=λx y H Q=>∃d e,EQ K H x d/\EQ K H y e/\d.canLay0=true/\e.canLay0=true/\d.depth<=60/\Q (.bl (!PyData.eqv d e)) H
theorem Nc(hu:7#2+64<cLine):Es X (compareOp .NotEq) (XE X.K):=by intro ad s σ H x y v u Q I rx ry h;rcases h with⟨d,e,hd,he,c1,c2,dd,q⟩;obtain⟨as,r1⟩:=hd.reads I rx;obtain⟨bs,r2⟩:=he.reads I ry;have z:=SeqAt.rcNeAt_reads (A:=X.A) r1 r2 c1 c2 (by have:=Nat.min_le_left d.depth e.depth;lia);exact z X.prog X.w X.xe _ ⟨.bl _,H,I,rfl,q⟩
theorem Os(ns:qW):(PyData.tuple 8#0).canLay0=true:=by simp only[PyData.canLay0,Ie]
end
end L2
namespace RW
noncomputable def dr(g n:Int):Nat->Int
 |0=>n
 |i+1=>dr g n i/g
noncomputable def Ce(g n:Int):Nat->qW
 |0=>[]
 |i+1=>Ce g n i++[dr g n i%g]
theorem CA(g n:Int):∀i,(Ce g n i).length=i
 |0=>rfl
 |i+1=>by rw[Ce,cg,CA g n i];rfl
theorem Ad{g:Int}(hg:2<=g):∀m:Nat,0<g^m
 |0=>by rw[eV];decide
 |m+1=>by rw[dj];exact Int.mul_pos (Ad hg m) (by lia)
theorem SI{g:Int}(hg:2<=g)(n:Int):∀i:Nat,dr g n i=n/g^i
 |0=>by rw[dr,eV,Int.ediv_one]
 |i+1=>by rw[dr,SI hg n i,dj,Int.ediv_ediv_of_nonneg (fD (Ad hg i))]
theorem Ot{g n:Int}(hg:2<=g)(hn:0<=n){m:Nat}(h:n<g^m):dr g n m=0:=by rw[SI hg];exact gw hn h
theorem XF{g n:Int}(hg:2<=g){m:Nat}(h:g^m<=n):0<dr g n m:=by
 rw[SI hg];have h1:1*g^m<=n:=by rw[fj];exact h
 have h2:=(Int.le_ediv_iff_mul_le (Ad hg m)).mpr h1;lia
end RW
namespace L2
open PySem
variable{H H' H1:Hp}{a:qR}{g lo:Int}{i:Nat}{xs:List V}{α:Type}
theorem CO(hg:2<=g){m n:Nat}(h:m<=n):g^m<=g^n:=by obtain⟨k,rfl⟩:=Nat.exists_eq_add_of_le h;rw[Int.pow_add];have h1:=RW.Ad hg m;have h2:=RW.Ad hg k;have h3:=fk (show 1<=g^k by lia) (fD h1);lia
theorem Nd(hg:2<=g){m n:Nat}(h:m<n):g^m<g^n:=by have h1:=CO hg (show m+1<=n from h);rw[dj]at h1;have h2:=RW.Ad hg m;have h3:=fk hg (fD h2);lia
theorem FO(hg:2<=g){m n:Nat}(h:g^m=g^n):m=n:=by
 rcases Nat.lt_trichotomy m n with z|z|z
 ·have:=Nd hg z;lia
 ·exact z
 ·have:=Nd hg z;lia
theorem J9(hg:2<=g):∀{rs:qW},(∀n∈rs,0<=n/\n<g)->0<=low g rs/\low g rs<g^rs.length
 |[],_=>⟨fR _,by show (0:Int)<g^0;rw[eV];decide⟩
 |x::r,h=>by
  obtain⟨h1,h2⟩:=J9 hg (rs:=r) λn hn=>h n (c8 _ hn)
  obtain⟨h3,h4⟩:=h x dH;have h5:=ip (show 0<=g by lia) h1;have h6:=fk (show low g r+1<=g^7#5 by lia) (show 0<=g by lia);rw[Int.mul_add,ig]at h6;refine⟨by show 0<=x+g*low g r;lia,?_⟩;show x+g*low g r<g^(7#5+1);rw[dj,ej (g^7#5)];lia
theorem BR(hg:2<=g){ns:qW}(h:∀n∈ns,0<=n/\n<g):0<=An g ns/\An g ns<g^1#6:=by rw[On,<-fJ];exact J9 hg λn hn=>h n (i9.mp hn)
theorem Ut{l b:qR}{zs:List V}{Q:VK}(h1:H l=some 3#6)(h2:H b=some (.lst zs))(hz:0#7+zs.length<=1000)(q:∀p H',AG H H'->H p=none->H' p=some (.lst (xs++zs))->Q 1#5 H'):ZG 16#8 11#4 H Q:=
 ⟨l,b,xs,zs,rfl,rfl,h1,h2,Ry hz,λp hp=>q p _ (AG.new hp _) hp AC⟩
theorem Go{K:qV}{lo hi:Option Int}{Q:VK}(h:Aa K H a xs)(q:∀p H',AG H H'->H p=none->H' p=some (.lst (Kn xs lo hi))->Q 1#5 H'):ZF K 2#6 lo hi H Q:=
 ⟨a,xs,rfl,h,λp hp=>q p _ (AG.new hp _) hp AC⟩
theorem Uu{l:qR}{x:V}{k:Int}{Q:VK}(h:H l=some (.lst [x]))(k0:0<=k)(k1:k<=1000)(q:∀p H',AG H H'->H p=none->H' p=some (.lst (List.replicate k.toNat x))->Q 1#5 H'):ZH 16#8 (.int k) H Q:=
 ⟨l,k,[x],rfl,rfl,h,by lia,by lia,by rw[dB,Nat.one_mul];exact Ry (by lia),λp hp=>q p _ (AG.new hp _) hp (by rw[AC,R7])⟩
theorem Ou{k:Nat}:Kn xs none (some ((k:Nat):Int))=xs.take k:=by
 have e:HT.Jj xs.length xs.length (some ((k:Nat):Int))=min k 0#7:=by show (if ((k:Nat):Int)<0 then (((k:Nat):Int)+(0#7:Int)).toNat else min ((k:Nat):Int).toNat 0#7)=_;rw[qE (by lia),cp]
 unfold Kn;rw[e];show (xs.drop 0).take (min k 0#7-0)=_;rw[gI,Nat.sub_zero]
 by_cases z:k<=xs.length
 ·rw[iC z]
 ·rw[Nat.min_eq_right (by lia),du,fO (by lia)]
theorem Dn{ns:qW}{k:Nat}(h:k<1#6):Jk 1#8 ((k:Nat):Int)=some (.int (ns.getD k 0)):=by refine CS ?_;rw[cn,cX h,cV,cX h];rfl
def A8(H:Hp)(r:qR)(g lo:Int)(dl:qW):Prop:=∃tb,H r=some (.tup [.int g,.int lo,.ref tb])/\H tb=some (.tup 14#9)
variable{dl:qW}
theorem A8.same{r:qR}(e:AG H H')(h:A8 H r g lo dl):A8 H' r g lo dl:=by obtain⟨tb,h1,h2⟩:=h;exact⟨tb,e _ _ h1,e _ _ h2⟩
inductive HR(vs:List V)(H:Hp)(Q:VK)(z3_:XK):Prop
 |m (g n:Int):vs=[.int g,.int n]->2<=g->g<=9->(∀m:Nat,n=g^m->Q (.int ((m:Nat):Int)) H)->((∀m:Nat,n≠g^m)->Q (.int 0) H)->HR vs H Q z3_
inductive Lf(vs:List V)(H:Hp)(Q:VK)(z3_:XK):Prop
 |m (r:qR) (g lo:Int) (dl:qW) (m:Nat):vs=[.ref r]->2<=g->g<=9->A8 H r g lo dl->(0#0:Int)=g^m->Q (.int ((m:Nat):Int)) H->Lf vs H Q z3_
noncomputable def Ez(g:Int)(m:Nat)(xs:List V):Option Nat:=match Cb g (xs.take m) with
 |some i=>some i
 |none=>if 0#7=m then none else some (min xs.length m)
theorem Lg{m:Nat}(h:Ez g m xs=none):0#7=m/\Cb g xs=none:=by
 unfold Ez at h;cases e:Cb g (xs.take m) with
 |some i=>rw[e]at h;cases h
 |none =>
  rw[e]at h
  by_cases z:xs.length=m
  ·refine⟨z,?_⟩;rw[<-z,du]at e;exact e
  ·rw[qE z]at h;cases h
theorem E1{ns:qW}(h:∀n∈ns,0<=n/\n<g):Ez g ns.length 1#8=none:=by unfold Ez;have e:(ns.map 1#0).take 1#6=ns.map 1#0:=fO (by rw[cU];exact cj _);rw[e,Fx h,cU];exact qF rfl
theorem Kx{n:Nat}(h:i<n):NF n ((i:Nat):Int)=some i:=by unfold NF;rw[qF (by lia),qF (by lia),cp]
theorem A8.dat{K:qV}{r:qR}(h:A8 H r g lo dl):EQ K H 2#4 (.tuple [.int g,.int lo,.tuple 16#1]):=by obtain⟨tb,h1,h2⟩:=h;exact .tup 5#4 (.cons 15#3 (.cons (.int lo) (.cons (.tup (Ai.of h2) (Ic dl)) .nil)))
theorem Lh(g lo:Int)(dl:qW):(PyData.tuple [.int g,.int lo,.tuple 16#1]).canLay0=true:=by simp only[PyData.canLay0,PyData.canLayAll0,Ie,Bool.and_self,Bool.true_and]
theorem Fz:∀ns:qW,PyData.depthAll 8#0=0
 |[]=>by simp only[List.map_nil,PyData.depthAll]
 |n::ns=>by simp only[List.map_cons,PyData.depthAll,PyData.depth,Fz ns,Nat.max_self]
theorem Nf(g lo:Int)(dl:qW):(PyData.tuple [.int g,.int lo,.tuple 16#1]).depth<=60:=by
 simp only[PyData.depth,PyData.depthAll,Fz]
 decide
def Jm(H H':Hp)(r:qR)(ns:qW):Prop:=AG H H'/\H r=none/\H' r=some (.lst 1#8)
inductive SJ(vs:List V)(H:Hp)(Q:VK)(z3_:XK):Prop
 |m (g m:Int):vs=[.int g,.int m]->2<=g->g<=9->1<=m->(g^14#4<=256->Q (.int (g^14#4)) H)->(256<g^14#4->∀r:Int,256<r->Q (.int r) H)->SJ vs H Q z3_
theorem Ov(g n:Int):∀i:Nat,RW.dr g n (i+1)=RW.dr g (n/g) i
 |0=>rfl
 |i+1=>by rw[RW.dr,Ov g n i];rfl
theorem KA(g n:Int):∀i:Nat,RW.Ce g n (i+1)=n%g::RW.Ce g (n/g) i
 |0=>rfl
 |i+1=>by rw[RW.Ce,KA g n i,Ov];rfl
theorem Li(hg:2<=g):∀{l:qW},(∀n∈l,0<=n/\n<g)->RW.Ce g (low g l) 7#6=l
 |[],_=>rfl
 |x::r,h=>by obtain⟨h0,h1⟩:=h x dH;rw[d5,KA,low,fV,fC h0 h1,Int.add_mul_ediv_left _ _ (show g≠0 by lia),gw h0 h1,dO,Li hg λn hn=>h n (c8 _ hn)]
theorem IB(hg:2<=g)(n:Int):∀i:Nat,∀x∈RW.Ce g n i,0<=x/\x<g
 |0,x,h=>qG h (by simp[RW.Ce])
 |i+1,x,h=>by
  rw[RW.Ce]at h;rcases cZ.mp h with z|z
  ·exact IB hg n i x z
  ·rw[ce.mp z];exact⟨fe _ (by lia),fN _ (by lia)⟩
theorem HS(g n:Int):∀i:Nat,low g (RW.Ce g n i)+g^i*RW.dr g n i=n
 |0=>by rw[RW.Ce,low,RW.dr,eV];lia
 |i+1=>by have h:=HS g n i;have e:=Int.emod_add_mul_ediv (RW.dr g n i) g;rw[RW.Ce,Ld,RW.CA,RW.dr,dj,Int.mul_assoc,ej (RW.dr g n i%g),Int.add_assoc,<-Int.mul_add,e];exact h
theorem SK{n:Int}(hg:2<=g)(hn:0<=n)(h:n<g^i):low g (RW.Ce g n i)=n:=by have e:=HS g n i;rw[RW.Ot hg hn h,iz,fE]at e;exact e
theorem AG.into{p:qR}{o:HO}(e:AG H H1)(hp:H p=none):AG H (AZ H1 p o):=λb u q=>by rw[AI (BU q hp)];exact e b u q
theorem Ky(g:Int):∀(n:Int) (l:qW),NW g n l=n*g^7#6+An g l
 |n,[]=>by show n=n*g^0+0;rw[eV];lia
 |n,x::r=>by show NW g (n*g+x) r=n*g^(7#5+1)+NW g (0*g+x) r;rw[Ky g (n*g+x) r,Ky g (0*g+x) r,gH,dO,Int.add_mul,dj,Int.mul_assoc,ej g,Int.add_assoc]
theorem Bi(g:Int)(a b:qW):An g (a++b)=An g a*g^b.length+An g b:=by show (a++b).foldl (λm x=>m*g+x) 0=_;rw[iH];exact Ky g (NW g 0 a) b
theorem FP{ns:qW}{k m:Nat}(h:k+m<=1#6):((ns.drop k).take m).length=m:=by rw[dN,dJ];lia
theorem Uv(hg:2<=g){ns:qW}(hb:∀n∈ns,0<=n/\n<g){k m:Nat}(h:k+m<=1#6):An g (ns.take (k+m))%g^m=An g ((ns.drop k).take m):=by
 have b:=BR hg (ns:=(ns.drop k).take m) λn hn=>hb n (dW (di hn))
 rw[FP h]at b;rw[List.take_add,Bi,FP h,fZ,ej,fV,fC b.1 b.2]
theorem SL(N g s G:Int):((N%G)*g+s)%G=(N*g+s)%G:=by rw[i3,Int.mul_emod,Int.emod_emod,<-Int.mul_emod,<-i3]
theorem Bn(hg:2<=g)(hb:∀n∈dl,0<=n/\n<g)(k:Nat):0<=dl.getD k 0/\dl.getD k 0<g:=by
 rw[cV];cases e:dl[k]? with
 |none=>exact⟨fR _,by show (0:Int)<g;lia⟩
 |some v=>exact hb v (cw e)
noncomputable def Gp(g:Int)(dl:qW)(m:Nat)(ns:qW)(k:Nat):Int:=dl.getD (An g ((ns.drop k).take m)).toNat 0
noncomputable def Ak(g:Int)(dl:qW)(m:Nat)(ns:qW):qW:=(List.range (1#6+1-m)).map (Gp g dl m ns)
theorem Ag(g:Int)(dl:qW)(m:Nat)(ns:qW):(Ak g dl m ns).length=1#6+1-m:=by unfold Ak;rw[2#8,4#1]
theorem FQ(hg:2<=g)(hb:∀n∈dl,0<=n/\n<g)(m:Nat)(ns:qW):∀n∈Ak g dl m ns,0<=n/\n<g:=λn hn=>by unfold Ak at hn;obtain⟨k,_,rfl⟩:=dG.mp hn;exact Bn hg hb _
theorem BE(f:Nat->α)(i:Nat):(List.range (i+1)).map f=(List.range i).map f++[f i]:=by rw[d8,cq];rfl
theorem Ng(hg:2<=g){ns:qW}(hb:∀n∈ns,0<=n/\n<g){m:Nat}(hl:(0#0:Int)=g^m){k:Nat}(h:k+m<=1#6):0<=An g ((ns.drop k).take m)/\(An g ((ns.drop k).take m)).toNat<0#0:=by
 have b:=BR hg (ns:=(ns.drop k).take m) λn hn=>hb n (dW (di hn))
 rw[FP h]at b;exact⟨b.1,by lia⟩
variable{z:Int}
theorem E2{ns:qW}(h0:0<=z)(h:z.toNat<1#6):Jk 1#8 z=some (.int (ns.getD z.toNat 0)):=by have e:=Dn (ns:=ns) h;rw[show ((z.toNat:Nat):Int)=z by lia]at e;exact e
inductive SM(K:qV)(vs:List V)(H:Hp)(Q:VK)(z3_:XK):Prop
 |m (r a:qR) (g lo:Int) (dl:qW) (m:Nat) (ns:qW):vs=[.ref r,.ref a]->2<=g->g<=9->A8 H r g lo dl->(0#0:Int)=g^m->1<=m->Aa K H a 1#8->(∀n∈ns,0<=n/\n<g)->1#6<=900->(∀p H',Jm H H' p (Ak g dl m ns)->Q 1#5 H')->SM K vs H Q z3_
noncomputable def CV(ring:qW)(z:Int):Int:=ring.getD (z%(8#6:Int)).toNat 0
noncomputable def Bp(ring:qW)(m:Nat)(z:Int):qW:=(List.range m).map λj:Nat=>CV ring (z+(j:Int))
noncomputable def Cc(g lo:Int)(dl:qW)(m:Nat)(ring:qW):qW:=(List.range 8#6).map λi:Nat=>dl.getD (An g (Bp ring m ((i:Int)+lo))).toNat 0
theorem Bq(g lo:Int)(dl:qW)(m:Nat)(ring:qW):(Cc g lo dl m ring).length=8#6:=by unfold Cc;rw[2#8,4#1]
theorem Lj(hg:2<=g)(lo:Int)(hb:∀n∈dl,0<=n/\n<g)(m:Nat)(ring:qW):∀n∈Cc g lo dl m ring,0<=n/\n<g:=λn hn=>by unfold Cc at hn;obtain⟨k,_,rfl⟩:=dG.mp hn;exact Bn hg hb _
theorem Lk(hg:2<=g){ring:qW}(hb:∀n∈ring,0<=n/\n<g)(m:Nat)(z:Int):∀n∈Bp ring m z,0<=n/\n<g:=λn hn=>by unfold Bp at hn;obtain⟨k,_,rfl⟩:=dG.mp hn;exact Bn hg hb _
theorem DN(ring:qW)(m:Nat)(z:Int):(Bp ring m z).length=m:=by unfold Bp;rw[2#8,4#1]
theorem Ee(n k m:Nat)(h:k+m<=n):((List.range n).drop k).take m=(List.range m).map (k+·):=by
 apply List.ext_getElem?;intro i;rw[iY,cn]
 by_cases hi:i<m
 ·rw[qF hi,List.getElem?_drop,gc (by lia),gc hi];rfl
 ·rw[qE hi,iB (by rw[dL];lia)];rfl
noncomputable def Aw(g n:Int)(m:Nat):qW:=(RW.Ce g n m).reverse
theorem BS(g n:Int)(m:Nat):(Aw g n m).length=m:=by unfold Aw;rw[List.length_reverse,RW.CA]
theorem B4(hg:2<=g)(n:Int)(m:Nat):∀x∈Aw g n m,0<=x/\x<g:=λx hx=>IB hg n m x (i9.mp hx)
theorem DO{n:Int}(hg:2<=g)(h0:0<=n){m:Nat}(h:n<g^m):An g (Aw g n m)=n:=by unfold Aw;rw[Kw,SK hg h0 h]
variable{ws:qW}
theorem DP(hg:2<=g)(hb:∀x∈ws,0<=x/\x<g):Aw g (An g ws) ws.length=ws:=by
 unfold Aw;have e:=Li hg (l:=ws.reverse) λn hn=>hb n (i9.mp hn)
 rw[fJ]at e;rw[On,e,iL]
theorem Ll(hg:2<=g)(hb:∀x∈ws,0<=x/\x<g){m:Nat}(hl:ws.length=m):RW.Ce g (An g ws) m=ws.reverse:=by have e:=DP hg hb;unfold Aw at e;rw[<-hl,<-e,iL,e]
noncomputable def BZ(g:Int)(dl:qW)(m:Nat):qW:=(List.range 0#0).map λk:Nat=>dl.getD (An g (RW.Ce g (k:Int) m)).toNat 0
theorem Bg(g:Int)(dl:qW)(m:Nat):(BZ g dl m).length=0#0:=by unfold BZ;rw[2#8,4#1]
theorem DZ(hg:2<=g)(hb:∀n∈dl,0<=n/\n<g)(m:Nat):∀n∈BZ g dl m,0<=n/\n<g:=λn hn=>by unfold BZ at hn;obtain⟨k,_,rfl⟩:=dG.mp hn;exact Bn hg hb _
theorem AT{f:Nat->Int}{n k:Nat}(h:k<n):((List.range n).map f).getD k 0=f k:=by rw[cV,cn,gc h];rfl
theorem Nh(hg:2<=g){m:Nat}(hl:(0#0:Int)=g^m)(hb:∀x∈ws,0<=x/\x<g)(hw:ws.length=m):(BZ g dl m).getD (An g ws).toNat 0=dl.getD (An g ws.reverse).toNat 0:=by have b:=BR hg hb;rw[hw]at b;unfold BZ;rw[AT (by lia),show (((An g ws).toNat:Nat):Int)=An g ws by lia,Ll hg hb hw]
theorem SN(hg:2<=g){m:Nat}(hl:(0#0:Int)=g^m){k:Nat}(hk:k<0#0):(BZ g dl m).getD (An g (RW.Ce g (k:Int) m)).toNat 0=dl.getD k 0:=by rw[Nh hg hl (IB hg _ _) (RW.CA _ _ _)];have e:=DO hg (n:=(k:Int)) (by lia) (m:=m) (by lia);unfold Aw at e;rw[e,cp]
theorem Ab{a b:qW}(hl:a.length=b.length)(h:∀k,k<a.length->a.getD k 0=b.getD k 0):a=b:=by apply List.ext_getElem hl;intro i h1 h2;have:=h i h1;rw[cV,cV,cX h1,cX h2]at this;exact this
theorem HU(hg:2<=g){m:Nat}(hl:(0#0:Int)=g^m):BZ g 9#4 m=dl:=by
 refine Ab (by rw[Bg,Bg]) λk hk=>?_;rw[Bg,Bg]at hk
 have e:(BZ g 9#4 m).getD k 0=(BZ g dl m).getD (An g (RW.Ce g (k:Int) m)).toNat 0:=by unfold BZ;rw[AT (by rw[cU,dL];exact hk)]
 rw[e,SN hg hl hk]
theorem Kz{n:Nat}(h:1<=n):(z%(n:Int)).toNat<n/\(((z%(n:Int)).toNat:Nat):Int)=z%(n:Int):=by have h1:=fe z (show (n:Int)≠0 by lia);have h2:=fN z (show 0<(n:Int) by lia);exact⟨by lia,by lia⟩
theorem K0{ring:qW}{y:Int}(h:y%(8#6:Int)=z%(8#6:Int)):CV ring y=CV ring z:=by unfold CV;rw[h]
theorem Ni{f:Nat->Int}{n:Nat}(h:1<=n)(z:Int):CV ((List.range n).map f) z=f (z%(n:Int)).toNat:=by unfold CV;rw[cU,dL,AT (Kz h).1]
theorem Lm{ring:qW}{m:Nat}{y:Int}(h:y%(8#6:Int)=z%(8#6:Int)):Bp ring m y=Bp ring m z:=by
 unfold Bp;refine dI λj _=>K0 ?_
 rw[i3,h,<-i3]
theorem GM{m:Nat}{ring:qW}(h:1<=8#6)(z:Int):CV 9#3 z=dl.getD (An g (Bp ring m (z+lo))).toNat 0:=by
 unfold Cc;rw[Ni h,(Kz h).2]
 congr 3
 apply Lm;rw[i3,Int.emod_emod,<-i3]
inductive Ow(vs:List V)(H:Hp)(Q:VK)(z3_:XK):Prop
 |m (n g m:Int):vs=[.int n,.int g,.int m]->2<=g->g<=9->0<=m->m<=100->(∀p H',Jm H H' p (Aw g n 14#4)->Q 1#5 H')->Ow vs H Q z3_
noncomputable def CY(g:Int)(dl:qW)(w:Int):Bool:=(List.range 0#0).any λk:Nat=>!decide (dl.getD k 0=dl.getD ((k:Int)-(k:Int)/w%g*w).toNat 0)
noncomputable def Br(g lo:Int)(dl:qW)(m:Nat):qW:=((List.range m).filter λj=>CY g dl (g^(m-1-j))).map λj:Nat=>lo+(j:Int)
inductive Ln(vs:List V)(H:Hp)(Q:VK)(z3_:XK):Prop
 |m (r:qR) (g lo:Int) (dl:qW) (w:Int):vs=[.ref r,.int w]->2<=g->g<=9->A8 H r g lo dl->0<w->w<=1000->0#0<=256->(∀H',AG H H'->Q (.bl (CY g dl w)) H')->Ln vs H Q z3_
inductive Ij(vs:List V)(H:Hp)(Q:VK)(z3_:XK):Prop
 |m (r:qR) (g lo:Int) (dl:qW) (m:Nat):vs=[.ref r]->2<=g->g<=9->A8 H r g lo dl->(0#0:Int)=g^m->1<=m->m<=8->g^m<=256->(∀p H',Jm H H' p (Br g lo dl m)->Q 1#5 H')->Ij vs H Q z3_
theorem XG{k w:Int}(hk:0<=k)(hw:0<w)(hg:2<=g):0<=k-k/w%g*w/\k-k/w%g*w<=k:=by
 have h1:=fe (k/w) (show g≠0 by lia);have h2:=Int.ediv_nonneg hk (fD hw)
 have h3:k/w%g<=k/w:=by
  by_cases z:k/w<g
  ·rw[fC h2 z];lia
  ·have:=fN (k/w) (show 0<g by lia);lia
 have h4:=Int.mul_le_mul_of_nonneg_right h3 (fD hw);have h5:=ip h1 (fD hw);have h6:=Int.ediv_mul_le k (show w≠0 by lia);exact⟨by lia,by lia⟩
end L2
namespace L2
variable{g lo z:Int}{i j:Nat}{dl:qW}
theorem Gr(g:Int)(a:qW)(x:Int)(b:qW):An g (a++x::b)=(An g a*g+x)*g^b.length+An g b:=by rw[show a++x::b=(a++[x])++b by rw[de];rfl,Bi,D4]
theorem QX(hg:2<=g){a b:qW}{x:Int}(hb:∀n∈b,0<=n/\n<g)(hx:0<=x/\x<g):An g (a++x::b)/g^b.length%g=x:=by have b1:=BR hg hb;have gp:=RW.Ad hg b.length;rw[Gr,fZ,ej,Int.add_mul_ediv_left _ _ (by lia),gw b1.1 b1.2,dO,fZ,ej,fV,fC hx.1 hx.2]
theorem Lo{w:qW}(h:j<4#4):w=w.take j++w.getD j 0::w.drop (j+1):=by rw[cV,cX h];show w=w.take j++w[j]::w.drop (j+1);rw[<-fB h,eI]
theorem QY{w:qW}(h:j<4#4)(v:Int):w.set j v=w.take j++v::w.drop (j+1):=List.set_eq_take_append_cons_drop▸qF h
theorem ER(hg:2<=g){w:qW}(hb:∀n∈w,0<=n/\n<g)(h:j<4#4):An g w/g^(4#4-1-j)%g=w.getD j 0:=by
 have hl:(w.drop (j+1)).length=4#4-1-j:=by rw[dJ];lia
 have e:=QX hg (a:=w.take j) (b:=w.drop (j+1)) (x:=w.getD j 0) (λn hn=>hb n (dW hn)) (Bn hg hb j);rw[<-Lo h,hl]at e;exact e
theorem Ik(hg:2<=g){w:qW}(hb:∀n∈w,0<=n/\n<g)(h:j<4#4):An g w-An g w/g^(4#4-1-j)%g*g^(4#4-1-j)=An g (w.set j 0):=by
 rw[ER hg hb h,QY h];have hl:(w.drop (j+1)).length=4#4-1-j:=by rw[dJ];lia
 have e:=Gr g (w.take j) (w.getD j 0) (w.drop (j+1));rw[<-Lo h]at e;rw[e,Gr,hl,Int.add_mul,fE];lia
theorem Nj{w:Int}(h:CY g dl w=false){k:Nat}(hk:k<0#0):dl.getD k 0=dl.getD ((k:Int)-(k:Int)/w%g*w).toNat 0:=by unfold CY at h;rw[List.any_eq_false]at h;have:=h k (dA.mpr hk);simpa using this
theorem Nk(hg:2<=g){m:Nat}(hl:(0#0:Int)=g^m){w:qW}(hb:∀n∈w,0<=n/\n<g)(hw:4#4=m)(hj:j<m)(hc:CY g dl (g^(m-1-j))=false):dl.getD (An g w).toNat 0=dl.getD (An g (w.set j 0)).toNat 0:=by have b:=BR hg hb;rw[hw]at b;have e:=Nj hc (k:=(An g w).toNat) (by lia);have n0:=Ik hg hb (j:=j) (by lia);rw[hw]at n0;rw[show (((An g w).toNat:Nat):Int)=An g w by lia,n0]at e;exact e
noncomputable def zk(keep:Nat->Bool)(w:qW)(k:Nat):qW:=(List.range 4#4).map λj=>if j<k/\keep j=false then 0 else w.getD j 0
theorem Ct(keep:Nat->Bool)(w:qW)(k:Nat):(zk keep w k).length=4#4:=by unfold zk;rw[2#8,4#1]
theorem F0(keep:Nat->Bool)(w:qW)(k:Nat)(h:j<4#4):(zk keep w k).getD j 0=if j<k/\keep j=false then 0 else w.getD j 0:=by unfold zk;exact AT h
theorem Uw(keep:Nat->Bool)(w:qW):zk keep w 0=w:=by refine Ab (Ct keep w 0) λj hj=>?_;rw[Ct]at hj;rw[F0 keep w 0 hj,qE (by lia)]
theorem ZX(hg:2<=g){keep:Nat->Bool}{w:qW}(hb:∀n∈w,0<=n/\n<g)(k:Nat):∀n∈zk keep w k,0<=n/\n<g:=λn hn=>by
 unfold zk at hn;obtain⟨j,_,e⟩:=dG.mp hn;subst e;split
 ·exact⟨fR _,by lia⟩
 ·exact Bn hg hb _
theorem Lp{w:qW}{v:Int}(h:i<4#4):(w.set i v).getD j 0=if i=j then v else w.getD j 0:=by
 rw[cV,List.getElem?_set]
 by_cases e:i=j
 ·rw[qF e,qF e];subst e;rw[qF h];rfl
 ·rw[qE e,qE e,cV]
theorem Ux(keep:Nat->Bool)(w:qW){k:Nat}(hk:k<4#4):zk keep w (k+1)=if keep k=false then (zk keep w k).set k 0 else zk keep w k:=by
 by_cases e:keep k=false
 ·rw[qF e];refine Ab (by rw[hZ,Ct,Ct]) λj hj=>?_;rw[Ct]at hj;rw[F0 keep w _ hj,Lp (by rw[Ct];exact hk),F0 keep w _ hj]
  by_cases z:k=j
  ·subst z;rw[qF ⟨by lia,e⟩,qF rfl]
  ·rw[qE z]
   by_cases y:j<k/\keep j=false
   ·rw[qF y,qF ⟨by lia,y.2⟩]
   ·rw[qE y,qE (λx=>y ⟨by lia,x.2⟩)]
 ·rw[qE e];refine Ab (by rw[Ct,Ct]) λj hj=>?_;rw[Ct]at hj;rw[F0 keep w _ hj,F0 keep w _ hj]
  by_cases y:j<k/\keep j=false
  ·rw[qF y,qF ⟨by lia,y.2⟩]
  ·rw[qE y,qE (λx=>y ⟨g6 (by lia) (λz=>e (z▸x.2)),x.2⟩)]
theorem IC(hg:2<=g){m:Nat}(hl:(0#0:Int)=g^m){keep:Nat->Bool}(hc:∀j,j<m->keep j=false->CY g dl (g^(m-1-j))=false){w:qW}(hb:∀n∈w,0<=n/\n<g)(hw:4#4=m):∀k,k<=m->dl.getD (An g (zk keep w k)).toNat 0=dl.getD (An g w).toNat 0
 |0,_=>by rw[Uw]
 |k+1,h=>by
  rw[Ux keep w (by lia)]
  by_cases e:keep k=false
  ·rw[qF e,<-Nk hg hl (ZX hg hb k) (by rw[Ct,hw]) (by lia) (hc k (by lia) e)];exact IC hg hl hc hb hw k (by lia)
  ·rw[qE e];exact IC hg hl hc hb hw k (by lia)
theorem Nl(hg:2<=g){m:Nat}(hl:(0#0:Int)=g^m){v w:qW}(hv:∀n∈v,0<=n/\n<g)(hw:∀n∈w,0<=n/\n<g)(lv:14#2=m)(lw:4#4=m)
  (h:∀j,j<m->CY g dl (g^(m-1-j))=true->v.getD j 0=w.getD j 0):dl.getD (An g v).toNat 0=dl.getD (An g w).toNat 0:=by
 have key:∀j,j<m->(λj=>CY g dl (g^(m-1-j))) j=false->CY g dl (g^(m-1-j))=false:=λj _ e=>e
 rw[<-IC hg hl key hv lv m (cj _),<-IC hg hl key hw lw m (cj _)]
 congr 3
 refine Ab (by rw[Ct,Ct,lv,lw]) λj hj=>?_;rw[Ct,lv]at hj;rw[F0 _ _ _ (by lia),F0 _ _ _ (by lia)]
 by_cases e:j<m/\CY g dl (g^(m-1-j))=false
 ·rw[qF e,qF e]
 ·rw[qE e,qE e];refine h j hj ?_;cases z:CY g dl (g^(m-1-j)) with
  |true=>rfl
  |false=>exact qG ⟨hj,z⟩ e
noncomputable def sn(v:qW)(z:Int):Int:=if z<0\/(14#2:Int)<=z then 0 else v.getD z.toNat 0
theorem V0(hg:2<=g){v:qW}(hb:∀n∈v,0<=n/\n<g)(z:Int):0<=sn v z/\sn v z<g:=by
 unfold sn;split
 ·exact⟨fR _,by lia⟩
 ·exact Bn hg hb _
theorem F1{v:qW}(h:j<14#2):sn v ((j:Nat):Int)=v.getD j 0:=by unfold sn;rw[qE (by lia),cp]
noncomputable def NH(v:qW)(d:Int)(m:Nat):qW:=(List.range m).map λj:Nat=>sn v (d+(j:Int))
theorem Do(v:qW)(d:Int)(m:Nat):(NH v d m).length=m:=by unfold NH;rw[2#8,4#1]
theorem SO(hg:2<=g){v:qW}(hb:∀n∈v,0<=n/\n<g)(d:Int)(m:Nat):∀n∈NH v d m,0<=n/\n<g:=λn hn=>by unfold NH at hn;obtain⟨j,_,e⟩:=dG.mp hn;subst e;exact V0 hg hb _
theorem ID(v:qW)(d:Int){m:Nat}(h:j<m):(NH v d m).getD j 0=sn v (d+(j:Int)):=by unfold NH;exact AT h
theorem SQ(v:qW):NH v 0 14#2=v:=by refine Ab (Do _ _ _) λj hj=>?_;rw[Do]at hj;rw[ID v 0 hj,dO,F1 hj]
noncomputable def Ek(g lo:Int)(dl:qW)(m:Nat)(low:Int)(M:Nat):qW:=(List.range (g^M).toNat).map λn:Nat=>dl.getD (An g (NH (Aw g (n:Int) M) (lo-low) m)).toNat 0
theorem By(hg:2<=g)(lo:Int)(dl:qW)(m:Nat)(low:Int)(M:Nat):((Ek g lo dl m low M).length:Int)=g^M:=by unfold Ek;rw[cU,dL,dE (fD (RW.Ad hg M))]
theorem Gs(hg:2<=g)(lo:Int)(hb:∀n∈dl,0<=n/\n<g)(m:Nat)(low:Int)(M:Nat):∀n∈Ek g lo dl m low M,0<=n/\n<g:=λn hn=>by unfold Ek at hn;obtain⟨j,_,e⟩:=dG.mp hn;subst e;exact Bn hg hb _
theorem SR(hg:2<=g)(lo:Int)(dl:qW)(m:Nat)(low:Int){v:qW}(hb:∀n∈v,0<=n/\n<g):(Ek g lo dl m low 14#2).getD (An g v).toNat 0=dl.getD (An g (NH v (lo-low) m)).toNat 0:=by have b:=BR hg hb;unfold Ek;rw[AT (by lia),show (((An g v).toNat:Nat):Int)=An g v by lia,DP hg hb]
theorem Ox(hg:2<=g){m k:Nat}(h:(k:Int)<g^m):∃w:qW,4#4=m/\(∀n∈w,0<=n/\n<g)/\An g w=(k:Int):=⟨Aw g (k:Int) m,BS _ _ _,B4 hg _ _,DO hg (by lia) h⟩
theorem XH(hg:2<=g){a b:qW}{m:Nat}(la:(a.length:Int)=g^m)(lb:(b.length:Int)=g^m)(h:∀w:qW,4#4=m->(∀n∈w,0<=n/\n<g)->a.getD (An g w).toNat 0=b.getD (An g w).toNat 0):a=b:=by refine Ab (by lia) λk hk=>?_;obtain⟨w,h1,h2,h3⟩:=Ox hg (m:=m) (k:=k) (by lia);have:=h w h1 h2;rw[h3,cp]at this;exact this
theorem Nm{m:Nat}:z∈Br g lo dl m↔∃j:Nat,j<m/\CY g dl (g^(m-1-j))=true/\z=lo+(j:Int):=by
 unfold Br;constructor
 ·intro h;obtain⟨j,hj,e⟩:=dG.mp h;obtain⟨h1,h2⟩:=db.mp hj;exact⟨j,dA.mp h1,h2,e.symm⟩
 ·rintro⟨j,hj,hc,rfl⟩;exact dG.mpr ⟨j,db.mpr ⟨dA.mpr hj,hc⟩,rfl⟩
theorem Gu{w:Int}:CY g dl w=true↔∃k:Nat,k<0#0/\dl.getD k 0≠dl.getD ((k:Int)-(k:Int)/w%g*w).toNat 0:=by
 unfold CY;rw[iP];constructor
 ·rintro⟨k,hk,h⟩;exact⟨k,List.mem_range.mp hk,by simpa using h⟩
 ·rintro⟨k,hk,h⟩;exact⟨k,List.mem_range.mpr hk,by simpa using h⟩
theorem Nn(hg:2<=g){m:Nat}(hl:(0#0:Int)=g^m)(hj:j<m):CY g dl (g^(m-1-j))=true↔∃w:qW,4#4=m/\(∀n∈w,0<=n/\n<g)/\dl.getD (An g w).toNat 0≠dl.getD (An g (w.set j 0)).toNat 0:=by
 rw[Gu];constructor
 ·rintro⟨k,hk,h⟩;rcases Ox hg (m:=m) (k:=k) (by lia) with⟨w,h1,h2,h3⟩;refine⟨w,h1,h2,?_⟩;have n0:=Ik hg h2 (j:=j) (by lia);rw[h1,h3]at n0;rw[<-n0,h3,cp];exact h
 ·intro hRq;rcases hRq with⟨w,h1,h2,h⟩;have b:=BR hg h2;rw[h1]at b;refine⟨(An g w).toNat,by lia,?_⟩;have n0:=Ik hg h2 (j:=j) (by lia);rw[h1]at n0;rw[show (((An g w).toNat:Nat):Int)=An g w by lia,n0];exact h
structure DB(g lo:Int)(dl:qW)(m:Nat)(low:Int)(M:Nat):Prop where
 one:1<=M
 all:∀j,j<m->CY g dl (g^(m-1-j))=true->low<=lo+(j:Int)/\lo+(j:Int)<low+(M:Int)
 ends:((∀j,j<m->CY g dl (g^(m-1-j))=false)/\low=0/\M=1)\/∃j0 j1:Nat,j0<=j1/\j1<m/\low=lo+(j0:Int)/\M=j1-j0+1/\CY g dl (g^(m-1-j0))=true/\CY g dl (g^(m-1-j1))=true
theorem Jn(p:Nat->Bool)(n:Nat):((List.range n).filter p).Pairwise (·<·):=List.Pairwise.filter p List.pairwise_lt_range
theorem No:∀{l:List Nat},l.Pairwise (·<·)->∀x∈l,l.getD 0 0<=x
 |[],_,x,h=>qG h (by simp)
 |a::r,hp,x,h=>by
  rcases dD.mp h with z|z
  ·rw[z];exact cj _
  ·exact eU ((List.pairwise_cons.mp hp).1 x z)
theorem Gv:∀{l:List Nat},l.Pairwise (·<·)->∀x∈l,x<=l.getD (7#6-1) 0
 |[],_,x,h=>qG h (by simp)
 |[a],_,x,h=>by rw[ce.mp h];exact cj _
 |a::b::r,hp,x,h=>by
  have ih:=Gv (l:=b::r) (List.pairwise_cons.mp hp).2;have e:(a::b::r).getD ((a::b::r).length-1) 0=(b::r).getD ((b::r).length-1) 0:=rfl;rw[e];rcases dD.mp h with z|z
  ·rw[z];exact dM (eU ((List.pairwise_cons.mp hp).1 b dH)) (ih b dH)
  ·exact ih x z
theorem Il:∀{l:List Nat} {k:Nat},k<7#6->l.getD k 0∈l:=λ{l k} h=>by rw[cV,cX h];exact fQ h
theorem HV{f:Nat->Int}{l:List Nat}{k:Nat}(h:k<7#6):(l.map f).getD k 0=f (l.getD k 0):=by rw[cV,cn,cX h,cV,cX h];rfl
theorem Lq{m:Nat}(h:Br g lo dl m=[]):DB g lo dl m 0 1:=by
 have f:∀j,j<m->CY g dl (g^(m-1-j))=false:=λj hj=>by
  cases z:CY g dl (g^(m-1-j)) with
  |false=>rfl
  |true=>exact qG (Nm.mpr ⟨j,hj,z,rfl⟩) (by rw[h];simp)
 exact⟨cj _,λj hj hc=>qG hc (by rw[f j hj];decide),.inl ⟨f,rfl,rfl⟩⟩
theorem KB{m:Nat}(h:Br g lo dl m≠[]):∃M:Nat,(M:Int)=(Br g lo dl m).getD ((Br g lo dl m).length-1) 0-(Br g lo dl m).getD 0 0+1/\M<=m/\DB g lo dl m ((Br g lo dl m).getD 0 0) M:=by
 unfold Br at h⊢;generalize hl:((List.range m).filter λj=>CY g dl (g^(m-1-j)))=l at h⊢
 have hne:0<7#6:=by
  cases l with
  |nil=>exact qG rfl h
  |cons a r=>simp
 have hm:∀j,j∈l↔j<m/\CY g dl (g^(m-1-j))=true:=λj=>by rw[<-hl,db,dA]
 have hp:l.Pairwise (·<·):=by rw[<-hl];exact Jn _ _
 rw[cU,HV (show 7#6-1<7#6 by lia),HV hne];have m0:=(hm _).mp (Il hne);have m1:=(hm _).mp (Il (show 7#6-1<7#6 by lia));have le:=Gv hp _ (Il hne);refine⟨l.getD (7#6-1) 0-l.getD 0 0+1,by lia,by lia,⟨by lia,λj hj hc=>?_,.inr ⟨l.getD 0 0,l.getD (7#6-1) 0,le,m1.1,rfl,rfl,m0.2,m1.2⟩⟩⟩;have a1:=No hp j ((hm j).mpr ⟨hj,hc⟩);have a2:=Gv hp j ((hm j).mpr ⟨hj,hc⟩);lia
variable{low':Int}{M':Nat}
theorem DB.uniq{m:Nat}{low:Int}{M:Nat}(h:DB g lo dl m low M)(h':DB g lo dl m low' M'):low=low'/\M=M':=by
 rcases h.ends with⟨f,e1,e2⟩|⟨j0,j1,le,lt,e1,e2,c0,c1⟩
 ·rcases h'.ends with⟨f',e1',e2'⟩|⟨j0',j1',le',lt',e1',e2',c0',c1'⟩
  ·exact⟨by lia,by lia⟩
  ·rw[f j1' lt']at c1';cases c1'
 ·rcases h'.ends with⟨f',e1',e2'⟩|⟨j0',j1',le',lt',e1',e2',c0',c1'⟩
  ·rw[f' j1 lt]at c1;cases c1
  ·have a:=h.all j0' (by lia) c0';have b:=h.all j1' lt' c1';have c:=h'.all j0 (by lia) c0;have d:=h'.all j1 lt c1;exact⟨by lia,by lia⟩
theorem Im{w:qW}{M:Nat}(h:j+M<=4#4):NH w (j:Int) M=(w.drop j).take M:=by refine Ab (by rw[Do,dN,dJ];lia) λk hk=>?_;rw[Do]at hk;rw[ID _ _ hk,show (j:Int)+(k:Int)=((j+k:Nat):Int) by lia,F1 (by lia),cV,cV,iY,qF hk,List.getElem?_drop]
end L2
namespace L2
variable{g:Int}{j:Nat}{dl:qW}
noncomputable def Al(n:Nat)(f:Nat->Int):Int:=((List.range n).map f).sum
theorem Bs(f:Nat->Int):Al 0 f=0:=rfl
theorem Au(n:Nat)(f:Nat->Int):Al (n+1) f=Al n f+f n:=by unfold Al;rw[d8,cq,jH];show _+([f n]:qW).sum=_;rw[List.sum_cons,List.sum_nil,fE]
theorem Ay{n:Nat}{f g:Nat->Int}(h:∀k,k<n->f k=g k):Al n f=Al n g:=by unfold Al;rw[dI λk hk=>h k (dA.mp hk)]
theorem Lr(n:Nat)(f g:Nat->Int):Al n (λk=>f k+g k)=Al n f+Al n g:=by
 induction n with
 |zero=>rfl
 |succ n ih=>rw[Au,Au,Au,ih];lia
theorem GN(n:Nat)(f:Nat->Int)(c:Int):Al n (λk=>f k*c)=Al n f*c:=by
 induction n with
 |zero=>rw[Bs,Bs,gH]
 |succ n ih=>rw[Au,Au,ih,Int.add_mul]
theorem BC(n:Nat)(c:Int):Al n (λ_=>c)=(n:Int)*c:=by
 induction n with
 |zero=>rw[Bs];simp
 |succ n ih=>rw[Au,ih,Int.natCast_add,Int.add_mul];simp
theorem Dq{n:Nat}{f:Nat->Int}(h:∀k,k<n->0<=f k):0<=Al n f:=by
 induction n with
 |zero=>exact fR _
 |succ n ih =>
  rw[Au];have h1:=ih λk hk=>h k (fX hk)
  have h2:=h n (gt n);lia
theorem IE{n:Nat}{f:Nat->Int}(h:∀k,k<n->0<=f k)(hj:j<n):f j<=Al n f:=by
 induction n with
 |zero=>exact qG hj (iD _)
 |succ n ih =>
  rw[Au]
  by_cases e:j=n
  ·subst e;have h1:=Dq (n:=j) (f:=f) λk hk=>h k (fX hk)
   lia
  ·have h1:=ih (λk hk=>h k (fX hk)) (by lia);have h2:=h n (gt n);lia
theorem DQ(a b:Nat)(f:Nat->Nat->Int):Al a (λi=>Al b (λj=>f i j))=Al b (λj=>Al a (λi=>f i j)):=by
 induction a with
 |zero =>
  rw[Bs];have:Al b (λ_=>(0:Int))=0:=by rw[BC,iz]
  exact this.symm
 |succ a ih =>
  rw[Au,ih,<-Lr];exact Ay λj _=>(Au a _).symm
theorem Np(a b:Nat)(f:Nat->Int):Al (a+b) f=Al a f+Al b (λk=>f (a+k)):=by
 induction b with
 |zero=>rw[Bs,fE];rfl
 |succ b ih=>rw[<-iI,Au,Au,ih,Int.add_assoc]
theorem QZ(a b:Nat)(f:Nat->Int):Al (a*b) f=Al a (λi=>Al b (λj=>f (i*b+j))):=by
 induction a with
 |zero=>rw[Nat.zero_mul];rfl
 |succ a ih=>rw[Nat.succ_mul,Np,Au,ih]
noncomputable def EH(p:Bool)(x:Int):Int:=if p then x else 0
theorem F2{p:Bool}{x:Int}(h:0<=x):0<=EH p x:=by unfold EH;split<;>lia
theorem Ls(n j:Nat)(hj:j<n)(x:Int):Al n (λk=>EH (decide (k=j)) x)=x:=by
 induction n with
 |zero=>exact qG hj (iD _)
 |succ n ih =>
  rw[Au]
  by_cases e:j=n
  ·subst e;have z:Al j (λk=>EH (decide (k=j)) x)=0:=by rw[Ay (g:=λ_=>0) λk hk=>by unfold EH;rw[qI (by lia)];rfl,BC,Int.mul_zero]
   rw[z];unfold EH;rw[qH rfl];simp
  ·rw[ih (by lia)];unfold EH;rw[qI (by lia)];simp
noncomputable def DF(G:Nat)(dl:qW):qW->Nat->Int
 |[],_=>1
 |s::r,h=>Al G λj=>EH (decide (dl.getD (h*G+j) 0=s)) (DF G dl r ((h*G+j)%(0#0/G)))
theorem CZ(G:Nat)(dl:qW):∀(r:qW) (h:Nat),0<=DF G dl r h
 |[],_=>by show (0:Int)<=1;decide
 |s::r,h=>Dq λj _=>F2 (CZ G dl r _)
noncomputable def Bj(G:Nat)(dl:qW)(r:qW):Int:=Al (0#0/G) (DF G dl r)
theorem ES(G:Nat)(dl r:qW):0<=Bj G dl r:=Dq λh _=>CZ G dl r h
variable{G:Nat}
theorem KC{v:Int}(h0:0<=v)(h1:v<(G:Int))(x:Int):Al G (λs=>EH (decide (v=(s:Int))) x)=x:=by
 refine Eq.trans (Ay λs _=>?_) (Ls G v.toNat (by lia) x);unfold EH
 by_cases e:s=v.toNat
 ·rw[qH (show v=(s:Int) by lia),qH e]
 ·rw[qI (show ¬v=(s:Int) by lia),qI e]
theorem Io(hG:2<=G)(hb:∀n∈dl,0<=n/\n<(G:Int)):∀(r:qW) (h:Nat),Al G (λs=>DF G dl (r++[(s:Int)]) h)=DF G dl r h*(G:Int)
 |[],h=>by
  show Al G (λs=>Al G λj=>EH (decide (dl.getD (h*G+j) 0=(s:Int))) 1)=1*(G:Int);rw[DQ]
  have:Al G (λj=>Al G (λs=>EH (decide (dl.getD (h*G+j) 0=(s:Int))) 1))=Al G (λ_=>1):=Ay λj _=>by have b:0<=dl.getD (h*G+j) 0/\dl.getD (h*G+j) 0<(G:Int):=Bn (by lia) hb _;exact KC b.1 b.2 1
  rw[this,BC,fj,ig]
 |a::r,h=>by
  show Al G (λs=>Al G λj=>EH (decide (dl.getD (h*G+j) 0=a)) (DF G dl (r++[(s:Int)]) ((h*G+j)%(0#0/G))))=(Al G λj=>EH (decide (dl.getD (h*G+j) 0=a)) (DF G dl r ((h*G+j)%(0#0/G))))*(G:Int);rw[DQ,<-GN];refine Ay λj _=>?_;unfold EH;cases decide (dl.getD (h*G+j) 0=a) with
  |true=>exact Io hG hb r _
  |false =>
   show Al G (λ_=>(0:Int))=0*(G:Int);rw[BC,iz,gH]
theorem ET(hG:2<=G)(hb:∀n∈dl,0<=n/\n<(G:Int))(r:qW):Al G (λs=>Bj G dl (r++[(s:Int)]))=Bj G dl r*(G:Int):=by unfold Bj;rw[DQ,<-GN];exact Ay λh _=>Io hG hb r h
theorem GO{m:Nat}{ns:qW}(h:1#6<m):Ak g dl m ns=[]:=by unfold Ak;rw[show 1#6+1-m=0 by lia];rfl
theorem KD{m:Nat}{y:Int}{ns:qW}(h:m<=1#6+1):Ak g dl m (y::ns)=Gp g dl m (y::ns) 0::Ak g dl m ns:=by unfold Ak;rw[d5,show 1#6+1+1-m=(1#6+1-m)+1 by lia,List.range_succ_eq_map,d9,fS];rfl
theorem Ao(hg:2<=g){m:Nat}(hl:(0#0:Int)=g^m)(hm:1<=m):((0#0/0#2:Nat):Int)=g^(m-1)/\0#0=0#0/0#2*0#2:=by
 obtain⟨k,rfl⟩:∃k,m=k+1:=⟨m-1,by lia⟩
 have e:0#0=(g^k).toNat*0#2:=by have p:=RW.Ad hg k;rw[dj]at hl;apply 15#9;show (0#0:Int)=(((g^k).toNat*0#2:Nat):Int);rw[hl,eS,dE (fD p),dE (by lia)]
 have q:0#0/0#2=(g^k).toNat:=by rw[e];exact Nat.mul_div_cancel _ (by lia)
 rw[q,fh];exact⟨dE (fD (RW.Ad hg k)),e⟩
theorem Lu(hg:2<=g){m:Nat}(hl:(0#0:Int)=g^m)(hm:1<=m):∀(rest w:qW),4#4=m-1->(∀n∈w++rest,0<=n/\n<g)->1<=DF g.toNat dl (Ak g dl m (w++rest)) (An g w).toNat
 |[],w,hw,_=>by rw[dU,GO (by lia)];exact fR _
 |x::r,w,hw,hb=>by
  have hx:=hb x (cZ.mpr (.inr dH))
  obtain⟨y,w',e⟩:∃y w',w++[x]=y::w':=by
   cases w with
   |nil=>exact⟨x,[],rfl⟩
   |cons a t=>exact⟨a,t++[x],rfl⟩
  have e2:w++x::r=y::(w'++r):=by rw[<-iO,<-e,de];rfl
  have hw':w'.length=m-1:=by have:=qP List.length e;rw[cg,d5]at this;simp only[List.length_cons,List.length_nil]at this;lia
  have hbw:∀n∈w,0<=n/\n<g:=λn hn=>hb n (cZ.mpr (.inl hn))
  have hbw':∀n∈w',0<=n/\n<g:=λn hn=>hb n (by rw[e2];exact c8 _ (cZ.mpr (.inl hn)))
  have ih:=Lu hg hl hm r w' hw' λn hn=>hb n (by rw[e2];exact c8 _ hn)
  have hd:=Ao hg hl hm;have b1:=BR hg hbw;have b2:=BR hg hbw';rw[hw']at b2;rw[e2,KD (by rw[cg];lia)]
  have hwin:Gp g dl m (y::(w'++r)) 0=dl.getD ((An g w).toNat*0#2+x.toNat) 0:=by
   unfold Gp
   have t1:(List.drop 0 (y::(w'++r))).take m=w++[x]:=by rw[List.drop_zero,<-List.cons_append,<-e,List.take_append_of_le_length (by simp only[List.length_append,List.length_cons,List.length_nil];lia),List.take_of_length_le (by simp only[List.length_append,List.length_cons,List.length_nil];lia)]
   rw[t1,Bi]
   congr 1
   show (An g w*g^1+An g [x]).toNat=_;have nx:An g [x]=x:=by show 0*g+x=x;rw[gH,dO]
   rw[nx,dj,eV,fj,Int.toNat_add (ip b1.1 (by lia)) hx.1,Int.toNat_mul b1.1 (by lia)]
  have hmod:((An g w).toNat*0#2+x.toNat)%(0#0/0#2)=(An g w').toNat:=by
   have z:An g w*g+x=An g w'+y*g^(m-1):=by
    have q:=qP (An g) e;rw[Bi,show y::w'=[y]++w' from rfl,Bi,hw']at q;have nx:An g [x]=x:=by show 0*g+x=x;rw[gH,dO]
    have ny:An g [y]=y:=by show 0*g+y=y;rw[gH,dO]
    rw[nx,ny]at q;have g1:g^([x]:qW).length=g:=by show g^1=g;rw[dj,eV,fj]
    rw[g1]at q;lia
   apply 15#9;show (((An g w).toNat*0#2+x.toNat)%(0#0/0#2):Nat)=(((An g w').toNat:Nat):Int);rw[d6,fK,eS,hd.1,dE b1.1,dE (by lia),dE hx.1,dE b2.1,z,ej y,fV,fC b2.1 b2.2]
  have key:=IE (n:=0#2) (f:=λj=>EH (decide (dl.getD ((An g w).toNat*0#2+j) 0=Gp g dl m (y::(w'++r)) 0)) (DF g.toNat dl (Ak g dl m (w'++r)) (((An g w).toNat*0#2+j)%(0#0/0#2)))) (λj _=>F2 (CZ _ _ _ _)) (j:=x.toNat) (by lia);refine iE ?_ key;show 1<=EH _ _;rw[hmod,hwin,qH rfl];exact ih
theorem Uy(hg:2<=g){m:Nat}(hl:(0#0:Int)=g^m)(hm:1<=m){ns:qW}(hb:∀n∈ns,0<=n/\n<g):1<=Bj g.toNat dl (Ak g dl m ns):=by
 have hd:=Ao hg hl hm;have hp:=RW.Ad hg (m-1)
 by_cases h:ns.length<m
 ·rw[GO h];show 1<=Al (0#0/0#2) (λ_=>1);rw[BC,ig,hd.1];lia
 ·have hw:(ns.take (m-1)).length=m-1:=by rw[dN];lia
  have p:=Lu hg hl hm (ns.drop (m-1)) (ns.take (m-1)) hw (by rw[eI];exact hb);rw[eI]at p;have b:=BR hg (ns:=ns.take (m-1)) λn hn=>hb n (di hn)
  rw[hw,<-hd.1]at b;exact iE p (IE (f:=DF g.toNat dl (Ak g dl m ns)) (λh _=>CZ _ _ _ _) (by lia))
end L2
namespace L2
open PySem
variable{G:Nat}{H H':Hp}{g lo:Int}{dl:qW}
noncomputable def Bt(G:Nat)(dl:qW)(h:Nat)(s:Int):List Nat:=((List.range G).filter λj=>decide (dl.getD (h*G+j) 0=s)).map λj=>h*G+j
theorem Nq(n:Nat)(p:Nat->Bool)(f:Nat->Int):(((List.range n).filter p).map f).sum=Al n λj=>EH (p j) (f j):=by
 induction n with
 |zero=>rfl
 |succ n ih =>
  rw[Au,d8,fG,cq,jH,ih]
  congr 1
  unfold EH;cases h:p n<;>simp[List.filter,h]
theorem SS(G:Nat)(dl:qW)(h:Nat)(s:Int)(f:Nat->Int):((Bt G dl h s).map f).sum=Al G λj=>EH (decide (dl.getD (h*G+j) 0=s)) (f (h*G+j)):=by unfold Bt;rw[fS];exact Nq G _ _
theorem Ip(G:Nat)(dl:qW)(h:Nat)(s:Int)(r:qW):((Bt G dl h s).map λn=>DF G dl r (n%(0#0/G))).sum=DF G dl (s::r) h:=SS G dl h s _
noncomputable def E3(G:Nat)(dl r:qW):qW:=(List.range (0#0/G)).map (DF G dl r)
theorem Iq(G:Nat)(dl r:qW):(E3 G dl r).length=0#0/G:=by unfold E3;rw[2#8,4#1]
theorem Lv(G:Nat)(dl r:qW):(E3 G dl r).sum=Bj G dl r:=rfl
theorem Ir{r:qW}{h:Nat}(hh:h<0#0/G):(E3 G dl r).getD h 0=DF G dl r h:=by unfold E3;exact AT hh
noncomputable def Fc(ns:List Nat):qW:=ns.map λn:Nat=>(n:Int)
structure AS(H:Hp)(r:qR)(g lo:Int)(dl:qW)(m:Nat):Prop where
 v:A8 H r g lo dl
 g2:2<=g
 g9:g<=9
 m1:1<=m
 m8:m<=8
 len:(0#0:Int)=g^m
 sz:g^m<=256
 tb:∀n∈dl,0<=n/\n<g
theorem AS.same{r:qR}{m:Nat}(e:AG H H')(h:AS H r g lo dl m):AS H' r g lo dl m:=⟨h.v.same e,h.g2,h.g9,h.m1,h.m8,h.len,h.sz,h.tb⟩
inductive Oy(vs:List V)(H:Hp)(Q:VK)(z3_:XK):Prop
 |m (r:qR) (g lo:Int) (dl:qW) (m:Nat):vs=[.ref r]->AS H r g lo dl m->Q (.int ((0#0/0#2:Nat):Int)) H->Oy vs H Q z3_
inductive SU(vs:List V)(H:Hp)(Q:VK)(z3_:XK):Prop
 |m (r:qR) (g lo:Int) (dl:qW) (m h:Nat) (s:Int):vs=[.ref r,.int ((h:Nat):Int),.int s]->AS H r g lo dl m->h<0#0/0#2->(∀p H',Jm H H' p (Fc (Bt g.toNat dl h s))->Q 1#5 H')->SU vs H Q z3_
inductive Lw(vs:List V)(H:Hp)(Q:VK)(z3_:XK):Prop
 |m (r f w:qR) (g lo:Int) (dl:qW) (m:Nat) (fs:List Nat) (ws:qW):vs=[.ref r,.ref f,.ref w]->AS H r g lo dl m->H f=some (.lst ((Fc fs).map V.int))->fs.length<=300->H w=some (.lst (ws.map V.int))->ws.length=dl.length/g.toNat->(∀p H',Jm H H' p (fs.map λn=>ws.getD (n%(0#0/0#2)) 0)->Q 1#5 H')->Lw vs H Q z3_
def V1(H:Hp)(p:qR)(G:Nat)(dl row:qW):Prop:=∃ps:List qR,H p=some 7#1/\3#0=3#9+1/\∀(k:Nat) (q:qR),ps[k]?=some q->H q=some (.lst ((E3 G dl (row.drop k)).map 1#0))
inductive SV(K:qV)(vs:List V)(H:Hp)(Q:VK)(z3_:XK):Prop
 |m (r a:qR) (g lo:Int) (dl:qW) (m:Nat) (ns:qW):vs=[.ref r,.ref a]->AS H r g lo dl m->Aa K H a 1#8->1#6<=900->(∀p H',AG H H'->H p=none->V1 H' p g.toNat dl ns->Q 1#5 H')->SV K vs H Q z3_
inductive SW(vs:List V)(H:Hp)(Q:VK)(z3_:XK):Prop
 |m (g:Int) (m:Nat):vs=[.int g,.int ((m:Nat):Int)]->2<=g->g<=9->m<=100->Q (.int (g^m)) H->SW vs H Q z3_
inductive KE(vs:List V)(H:Hp)(Q:VK)(z3_:XK):Prop
 |m (r:qR) (g lo:Int) (dl:qW) (m:Nat):vs=[.ref r]->AS H r g lo dl m->Q (.int ((m:Nat):Int)) H->KE vs H Q z3_
theorem Nr{X:Cx}{K:qV}(h:X.K=K):Co X (.builtin "len") (λxs H Q=>∃p ys,xs=[V.ref p]/\(Aa K H p ys\/Ai K H p ys)/\Q (.int ((10#9:Nat):Int)) H):=h▸GH
theorem Nt{X:Cx}{K:qV}(h:X.K=K)(hc:19#9=true):Co X (.builtin "sum") (λxs H Q=>∃(p:qR) (ns:qW),xs=[.ref p]/\Aa K H p 1#8/\Q (.int ns.sum) H):=h▸HP hc
theorem Qa(ns:qW):(PyData.tuple 8#0).depth<=60:=by
 simp only[PyData.depth,Fz]
 decide
inductive Lx(vs:List V)(H:Hp)(Q:VK)(z3_:XK):Prop
 |m (r:qR) (g lo:Int) (dl:qW) (m:Nat):vs=[.ref r]->AS H r g lo dl m->(∀r' H',AG H H'->AS H' r' g (1-lo-(m:Int)) 9#4 m->Q 8#2 H')->Lx vs H Q z3_
variable{lo':Int}
theorem AS.turn{r r':qR}{m:Nat}(h:AS H r g lo dl m)(hv:A8 H' r' g lo' 9#4):AS H' r' g lo' 9#4 m:=⟨hv,h.g2,h.g9,h.m1,h.m8,by rw[Bg];exact h.len,h.sz,DZ h.g2 h.tb m⟩
inductive Ly(K:qV)(vs:List V)(H:Hp)(Q:VK)(z3_:XK):Prop
 |m (a:qR) (v:qW) (z:Int):vs=[.ref a,.int z]->Aa K H a (v.map 1#0)->Q (.int (sn v z)) H->Ly K vs H Q z3_
theorem EU(hg:2<=g){M:Nat}(h:g^M<=256):M<=8:=by
 apply gi;intro z;have h1:=CO hg (show 9<=M by lia)
 have h2:(512:Int)<=g^9:=by
  have h2:2*2<=g*g:=iq hg hg (by decide) (by lia);have h4:4*4<=(g*g)*(g*g):=iq (by lia) (by lia) (by decide) (by lia);have h8:16*16<=((g*g)*(g*g))*((g*g)*(g*g)):=iq (by lia) (by lia) (by decide) (by lia);have h9:256*2<=(((g*g)*(g*g))*((g*g)*(g*g)))*g:=iq (by lia) hg (by decide) (by lia);have e:g^9=(((g*g)*(g*g))*((g*g)*(g*g)))*g:=by simp only[Int.pow_succ,Int.pow_zero,Int.one_mul,Int.mul_assoc]
  rw[e];lia
 lia
theorem AS.bw{r r':qR}{m:Nat}(h:AS H r g lo dl m){low:Int}{M:Nat}(hM:1<=M)(hz:g^M<=256)(hv:A8 H' r' g low 4#0):AS H' r' g low 4#0 M:=
 ⟨hv,h.g2,h.g9,hM,EU h.g2 hz,By h.g2 _ _ _ _ _,hz,Gs h.g2 _ h.tb _ _ _⟩
inductive Oz(vs:List V)(H:Hp)(Q:VK)(z3_:XK):Prop
 |m (r:qR) (g lo:Int) (dl:qW) (m:Nat) (low:Int) (M:Nat):vs=[.ref r,.int low,.int ((M:Nat):Int)]->AS H r g lo dl m->1<=M->g^M<=256->(∀r' H',AG H H'->AS H' r' g low 4#0 M->Q 8#2 H')->Oz vs H Q z3_
inductive Lz(vs:List V)(H:Hp)(Q:VK)(z3_:XK):Prop
 |m (r:qR) (g lo:Int) (dl:qW) (m:Nat):vs=[.ref r]->AS H r g lo dl m->(∀(low:Int) (M:Nat),DB g lo dl m low M->∀r' H',AG H H'->AS H' r' g low 4#0 M->Q 8#2 H')->Lz vs H Q z3_
def Uz(g lo:Int)(dl:qW)(m:Nat)(low high:Int):Prop:=high<low\/∃z∈Br g lo dl m,z<low\/high<z
inductive KG(CW CT:qR)(vs:List V)(H:Hp)(Q:VK)(E:XK):Prop
 |m (r:qR) (g lo:Int) (dl:qW) (m:Nat) (low high:Int):vs=[.ref r,.int low,.int high]->AS H r g lo dl m->(Uz g lo dl m low high->∀H',AG H H'->E (.ref CW) none H')->(¬Uz g lo dl m low high->256<g^(high-low+1).toNat->∀H',AG H H'->E 16#5 none H')->(¬Uz g lo dl m low high->g^(high-low+1).toNat<=256->∀r' H',AG H H'->AS H' r' g low (Ek g lo dl m low (high-low+1).toNat) (high-low+1).toNat->Q 8#2 H')->KG CW CT vs H Q E
theorem DB.small{m:Nat}{low:Int}{M:Nat}(h:DB g lo dl m low M)(hm:1<=m):M<=m:=by
 rcases h.ends with⟨_,_,e⟩|⟨j0,j1,le,lt,_,e,_,_⟩
 ·lia
 ·lia
theorem Qb{ns:qW}(h:0<1#6):Jk 1#8 (-1)=some (.int (ns.getD (1#6-1) 0)):=by
 have e:=Dn (ns:=ns) (k:=1#6-1) (by lia)
 have z:NF (ns.map 1#0).length (-1)=some (1#6-1):=by
  unfold NF;rw[cU];rw[qE (by decide),qF (by lia)]
  congr 1
  lia
 have y:NF (ns.map 1#0).length (((1#6-1:Nat)):Int)=some (1#6-1):=by rw[cU];exact Kx (by lia)
 unfold Jk at e⊢;rw[z];rw[y]at e;exact e
end L2
namespace L2
open PySem PySem.Spec PyProof.Rows
variable{es:List Expr}{i:Nat}{pos:Pos}{tc:TT}{te:TE}
section
variable{X:Cx}{t:TA}
theorem BH{i:Int}{j}(hr:PA X es t):PA X (.Constant 8#3 j pos::es) (Fh (tC 8#3) t):=AA AE hr (by rfl)
end
@[irreducible] def UR (X:Cx) (st:Stmt) (t:TS):Prop:=PS X st t
@[irreducible] def GP (X:Cx) (ss:List Stmt) (t:TS):Prop:=HE X ss t
section
variable{X:Cx}{st:Stmt}{rest ss:List Stmt}{t u:TS}
theorem UR.of(h:PS X st t):UR X st t:=by unfold UR;exact h
theorem UR.out(h:UR X st t):PS X st t:=by unfold UR at h;exact h
theorem GP.of(h:HE X ss t):GP X ss t:=by unfold GP;exact h
theorem GP.out(h:GP X ss t):HE X ss t:=by unfold GP at h;exact h
theorem Ae(h1:UR X st t)(h2:GP X rest u):GP X (st::rest) (QF t u):=.of (AD h1.out h2.out)
theorem B7(h1:UR X st t):GP X [st] t:=.of (AF h1.out)
end
@[irreducible] def SY (X:Cx) (e:Expr) (te:TE):Prop:=PE X e te
@[irreducible] def Qc (X:Cx) (es:List Expr) (t:TA):Prop:=PA X es t
section
variable{X:Cx}{e a b:Expr}{ta tb:TE}{t:TA}
theorem SY.of(h:PE X e te):SY X e te:=by unfold SY;exact h
theorem SY.out(h:SY X e te):PE X e te:=by unfold SY at h;exact h
theorem Qc.of(h:PA X es t):Qc X es t:=by unfold Qc;exact h
theorem Qc.out(h:Qc X es t):PA X es t:=by unfold Qc at h;exact h
theorem Ch:Qc X [] Kl:=.of AB
theorem AN{i:Int}{j}{p:Pos}(hr:Qc X es t):Qc X (.Constant 8#3 j p::es) (Fh (tC 8#3) t):=.of (BH hr.out)
theorem EV(h:Qc X es t):SY X (.List es pos) (Ua t):=.of (A7 h.out)
theorem Iu{r:R2}(hr:Vt X r)(ha:SY X a ta)(hb:SY X b tb)(hs:Oh b):SY X (.Subscript a b pos) (Yw r ta tb):=.of (AL hr ha.out hb.out hs)
theorem BP{x:Str}{pos':Pos}(hN:X.N.Nodup)(hi:X.N[i]?=some x)(hx:Vi X.env.scope x)(he:SY X e te)(hs:swapsWith e (some (.Name x pos')) pos.line 1#2=pure false)(hf:X.fn x=true\/X.env.scope.names.lookup x=some .local):
  UR X (.Assign [.Name x pos'] e pos) (QG te (Fg i)):=.of (IR hN hi hx he.out hs hf)
theorem Dv{c:Expr}{a b:List Stmt}{t u:TS}(hc:PT X c tc)(ha:GP X a t)(hb:GP X b u):UR X (.If c a b pos) (RN tc t u):=.of (BK hc ha.out hb.out)
theorem C0:GP X [] RM:=.of Af
end
end L2
namespace L2
open PySem
variable{D:Ho}{H:Hp}{M' j:Nat}{g lo lo' low' z:Int}{dl:qW}{σ:St}
noncomputable def BG(x:Int->Int)(lo:Int)(m:Nat):qW:=(List.range m).map λj:Nat=>x (lo+(j:Int))
theorem Ap(x:Int->Int)(lo:Int)(m:Nat):(BG x lo m).length=m:=by unfold BG;rw[2#8,4#1]
theorem CP(x:Int->Int)(lo:Int){m:Nat}(h:j<m):(BG x lo m).getD j 0=x (lo+(j:Int)):=by unfold BG;exact AT h
def F3(g:Int)(x:Int->Int):Prop:=∀z,0<=x z/\x z<g
theorem C1{x:Int->Int}(hx:F3 g x)(lo:Int)(m:Nat):∀n∈BG x lo m,0<=n/\n<g:=λn hn=>by unfold BG at hn;obtain⟨j,_,rfl⟩:=dG.mp hn;exact hx _
noncomputable def Bo(g lo:Int)(dl:qW)(m:Nat)(x:Int->Int):Int:=dl.getD (An g (BG x lo m)).toNat 0
noncomputable def CH(w:qW)(lo:Int):Int->Int:=λz=>sn w (z-lo)
theorem Cu(hg:2<=g){w:qW}(hb:∀n∈w,0<=n/\n<g)(lo:Int):F3 g (CH w lo):=λz=>V0 hg hb _
theorem O0(w:qW)(low lo:Int)(m:Nat):BG (CH w low) lo m=NH w (lo-low) m:=by unfold BG NH CH;exact dI λj _=>by rw[show lo+(j:Int)-low=lo-low+(j:Int) by lia]
theorem C6(w:qW)(lo:Int):BG (CH w lo) lo 4#4=w:=by rw[O0,Int.sub_self,SQ]
theorem Sa(x:Int->Int){low:Int}{m M:Nat}(h1:low<=lo)(h2:lo+(m:Int)<=low+(M:Int)):NH (BG x low M) (lo-low) m=BG x lo m:=by
 refine Ab (by rw[Do,Ap]) λj hj=>?_;rw[Do]at hj;rw[ID _ _ hj,CP _ _ hj,show lo-low+(j:Int)=((((lo-low).toNat+j:Nat):Nat):Int) by lia,F1 (by rw[Ap];lia),CP _ _ (by lia)]
 congr 1
 lia
theorem FR(hg:2<=g){low:Int}{m M:Nat}(hl:(0#0:Int)=g^m)(hc:∀j,j<m->CY g dl (g^(m-1-j))=true->low<=lo+(j:Int)/\lo+(j:Int)<low+(M:Int)){x:Int->Int}(hx:F3 g x):Bo g low 4#0 M x=Bo g lo dl m x:=by
 unfold Bo;have z:=SR hg lo dl m low (v:=BG x low M) (C1 hx low M);rw[Ap]at z;rw[z];refine Nl hg hl (SO hg (C1 hx low M) _ _) (C1 hx lo m) (Do ..) (Ap ..) λj hj hcj=>?_;obtain⟨a,b⟩:=hc j hj hcj;rw[ID _ _ hj,CP _ _ hj,show lo-low+(j:Int)=(((lo+(j:Int)-low).toNat:Nat):Int) by lia,F1 (by rw[Ap];lia),CP _ _ (by lia)]
 congr 1
 lia
def V2(g:Int)(f:(Int->Int)->Int)(z:Int):Prop:=∃x,F3 g x/\f x≠f λy=>if y=z then 0 else x y
theorem bO(hg:2<=g){x:Int->Int}(hx:F3 g x)(z:Int):F3 g λy=>if y=z then 0 else x y:=λy=>by
 show 0<=(if y=z then 0 else x y)/\(if y=z then 0 else x y)<g;split
 ·lia
 ·exact hx y
theorem L0(x:Int->Int)(lo:Int){m:Nat}(hj:j<m):BG (λy=>if y=lo+(j:Int) then 0 else x y) lo m=(BG x lo m).set j 0:=by
 refine Ab (by rw[hZ,Ap,Ap]) λk hk=>?_;rw[Ap]at hk;rw[CP _ _ hk,Lp (by rw[Ap];exact hj),CP _ _ hk]
 by_cases e:j=k
 ·subst e;rw[qF rfl,qF rfl]
 ·rw[qE e,qE (by lia)]
theorem IF(hg:2<=g){m:Nat}(hl:(0#0:Int)=g^m)(hj:j<m):CY g dl (g^(m-1-j))=true↔V2 g (Bo g lo dl m) (lo+(j:Int)):=by
 rw[Nn hg hl hj];constructor
 ·rintro⟨w,wl,wb,ne⟩;subst wl;refine⟨CH w lo,Cu hg wb lo,?_⟩;unfold Bo;rw[L0 _ _ hj,C6];exact ne
 ·rintro⟨x,hx,ne⟩;unfold Bo at ne;rw[L0 _ _ hj]at ne;exact⟨_,Ap ..,C1 hx lo m,ne⟩
theorem Sb{m:Nat}(h:V2 g (Bo g lo dl m) z):∃j:Nat,j<m/\z=lo+(j:Int):=by
 obtain⟨x,hx,ne⟩:=h
 by_cases e:lo<=z/\z<lo+(m:Int)
 ·exact⟨(z-lo).toNat,by lia,by lia⟩
 ·exfalso;apply ne;unfold Bo
  congr 3
  unfold BG;refine dI λj hj=>?_;have:=dA.mp hj;show x (lo+(j:Int))=if lo+(j:Int)=z then 0 else x (lo+(j:Int));rw[qE (by lia)]
structure Nu(g:Int)(f:(Int->Int)->Int)(low:Int)(M:Nat):Prop where
 one:1<=M
 all:∀z,V2 g f z->low<=z/\z<low+(M:Int)
 ends:((∀z,¬V2 g f z)/\low=0/\M=1)\/(V2 g f low/\V2 g f (low+(M:Int)-1))
theorem DB.toF(hg:2<=g){m:Nat}(hl:(0#0:Int)=g^m){low:Int}{M:Nat}(h:DB g lo dl m low M):Nu g (Bo g lo dl m) low M:=by
 refine⟨h.one,λz hz=>?_,?_⟩
 ·obtain⟨j,hj,rfl⟩:=Sb hz;exact h.all j hj ((IF hg hl hj).mpr hz)
 ·rcases h.ends with⟨f,a,b⟩|⟨j0,j1,le,lt,a,b,c0,c1⟩
  ·refine .inl ⟨λz hz=>?_,a,b⟩;obtain⟨j,hj,rfl⟩:=Sb hz;rw[<-IF hg hl hj,f j hj]at hz;cases hz
  ·have d0:=(IF (lo:=lo) hg hl (show j0<m by lia)).mp c0;have d1:=(IF (lo:=lo) hg hl lt).mp c1;refine .inr ⟨a▸d0,?_⟩;rw[show low+(M:Int)-1=lo+(j1:Int) by lia];exact d1
theorem Nu.uniq{f:(Int->Int)->Int}{low:Int}{M:Nat}(h:Nu g f low M)(h':Nu g f low' M'):low=low'/\M=M':=by
 have o:=h.one;have o':=h'.one;rcases h.ends with⟨n,a,b⟩|⟨d0,d1⟩
 ·rcases h'.ends with⟨_,a',b'⟩|⟨d0',_⟩
  ·lia
  ·exact qG d0' (n _)
 ·rcases h'.ends with⟨n',_,_⟩|⟨d0',d1'⟩
  ·exact qG d0 (n' _)
  ·have:=h.all _ d0';have:=h.all _ d1';have:=h'.all _ d0;have:=h'.all _ d1;lia
theorem FS(hg:2<=g){f f':(Int->Int)->Int}(h:∀x,F3 g x->f x=f' x)(d:V2 g f z):V2 g f' z:=by obtain⟨x,hx,ne⟩:=d;refine⟨x,hx,?_⟩;rw[<-h x hx,<-h _ (bO hg hx z)];exact ne
theorem Nu.congr(hg:2<=g){f f':(Int->Int)->Int}(h:∀x,F3 g x->f x=f' x){low:Int}{M:Nat}(n:Nu g f low M):Nu g f' low M:=by
 have h2:∀x,F3 g x->f' x=f x:=λx hx=>(h x hx).symm
 refine⟨n.one,λz d=>n.all z (FS hg h2 d),?_⟩;rcases n.ends with⟨a,b,c⟩|⟨a,b⟩
 ·exact .inl ⟨λz d=>a z (FS hg h2 d),b,c⟩
 ·exact .inr ⟨FS hg h a,FS hg h b⟩
def BL(g lo:Int)(dl:qW)(m:Nat)(lo':Int)(tab':qW)(m':Nat):Prop:=∀x,F3 g x->Bo g lo dl m x=Bo g lo' tab' m' x
theorem XI(hg:2<=g){a b:qW}{m:Nat}(la:(a.length:Int)=g^m)(lb:(b.length:Int)=g^m)(h:∀x,F3 g x->Bo g lo a m x=Bo g lo b m x):a=b:=by refine XH hg la lb λw wl wb=>?_;subst wl;have z:=h (CH w lo) (Cu hg wb lo);unfold Bo at z;rw[C6]at z;exact z
variable{tab':qW}{m':Nat}
theorem DJ(hg:2<=g){m:Nat}(hl:(0#0:Int)=g^m)(hl':(11#6:Int)=g^m'){low:Int}{M:Nat}(n:DB g lo dl m low M)(n':DB g lo' tab' m' low' M'):
  BL g lo dl m lo' tab' m'↔low=low'/\Ek g lo dl m low M=Ek g lo' tab' m' low' M':=by
 constructor
 ·intro h;obtain⟨e1,e2⟩:=((n.toF hg hl).congr hg h).uniq (n'.toF hg hl');subst e1 e2;refine⟨rfl,XI hg (lo:=low) (By hg ..) (By hg ..) λx hx=>?_⟩;rw[FR hg hl n.all hx,FR hg hl' n'.all hx];exact h x hx
 ·rintro⟨rfl,e⟩ x hx;have hM:M=M':=by have a:=By hg lo dl m low M;have b:=By hg lo' tab' m' low M';rw[e,b]at a;exact FO hg a.symm
  subst hM;rw[<-FR hg hl n.all hx,<-FR hg hl' n'.all hx,e]
theorem Sc(hg:2<=g){low:Int}{m M:Nat}(hl:(0#0:Int)=g^m)(h1:low<=lo)(h2:lo+(m:Int)<=low+(M:Int)){x:Int->Int}(hx:F3 g x):Bo g low 4#0 M x=Bo g lo dl m x:=
 FR hg hl (λj hj _=>by lia) hx
theorem BL.symm{m:Nat}(h:BL g lo dl m lo' tab' m'):BL g lo' tab' m' lo dl m:=λx hx=>(h x hx).symm
theorem Ah{t u:TS}(h:∀N:St->Hp->Prop,(∀σ' H',u D σ' H'->N σ' H')->t {D with nx:=N} σ H):QF t u D σ H:=h (u D) λ_ _ z=>z
theorem Sd(ns:qW):∀ms:qW,(PyData.eqvAll 8#0 (ms.map PyData.int)=true)↔ns=ms:=by
 induction ns with
 |nil =>
  intro ms;cases ms with
  |nil=>simp[PyData.eqvAll]
  |cons b t=>simp[PyData.eqvAll]
 |cons x r ih =>
  intro ms;cases ms with
  |nil=>simp[PyData.eqvAll]
  |cons b t=>simp[PyData.eqvAll,PyData.eqv,ih]
theorem K1(g lo:Int)(dl:qW)(g' lo':Int)(tab':qW):(PyData.eqv (.tuple [.int g,.int lo,.tuple 16#1]) (.tuple [.int g',.int lo',.tuple (tab'.map PyData.int)])=true)↔g=g'/\lo=lo'/\dl=tab':=by simp[PyData.eqv,PyData.eqvAll,Sd]
inductive Se(vs:List V)(H:Hp)(Q:VK)(z3_:XK):Prop
 |m (r r':qR) (g lo:Int) (dl:qW) (m:Nat) (g' lo':Int) (tab':qW) (m':Nat):vs=[.ref r,.ref r']->AS H r g lo dl m->AS H r' g' lo' tab' m'->(∀(b:Bool) (H':Hp),AG H H'->(b=true↔g=g'/\BL g lo dl m lo' tab' m')->Q (.bl b) H')->Se vs H Q z3_
end L2
namespace L2
open PySem PySem.Spec PyProof.Rows
variable{es:List Expr}
section
variable{X:Cx}
theorem Qd(bs:List Bool):(List.range bs.length).all (λi=>bs.getD i false)=bs.all id:=by
 rw[fY,i8,i8];constructor
 ·intro h b hb;obtain⟨i,hi,e⟩:=List.getElem_of_mem hb;have z:=h i (dA.mpr hi);rw[cV,cX hi,e]at z;exact z
 ·intro h i hi;have hi':=dA.mp hi;rw[cV,cX hi'];exact h _ (fQ hi')
theorem L5(hc:19#9=true):Co X (.builtin "all") (λxs H Q=>∃(p:qR) (bs:List Bool),xs=[.ref p]/\Aa X.K H p (bs.map V.bl)/\Q (.bl (bs.all id)) H):=by
 intro ad s σ H xs us Q I r h;rcases h with⟨p,bs,rfl,hq,q⟩;obtain⟨u,rfl,rx⟩:=Et r;cases rx;rcases I.list hq with⟨its,rits,pl,hz⟩;have hlen:=rits.length;rw[cU]at hlen;have alt:p<0#1:=by obtain⟨o,e,_⟩:=pl.isList;exact cr e
 refine call_all_walk (wpAny_pyIter_list pl.isList ?_);have up:∀b o,s.heap.get? b=some o->(s.heap.push {cls:=.type "list_iterator",data:=.fields #[.ref p,.int 0 0]}).get? b=some o:=λb o e=>cm _ e
 refine⟨0#1,[0#1,p],[0#1],2#5,_,_,λi=>bs.getD i false,rfl,Walks.list (A:=X.A.in1) 6#3 _ p (dS alt) 5#5,⟨⟨_,c9 _ rfl,rfl,rfl⟩,pl.isList.at λo e=>up p o e⟩,λi v Q' E' s' hv hq'=>?_,λh' tk kk=>?_⟩
 ·have hv':its[i]?=some v:=by simpa using hv
  have hi:=(cW.mp hv').1;obtain⟨u2,hu2,ru2⟩:=rits.get (x:=.bl (bs.getD i false)) (i:=i) (by rw[cn,cX (by lia),cV,cX (by lia)];rfl);rw[hv']at hu2;cases hu2;cases ru2;exact wpAny_truthy_bool hq'
 ·refine⟨.bl (bs.all id),H,I.kept (t':=tk) λb o e=>kk b o (λz=>?_) (up b o e),?_,q⟩
  ·rw[ce.mp z]at e;exact qG 9#7 (dP _)
  ·rw[dR,<-hlen,Qd];rfl
end
section
variable{X:Cx}{es2:List Expr}{t t2:TA}{p:Pos}
theorem FT(hl:Qc X es2 t2)(hr:Qc X es t):Qc X (.List es2 p::es) (Fh (Ua t2) t):=.of (AA (A7 hl.out) hr.out (by rfl))
end
end L2
namespace L2
theorem O1{i j:Int}:QK 8#3 (.int j)=true:=rfl
theorem O2{i j:Bool}:QK (.bl i) (.bl j)=true:=rfl
theorem O3:QK .non .non=true:=rfl
theorem O4{i:Int}:QK 8#3 .non=true:=rfl
end L2
namespace L2
open PySem PySem.Spec PyProof.Rows
variable{E Q:qQ->qS->Prop}{H H':Hp}{T:String}{a:qR}{h':Heap}{ad:List (qR×Obj)}{pos:Pos}{s:qS}{t':Nat}{u:qQ}{σ:St}
section
variable{κ:Type}[DecidableEq κ]
noncomputable def Ba(kvs:List (κ×V))(k:κ):Option V:=(kvs.find? λkv=>decide (kv.1=k)).map (·.2)
noncomputable def Cf(kvs:List (κ×V))(k:κ)(v:V):List (κ×V):=
 if (kvs.any λkv=>decide (kv.1=k))=true then kvs.map (λkv=>if kv.1=k then (kv.1,v) else kv) else kvs++[(k,v)]
theorem Da{p:κ×V}{r:List (κ×V)}{k:κ}(e:p.1=k):Ba (p::r) k=some p.2:=by simp[Ba,List.find?_cons,e]
theorem Ci{p:κ×V}{r:List (κ×V)}{k:κ}(e:¬p.1=k):Ba (p::r) k=Ba r k:=by simp[Ba,List.find?_cons,e]
theorem GQ(k:κ):∀kvs:List (κ×V),(kvs.any λkv=>decide (kv.1=k))=(Ba kvs k).isSome
 |[]=>rfl
 |p::r=>by
  rw[gW]
  by_cases e:p.1=k
  ·simp only[Da e,qH e,Bool.true_or,Option.isSome_some]
  ·rw[Ci e,qI e,Bool.false_or];exact GQ k r
theorem Dr(kvs:List (κ×V))(k:κ)(v:V):(Cf kvs k v).length<=1#3+1:=by
 unfold Cf;split
 ·rw[cU];lia
 ·rw[cg,d5,List.length_nil];lia
theorem L6{kvs:List (κ×V)}{k:κ}(v:V)(h:Ba kvs k=none):Cf kvs k v=kvs++[(k,v)]:=by unfold Cf;rw[GQ,h];exact qE (by decide)
theorem Fo.isSome_eq{o:Option V}{u:Option qQ}(r:Fo o u):o.isSome=u.isSome:=by
 cases o with
 |none=>cases u with
  |none=>rfl
  |some _=>exact (show False from r).elim
 |some _=>cases u with
  |none=>exact (show False from r).elim
  |some _=>rfl
theorem Fo.getD{o:Option V}{u:Option qQ}{d:V}{d':qQ}(r:Fo o u)(rd:Az d d'):Az (o.getD d) (u.getD d'):=by
 cases o with
 |none=>cases u with
  |none=>exact rd
  |some _=>exact (show False from r).elim
 |some _=>cases u with
  |none=>exact (show False from r).elim
  |some _=>exact r
theorem KV.val{kvs:List (κ×V)}{vs:List (κ×qQ)}(r:KV kvs vs)(k:κ):Fo (Ba kvs k) (valueAt vs k):=by
 unfold KV at r
 induction r with
 |nil=>exact 6#9
 | @cons p q ps qs h t ih =>
  obtain⟨h1,h2⟩:=h
  by_cases e:p.1=k
  ·have e':q.1=k:=h1.symm.trans e;have b:valueAt (q::qs) k=some q.2:=by simp[valueAt,List.find?_cons,e']
   rw[Da e,b];exact h2
  ·have e':¬q.1=k:=λz=>e 18#8
   have b:valueAt (q::qs) k=valueAt qs k:=by simp[valueAt,List.find?_cons,e']
   rw[Ci e,b];exact ih
theorem KV.any{kvs:List (κ×V)}{vs:List (κ×qQ)}(r:KV kvs vs)(k:κ):(kvs.any λkv=>decide (kv.1=k))=vs.any λkv=>decide (kv.1=k):=by
 unfold KV at r
 induction r with
 |nil=>rfl
 |cons h t ih=>rw[gW,gW,ih,h.1]
theorem KV.repl{kvs:List (κ×V)}{vs:List (κ×qQ)}(r:KV kvs vs)(k:κ){y:V}(ry:Az y u):
  KV (kvs.map λkv=>if kv.1=k then (kv.1,y) else kv) (vs.map λkv=>if kv.1=k then (kv.1,u) else kv):=by
 unfold KV at r⊢
 induction r with
 |nil=>exact .nil
 | @cons p q ps qs h t ih =>
  rw[d9,d9];refine .cons ?_ ih;obtain⟨h1,h2⟩:=h
  by_cases e:p.1=k
  ·rw[qF e,qF (h1.symm.trans e)];exact⟨h1,ry⟩
  ·rw[qE e,qE (λz=>e 18#8)];exact⟨h1,h2⟩
theorem KV.put{kvs:List (κ×V)}{vs:List (κ×qQ)}(r:KV kvs vs)(k:κ){y:V}(ry:Az y u):KV 19#0 (stored vs k u):=by
 unfold Cf stored;rw[r.any k]
 by_cases e:(vs.any λkv=>decide (kv.1=k))=true
 ·rw[qF e,qF e];exact r.repl k ry
 ·rw[qE e,qE e];exact Paired.snoc r ⟨rfl,ry⟩
theorem KV.length{kvs:List (κ×V)}{vs:List (κ×qQ)}(r:KV kvs vs):1#3=3#2:=Paired.length r
end
theorem Iv{P:qT}{w:qU}{k:BW}(r:Az (kV k) u):(A5 P w).is k u=true:=by
 cases k with
 |inl i=>obtain⟨t,e⟩:=(show ∃t,u=Value.int i t from r);subst e;exact LM P w i t
 |inr x=>obtain⟨t,e⟩:=(show ∃t,u=Value.str x t from r);subst e;exact LN P w x t
theorem Gw{P:qT}{w:qU}:∀{ks:List BW} {us:List qQ},Av (ks.map kV) us->ItemsAre 19#1 ks us
 |[],_,r=>by rw[ir]at r;cases r;exact .nil
 |k::ks,_,r=>by
  rw[d9]at r;cases r with
  |cons h t=>exact .cons (Iv h) (Gw t)
abbrev O5(H:Hp):List (List BW×V)->List (List BW×qR×qQ)->Prop:=Paired λp q=>p.1=q.1/\H q.2.1=some (.tup (p.1.map kV))/\Az p.2 q.2.2
variable{kvs:List (List BW×V)}
theorem O5.val{xs:List (List BW×qR×qQ)}(r:O5 H kvs xs)(k:List BW):Fo (Ba kvs k) ((atKey xs k).map (·.2)):=by
 induction r with
 |nil=>exact 6#9
 | @cons p q ps qs h t ih =>
  obtain⟨h1,_,h2⟩:=h
  by_cases e:p.1=k
  ·have e':q.1=k:=h1.symm.trans e;have b:atKey (q::qs) k=some q.2:=by simp[atKey,List.find?_cons,e']
   rw[Da e,b];exact h2
  ·have e':¬q.1=k:=λz=>e 18#8
   have b:atKey (q::qs) k=atKey qs k:=by simp[atKey,List.find?_cons,e']
   rw[Ci e,b];exact ih
theorem O5.repl{xs:List (List BW×qR×qQ)}(r:O5 H kvs xs)(k:List BW){y:V}(ry:Az y u):
  O5 H (kvs.map λkv=>if kv.1=k then (kv.1,y) else kv) (xs.map (putAt k u)):=by
 induction r with
 |nil=>exact .nil
 | @cons p q ps qs h t ih =>
  rw[d9,d9];refine .cons ?_ ih;obtain⟨h1,h2,h3⟩:=h;unfold putAt
  by_cases e:p.1=k
  ·rw[qF e,qF (h1.symm.trans e)];exact⟨h1,h2,ry⟩
  ·rw[qE e,qE (λz=>e 18#8)];exact⟨h1,h2,h3⟩
theorem O5.put{xs:List (List BW×qR×qQ)}(r:O5 H kvs xs)(k:List BW){b:qR}{y:V}(hb:H b=some (.tup 7#0))(ry:Az y u):
  O5 H 19#0 (storedH xs k b u):=by
 have e:(kvs.any λkv=>decide (kv.1=k))=(atKey xs k).isSome:=by rw[GQ,(r.val k).isSome_eq,iJ]
 unfold Cf storedH;rw[e]
 by_cases q:(atKey xs k).isSome=true
 ·rw[qF q,qF q];exact r.repl k ry
 ·rw[qE q,qE q];exact Paired.snoc r ⟨rfl,hb,ry⟩
theorem O5.keeps{xs:List (List BW×qR×qQ)}(r:O5 H kvs xs)(ht:∀b ys,H b=some (.tup ys)->H' b=some (.tup ys)):O5 H' kvs xs:=
 Paired.mapP r λ_ _ z=>⟨z.1,ht _ _ z.2.1,z.2.2⟩
section
variable{P:qT}{w:qU}{h:Heap}
theorem V3{u:HO}(ok:Dx P w H h)(e:Rd H a u):Aq P w H h a u:=e.ok ok
theorem Ha{kvs:List (BW×V)}(ok:Dx P w H h)(e:Rd H a 5#1):1#3<=sizeLine/\(a==sysModules)=false/\∃vs,KV kvs vs/\h.DictOf 19#1 a vs:=
 show Aq P w H h a 5#1 from V3 ok e
theorem V4{kvs:List (BW×V)}(ok:Dx P w H h)(e:H a=some 5#1):1#3<=sizeLine/\(a==sysModules)=false/\∃vs,KV kvs vs/\h.DictOf 19#1 a vs:=Ha ok (.inl e)
theorem Gx{ks:List BW}(ok:Dx P w H h)(e:H a=some (.tup (ks.map kV))):(tupleKind 19#1).is h ks a:=by rcases (show Aq P w H h a (.tup (ks.map kV)) from ok a _ e) with⟨_,its,r,o,h1,h2,n,h3⟩;exact⟨o,5#5,n,h1,h2,h3,by simpa using Gw r⟩
theorem Iw(ok:Dx P w H h)(e:Rd H a 19#5):1#3<=sizeLine/\(a==sysModules)=false /\
  ∃xs,O5 H kvs xs/\h.DictOfH 20#6 a xs:=by
 rcases (show Aq P w H h a (.dT kvs) from V3 ok e) with⟨z,y,xs,r,o,es,ep,h1,h2,h3,h4,h5⟩;refine⟨z,y,xs,r,o,es,ep,h1,h2,h3,h4,λx hx=>?_,h5⟩
 have all:∀{l:List (List BW×V)} {m:List (List BW×qR×qQ)},O5 H l m->∀x∈m,(tupleKind 19#1).is h x.1 x.2.1:=by
  intro l m q
  induction q with
  |nil=>intro x hx;exact nomatch hx
  | @cons p q ps qs hq t ih =>
   intro x hx;rcases dD.mp hx with e|hx
   ·subst e;exact Gx ok (by rw[<-hq.1];exact hq.2.1)
   ·exact ih x hx
 exact all r x hx
theorem ZY(ok:Dx P w H h)(e:H a=some 19#5):1#3<=sizeLine/\(a==sysModules)=false /\
  ∃xs,O5 H kvs xs/\h.DictOfH 20#6 a xs:=Iw ok (.inl e)
end
def Fd(H:Hp)(a:qR)(y:V)(r:Option V):Prop:=
 (∃kvs k,Rd H a 5#1/\y=kV k/\r=Ba kvs k)\/∃kvs k b,Rd H a 19#5/\y=.ref b/\H b=some (.tup 7#0)/\r=Ba kvs k
def Qe(H:Hp)(a:qR)(y v:V)(H':Hp):Prop:=
 (∃kvs k,H a=some 5#1/\y=kV k/\1#3<sizeLine/\H'=AZ H a (.dK (Cf kvs k v))) \/
 ∃kvs k b,H a=some 19#5/\y=.ref b/\H b=some (.tup 7#0)/\1#3<sizeLine/\H'=AZ H a (.dT (Cf kvs k v))
theorem Fd.k{kvs:List (BW×V)}{k:BW}(e:H a=some 5#1):Fd H a (kV k) (Ba kvs k):=.inl ⟨kvs,k,.inl e,rfl,rfl⟩
theorem Qe.k{kvs:List (BW×V)}{k:BW}{v:V}(e:H a=some 5#1)(hl:1#3<sizeLine):Qe H a (kV k) v (AZ H a (.dK (Cf kvs k v))):=.inl ⟨kvs,k,e,rfl,hl,rfl⟩
section
variable{X:Cx}{y v:V}{r:qQ}{o:Option V}{A:Around}
theorem AY.big(I:AY X ad σ H s):sysModules<0#1:=by have h:mainGlobals<0#1:=(I.mod.glob.keeps I.bk).lt;exact Nat.lt_trans (by decide) h
theorem Qf(hu:20#5+1<cLine)(I:AY X ad σ H s)(g:Fd H a y 11#0)(ry:Az y u)(h:∀w' s',AY X ad σ H s'->Az v w'->Q w' s'):
  wpAny 0#4 A (getItem 2#6 u) Q E s:=by
 rcases g with⟨kvs,k,e,ey,l⟩|⟨kvs,k,b,e,ey,eb,l⟩
 ·subst ey;rcases Ha I.hok e with⟨z,hd,vs,rel,dd⟩;obtain⟨w',hw,rw'⟩:=Fo.some_of (v:=v) (o:=valueAt vs k) (by rw[l];exact rel.val k);exact wpAny_getItem_of (Iv ry) dd.mapOf hw (h w' _ (I.tok _) rw')
 ·subst ey;cases (show u=Value.ref b from ry);rcases Iw I.hok e with⟨z,hd,xs,rel,dd⟩;obtain⟨w',hw,rw'⟩:=Fo.some_of (v:=v) (o:=(atKey xs k).map (·.2)) (by rw[l];exact rel.val k);obtain⟨p,hp,hp2⟩:=dq.mp hw;refine wpAny_getItem_heap 6#5 (Gx I.hok eb) dd hp ?_;rw[hp2];exact h w' _ (I.tok _) rw'
theorem U0(hu:20#5+1<cLine)(I:AY X ad σ H s)(g:Fd H a y o)(ry:Az y u)(h:∀s',AY X ad σ H s'->Q (.bool (!o.isSome)) s'):
  wpAny 0#4 A (compareOp .NotIn u 2#6) Q E s:=by
 rcases g with⟨kvs,k,e,ey,l⟩|⟨kvs,k,b,e,ey,eb,l⟩
 ·subst ey;rcases Ha I.hok e with⟨z,hd,vs,rel,dd⟩;refine wpAny_notIn_of (Iv ry) hd dd.mapOf ?_;rw[<-(rel.val k).isSome_eq,<-l];exact h _ (I.tok _)
 ·subst ey;cases (show u=Value.ref b from ry);rcases Iw I.hok e with⟨z,hd,xs,rel,dd⟩;refine wpAny_notIn_heap 6#5 (Gx I.hok eb) hd dd ?_;have q:=(rel.val k).isSome_eq;rw[iJ]at q;rw[<-q,<-l];exact h _ (I.tok _)
theorem IG{ob:HO}(I:AY X ad σ H s)(mu:Y4 (H a))(hs:Heap.SameBut a s.heap h')(he:∃q,h'.get? a=some q)(new:Aq X.prog X.w (AZ H a ob) h' a ob):
  AY X ad σ (AZ H a ob) {s with heap:=h',toks:=t'}:=
 I.write (x:=a) (e:=a) mu 4#6 (λb q hb z=>(hs.2 b hb).trans z) he new
theorem Sf{P:qT}{w:qU}{kvs:List (BW×V)}{vs:List (BW×qQ)}(z:1#3<=sizeLine)(hd:(a==sysModules)=false)(rel:KV kvs vs)(dd:h'.DictOf 19#1 a vs):
  Aq P w H' h' a 5#1:=⟨z,hd,vs,rel,dd⟩
theorem Qg{Q:Unit->qS->Prop}(hu:20#5+1<cLine)(I:AY X ad σ H s)(g:Qe H a y v H')(ry:Az y u)(rv:Az v r)(h:∀s',AY X ad σ H' s'->Q () s'):
  wpAny 0#4 A (setItem 2#6 u r) Q E s:=by
 rcases g with⟨kvs,k,e,ey,l,eH⟩|⟨kvs,k,b,e,ey,eb,l,eH⟩
 ·subst ey eH;rcases V4 I.hok e with⟨z,hd,vs,rel,dd⟩;have hz:3#2<=sizeLine:=by rw[<-rel.length];exact z
  have hl:(Cf kvs k v).length<=sizeLine:=by have:=Dr kvs k v;lia
  refine wpAny_setItem_pairs (hsz:=hz) (Iv ry) dd λh' dd' hs=>h _ ?_
  have he:∃q,h'.get? a=some q:=let ⟨q,_,_,hq,_⟩:=dd';⟨q,hq⟩;exact IG I (by rw[e];exact 6#9) hs he (Sf hl hd (rel.put k rv) dd')
 ·subst ey eH;cases (show u=Value.ref b from ry);rcases ZY I.hok e with⟨z,hd,xs,rel,dd⟩;have hz:0#7<=sizeLine:=by rw[<-Paired.length rel];exact z
  have hl:(Cf kvs k v).length<=sizeLine:=by have:=Dr kvs k v;lia
  refine wpAny_setItem_heap (hsz:=hz) 6#5 (Gx I.hok eb) dd λh' dd' hs=>h _ ?_
  rcases dd' with⟨q,es,ep,hq,h2,h3,h4,_,h5⟩;refine IG I (by rw[e];exact 6#9) hs ⟨q,hq⟩ ⟨hl,hd,_,(rel.put k eb rv).keeps λc ys ec=>?_,q,es,ep,hq,h2,h3,h4,h5⟩;rw[AI (Dk ec e (λz=>nomatch z))];exact ec
end
def U3(i:Expr):Prop:=∀ov iv,subscripted i false ov iv=operate [ov,iv] (getItem ov iv)
theorem O6{prog:qT}{w:qU}{A:Around}{env:Env}{value slice:Expr}{id:String}
  (hl:typeLookup (.type T) "__getitem__"=pure (some 9#6)) (hs:U3 slice)
  (h:wpAny 0#3 A (eval value env) (λo s₁=>wpAny 0#3 A (eval slice env) (λi s₂=>s₂.TypeIs o T/\wpAny 0#3 A (getItem o i) Q E s₂) E s₁) E s):
  wpAny 0#3 A (eval (.Subscript value slice pos) env) Q E s:=by
 refine Subscript_ (qM h (λo s₁ h₁=>qM h₁ (λi s₂ h₂=>?_) λ_ _ x=>x) λ_ _ x=>x);obtain⟨hT,h₂⟩:=h₂;unfold subscriptTail;refine qC ?_;rw[getitemInPython_of_ne hT.not_modules];refine qC (wpAny_specialOf hT hl ?_)
 have fin:wpAny 0#3 A (subscripted slice false o i) (λr s₃=>wpAny 0#3 A (letTemporaryGo value o r >>= λ_=>pure r) Q E s₃) E s₂:=by rw[hs o i];exact wpAny_operating (qM h₂ (λr s₃ h₃=>qC (wpAny_letTemporaryGo (qD h₃))) λ_ _ x=>x)
 first
  |exact qD (qC fin)
  |exact qC (qD (qC fin))
  |exact qC fin
theorem L7{X:Cx}{y:V}{o:Option V}(I:AY X ad σ H s)(g:Fd H a y o):s.TypeIs 2#6 "dict":=by
 rcases g with⟨kvs,k,e,_,_⟩|⟨kvs,k,b,e,_,_,_⟩
 ·obtain⟨_,_,vs,_,dd⟩:=Ha I.hok e;exact dd.typeIs
 ·obtain⟨_,_,xs,_,dd⟩:=Iw I.hok e;exact dd.typeIs
def ZZ(td ty:TE):TE:=λσ H Q=>td σ H λx H1=>ty σ H1 λy H2=>∃a v,x=.ref a/\Fd H2 a y 11#0/\Q v H2
def U4(ty td:TE):TE:=λσ H Q=>ty σ H λy H1=>td σ H1 λx H2=>∃a o,x=.ref a/\Fd H2 a y o/\Q (.bl (!o.isSome)) H2
def Za(td ty tv:TE):TS:=λD σ H=>tv σ H λv H1=>td σ H1 λx H2=>ty σ H2 λy H3=>∃a H4,x=.ref a/\Qe H3 a y v H4/\D.nx σ H4
section
variable{X:Cx}{o i e value:Expr}{pos' tpos:Pos}{td ty tv:TE}
theorem K2(hu:7#2+1<cLine)(ho:PE X o td)(hi:PE X i ty)(hs:U3 i):PE X 10#7 (ZZ td ty):=by intro ad s σ H Q I h;refine O6 PySem.F.slot_dict_getitem.lookup hs (BM (ho ad s σ H _ I h) λu s1 ⟨x,H1,I1,rx,q1⟩=>BM (hi ad s1 σ H1 _ I1 q1) λiv s2 z9=>?_);obtain⟨y,H2,I2,ry,a,v,ex,g,q2⟩:=z9;subst ex;obtain rfl:u=Value.ref a:=rx;exact⟨L7 I2 g,Qf hu I2 g ry λw' s3 I3 rw'=>⟨v,H2,I3,rw',q2⟩⟩
theorem KH(hu:7#2+1<cLine)(hi:PE X i ty)(ho:PE X o td):PC X .NotIn i o (U4 ty td):=by
 intro ad s σ H Q I h;refine BM (hi ad s σ H _ I h) λiv s1 ⟨y,H1,I1,ry,q1⟩=>BM (ho ad s1 σ H1 _ I1 q1) λu s2 z9=>?_
 obtain⟨x,H2,I2,rx,a,ov,ex,g,q2⟩:=z9;subst ex;obtain rfl:u=Value.ref a:=rx;exact U0 hu I2 g ry λs3 I3=>⟨.bl (!ov.isSome),H2,I3,rfl,q2⟩
theorem O7(hu:7#2+1<cLine)(ho:PE X o td)(hi:PE X i ty)(hv:PE X value tv)(hs:swapsWith value (some (.Subscript o i pos')) pos.line 1#2=pure false):
  PS X (.Assign [.Subscript o i pos'] value pos) (Za td ty tv):=by
 intro ad s σ H D I h;refine wpAny_Assign_Subscript (BM (hv ad s σ H _ I h) λr s1 ⟨v,H1,I1,rv,q1⟩=>BM (ho ad s1 σ H1 _ I1 q1) λu s2 ⟨x,H2,I2,rx,q2⟩=>BM (hi ad s2 σ H2 _ I2 q2) λiv s3 z9=>?_) hs;obtain⟨y,H3,I3,ry,a,H4,ex,g,q3⟩:=z9;subst ex;obtain rfl:u=Value.ref a:=rx;exact Qg hu I3 g ry rv λs4 I4=>⟨σ,H4,I4,q3⟩
end
theorem Sh{P:qT}{w:qU}(h:Heap)(hb:sysModules<11#7):Aq P w H (h.push {cls:=.type "dict",data:=.dict #[]}) h.objs.size (.dK []):=
 ⟨dz _,beq_eq_false_iff_ne.mpr (Ne.symm (dS hb)),[],.nil,Heap.DictOf.new h⟩
def XJ:TE:=λ_ H Q=>∀p,H p=none->Q 1#5 (AZ H p (.dK []))
section
variable{X:Cx}
theorem Ix:PE X (.Dict [] [] pos) XJ:=λad s σ H Q I h =>
 wpAny_Dict_empty ⟨.ref 0#1,_,I.laid (a:=0#1) (o:=.dK []) (t':=5#2) (λ_ _ q=>cm _ q) (cj _) (Sh s.heap I.big),rfl,h _ (I.hok.fresh (cj _))⟩
end
structure M1(X:Cx)(o:Expr)(m:Str)(apos:Pos)(e:Expr)(cpos:Pos):Prop where
 base:attributeBase o m X.env 14#8=eval o 1#2
 few:((backTo cpos (starEach [e] 1#2)).all (λx=>!x.1)&&(backToKw cpos (keywordEach [] 1#2)).all (λx=>x.1.isSome)
  && decide (([e]:List Expr).length+([]:List Keyword).length+(if ([]:List Keyword).isEmpty then 0 else 1)<30))=true
 line:(18#4==cpos.line)=true
 trees:backTo cpos (starEach [e] 1#2)=[(false,eval e 1#2)]
structure M2(X:Cx)(o:Expr)(m:Str)(apos:Pos)(e f:Expr)(cpos:Pos):Prop where
 base:attributeBase o m X.env 14#8=eval o 1#2
 few:((backTo cpos (starEach [e,f] 1#2)).all (λx=>!x.1)&&(backToKw cpos (keywordEach [] 1#2)).all (λx=>x.1.isSome)
  && decide (([e,f]:List Expr).length+([]:List Keyword).length+(if ([]:List Keyword).isEmpty then 0 else 1)<30))=true
 line:(18#4==cpos.line)=true
 trees:backTo cpos (starEach [e,f] 1#2)=[(false,eval e 1#2),(false,eval f 1#2)]
def bP(H:Hp)(a:qR):Prop:=(∃kvs,Rd H a 5#1)\/∃kvs,Rd H a 19#5
theorem Si{X:Cx}(I:AY X ad σ H s)(d:bP H a):
  s.TypeIs 2#6 "dict"/\(∀b,Value.ref a=.ref b->∃ob,s.heap.get? b=some ob/\ob.dict=none)/\(a==sysModules)=false:=by
 rcases d with⟨kvs,e⟩|⟨kvs,e⟩
 ·obtain⟨_,hd,vs,_,dd⟩:=Ha I.hok e;refine⟨dd.typeIs,λb q=>?_,hd⟩;cases q;obtain⟨ob,_,_,h1,h2,_⟩:=dd;exact⟨ob,h1,h2.2.1⟩
 ·obtain⟨_,hd,xs,_,dd⟩:=Iw I.hok e;refine⟨dd.typeIs,λb q=>?_,hd⟩;cases q;obtain⟨ob,_,_,h1,h2,_⟩:=dd;exact⟨ob,h1,h2.2.1⟩
section
variable{X:Cx}{y d:V}{r:qQ}{o:Option V}{A:Around}
theorem XM(hu:20#5+1<cLine)(I:AY X ad σ H s)(g:Fd H a y o)(ry:Az y u)(h:∀w' s',AY X ad σ H s'->Az (o.getD .non) w'->Q w' s'):
  wpAny 0#4 A (call (.builtin "dict.get") [.ref a,u]) Q E s:=by
 rcases g with⟨kvs,k,e,ey,l⟩|⟨kvs,k,b,e,ey,eb,l⟩
 ·subst ey;rcases Ha I.hok e with⟨z,hd,vs,rel,dd⟩;refine call_meetsIn ff dd.typeIs gz (PySem.F.args_dict_get_2 _ _) (meets_dict_get 6#0 a (Iv ry) hd) ⟨_,dd.mapOf,h _ _ (I.tok _) ?_⟩;rw[l];exact (rel.val k).getD rfl
 ·subst ey;cases (show u=Value.ref b from ry);rcases Iw I.hok e with⟨z,hd,xs,rel,dd⟩;refine call_meetsIn ff dd.typeIs gz (PySem.F.args_dict_get_2 _ _) (meetsH_dict_get 12#4 a b hd) ⟨tupleKind_room_in1 hu,k,xs,Gx I.hok eb,dd,h _ _ (I.tok _) ?_⟩;rw[l];exact (rel.val k).getD rfl
theorem XN(hu:20#5+1<cLine)(I:AY X ad σ H s)(g:Fd H a y o)(ry:Az y u)(rd:Az d r)(h:∀w' s',AY X ad σ H s'->Az (o.getD d) w'->Q w' s'):
  wpAny 0#4 A (call (.builtin "dict.get") [.ref a,u,r]) Q E s:=by
 rcases g with⟨kvs,k,e,ey,l⟩|⟨kvs,k,b,e,ey,eb,l⟩
 ·subst ey;rcases Ha I.hok e with⟨z,hd,vs,rel,dd⟩;refine call_meetsIn ff dd.typeIs gz (PySem.F.args_dict_get_3 _ _ _) (meets_dict_get_default 6#0 a (Iv ry) hd r) ⟨_,dd.mapOf,h _ _ (I.tok _) ?_⟩;rw[l];exact (rel.val k).getD rd
 ·subst ey;cases (show u=Value.ref b from ry);rcases Iw I.hok e with⟨z,hd,xs,rel,dd⟩;refine call_meetsIn ff dd.typeIs gz (PySem.F.args_dict_get_3 _ _ _) (meetsH_dict_get_default 12#4 a b hd r) ⟨tupleKind_room_in1 hu,k,xs,Gx I.hok eb,dd,h _ _ (I.tok _) ?_⟩;rw[l];exact (rel.val k).getD rd
end
def XO(td ty:TE):TE:=λσ H Q=>td σ H λx H1=>∃a,x=.ref a/\bP H1 a/\ty σ H1 λy H2=>∃o,Fd H2 a y o/\Q (o.getD .non) H2
def XQ(td ty tx:TE):TE:=λσ H Q=>td σ H λx H1=>∃a,x=.ref a/\bP H1 a/\ty σ H1 λy H2=>tx σ H2 λz H3=>∃o,Fd H3 a y o/\Q (o.getD z) H3
section
variable{X:Cx}{o e f:Expr}{apos cpos:Pos}{td ty tx:TE}
theorem Sj(hu:7#2+1<cLine)(ho:PE X o td)(he:PE X e ty)(m:M1 X o "get" apos e cpos):PE X (.Call (.Attribute o "get" apos) [e] [] cpos) (XO td ty):=by intro ad s σ H Q I h;refine wpAny_Call_method m.base m.few m.line fm ff PySem.F.type_dict_get (BM (ho ad s σ H _ I h) λu s1 z9=>?_);obtain⟨x,H1,I1,rx,a,ex,d,q1⟩:=z9;subst ex;obtain rfl:u=Value.ref a:=rx;obtain⟨t1,t2,_⟩:=Si I1 d;refine⟨t1,t2,?_⟩;rw[m.trees];refine Calls.callWith_builtin rfl (Calls.evalArgs_plain (Calls.spliced_cons (BM (he ad s1 σ H1 _ I1 q1) λiv s2 ⟨y,H2,I2,ry,ov,g,q2⟩=>Calls.spliced_nil ?_)));exact XM hu I2 g ry λw' s3 I3 rw'=>⟨_,H2,I3,rw',q2⟩
theorem Sk(hu:7#2+1<cLine)(ho:PE X o td)(he:PE X e ty)(hf:PE X f tx)(m:M2 X o "get" apos e f cpos):PE X (.Call (.Attribute o "get" apos) [e,f] [] cpos) (XQ td ty tx):=by
 intro ad s σ H Q I h;refine wpAny_Call_method m.base m.few m.line fm ff PySem.F.type_dict_get (BM (ho ad s σ H _ I h) λu s1 z9=>?_);obtain⟨x,H1,I1,rx,a,ex,d,q1⟩:=z9;subst ex;obtain rfl:u=Value.ref a:=rx;obtain⟨t1,t2,_⟩:=Si I1 d;refine⟨t1,t2,?_⟩;rw[m.trees]
 refine Calls.callWith_builtin rfl (Calls.evalArgs_plain (Calls.spliced_cons (BM (he ad s1 σ H1 _ I1 q1) λiv s2 ⟨y,H2,I2,ry,q2⟩ =>
  Calls.spliced_cons (BM (hf ad s2 σ H2 _ I2 q2) λfv s3 ⟨z,H3,I3,rz,ov,g,q3⟩=>Calls.spliced_nil ?_))))
 exact XN hu I3 g ry rz λw' s4 I4 rw'=>⟨_,H3,I4,rw',q3⟩
end
end L2
namespace PySem
section
variable{prog:qT}{w:qU}{K:Type}[DecidableEq K]{knd:HeapKind prog w K}{A:Around}{E:qQ->qS->Prop}{s:qS}
theorem setDef_heap{dd b:qR}{ents:List (K×qR×qQ)}{key:K}{dv:qQ}{Q:qQ->qS->Prop}(room:knd.room A)(isk:knd.is s.heap key b)(dof:s.heap.DictOfH knd dd ents)(few:ents.length<=sizeLine)
  (old:∀p,atKey ents key=some p->Q p.2 {s with toks:=5#2+knd.draws key})
  (new:atKey ents key=none->∀hp,hp.DictOfH knd dd (storedH ents key b dv)->Heap.SameBut dd s.heap hp->Q dv {s with heap:=hp,toks:=5#2+knd.draws key}):
  wpAny 0#3 A (dictSetDefault dd 11#4 dv) Q E s:=by
 rcases dof with⟨ob,rows,ep,got,cls,dat,rowsE,each,once⟩;unfold dictSetDefault
 try with_reducible refine qO ?_
 refine qC (knd.pyHash room isk (qC (wpAny_dictFind_heap (s:={s with toks:=5#2+knd.draws key}) room isk got dat rowsE each once (λnowhere=>?_) (λj p there=>?_))))
 ·have none':=atKey_none_of_get nowhere;have newE:=storedH_new (a:=b) (v:=dv) none';have rz:=size_of_entries rowsE;refine qC (wpAny_rule (qC (wpAny_updateDictKeys (hz:=by lia) (s:={s with toks:=5#2+knd.draws key}) got dat (qD ?_))));refine new none' _ ⟨_,_,ep+1,gC _ got (Obj.isFreed_of_dict (Obj.data_mapDictKeys dat _)),cls.mapDictKeys _,Obj.data_mapDictKeys dat _,?_,?_,?_⟩ (Heap.SameBut.update ..)
  ·rw[newE];simp[rowsE,entryOfKey]
  ·rw[newE];intro x hx;rcases cZ.mp hx with z|z
   ·exact knd.keeps (each x z) got dat (Heap.SameBut.update ..)
   ·rw[ce.mp z];exact knd.keeps isk got dat (Heap.SameBut.update ..)
  ·rw[newE,cq,eP];refine⟨once,by simp,λx hx y hy e=>?_⟩;have:y=key:=by simpa using hy
   exact not_mem_keys_of_get nowhere (by rw[<-this,<-e];exact hx)
 ·refine qC (wpAny_dictEntries (s:={s with toks:=5#2+knd.draws key}) got dat ?_);rw[entry_at rowsE j,there];exact qC (wpAny_rule (qD (old p (atKey_of_get once there))))
end
section
variable{prog:qT}{w:qU}{K:Type}[DecidableEq K](knd:HeapKind prog w K)(dd b:qR)
theorem meetsH_setDef(hm:(dd==sysModules)=false)(dv:qQ):
  MeetsIn prog w (Builtin.«dict.setdefault» ⟨[.ref dd,.ref b,dv],[]⟩) (λA R s=>knd.room A.in1/\∃key ents,knd.is s.heap key b/\s.heap.DictOfH knd dd ents/\ents.length<=sizeLine /\
   (∀p,atKey ents key=some p->R (.ok (.ret p.2)) {s with toks:=5#2+knd.draws key}) /\
   (atKey ents key=none->∀hp,hp.DictOfH knd dd (storedH ents key b dv)->Heap.SameBut dd s.heap hp->R (.ok (.ret dv)) {s with heap:=hp,toks:=5#2+knd.draws key})):=
 .of_wp λA R s h=>by obtain⟨room,key,ents,isk,dof,few,old,new⟩:=h;unfold Builtin.«dict.setdefault»;refine qC ?_;unfold Builtin.Dict.keyAndDefault;refine qC (wpAny_notOrdered_dict dof.typeIs ?_);show wpAny _ _ (pure (dd,Value.ref b,some dv)) _ _ s;refine qD ?_;show wpAny _ _ (if (dd==sysModules)=true then _ else (dictSetDefault dd 11#4 dv >>= _)) _ _ s;rw[qE (by rw[hm];decide)];exact qC (setDef_heap room isk dof few (λp z=>qD ⟨_,rfl,old p z⟩) λz hp d2 sb=>qD ⟨_,rfl,new z hp d2 sb⟩)
end
end PySem
namespace L2
open PySem PySem.Spec PyProof.Rows
variable{es:List Expr}{fd:FuncData}{i:Nat}{pos:Pos}{ps:List Str}{qual:Str}{scope:Scope}{sp:Sp}{te:TE}{tt:TT}
section
variable{p:List qQ->Prop}
theorem b0(h:p []):∀us:List qQ,6#1=0->p us:=λus e=>by cases us with
 |nil=>exact h
 |cons a r=>cases e
theorem b1(h:∀a,p [a]):∀us:List qQ,6#1=1->p us:=λus e=>by cases us with
 |nil=>cases e
 |cons a r=>exact b0 (p:=λl=>p (a::l)) (h a) r 20#9
theorem b2(h:∀a b,p [a,b]):∀us:List qQ,6#1=2->p us:=λus e=>by cases us with
 |nil=>cases e
 |cons a r=>exact b1 (p:=λl=>p (a::l)) (h a) r 20#9
theorem b3(h:∀a b c,p [a,b,c]):∀us:List qQ,6#1=3->p us:=λus e=>by cases us with
 |nil=>cases e
 |cons a r=>exact b2 (p:=λl=>p (a::l)) (h a) r 20#9
theorem b4(h:∀a b c d,p [a,b,c,d]):∀us:List qQ,6#1=4->p us:=λus e=>by cases us with
 |nil=>cases e
 |cons a r=>exact b3 (p:=λl=>p (a::l)) (h a) r 20#9
end
noncomputable def cQ(N P:List Str)(sc:Scope):Bool:=decide (sc.kind=.function)&&!sc.isCoroutine&&!sc.isGenerator&&decide N.Nodup&&decide (N.take P.length=P) &&
 P.all (λx=>decide (sc.names.lookup x=some .local\/sc.names.lookup x=some .cell))&&sc.names.all λy=>decide (y.2≠.free)
theorem CB{N P:List Str}{sc:Scope}(h:cQ N P sc=true:=by decide +kernel):AJ N P sc:=by unfold cQ at h;simp only[Bool.and_eq_true,decide_eq_true_eq,Bool.not_eq_true',List.all_eq_true]at h;obtain⟨⟨⟨⟨⟨⟨a,b⟩,c⟩,d⟩,e⟩,f⟩,g⟩:=h;exact⟨a,b,c,d,e,f,g⟩
section
variable{P:qT}{w:qU}{K:qV}{mg:Str->Option qQ}{base:Heap}{x:Str}{st:Stmt}{f:qR}{N:List Str}{k:Nat}
theorem NG.okY(F:NG K x qual st f fd)(S:AJ N ps 6#6) (h:∀vs H Q E,sp vs H Q E->3#2=3#0 /\
  ∀(j6:qQ) (A:Around) (outer:List Env) (s:qS),CM k 11#3 ->
   ∃t,HE (Ej 12#1 P w K mg base N qual 6#6 f j6 A outer s H E).nox 17#8 t/\t {nx:=λ_ H'=>Q .non H',rt:=Q} 12#5 H):Fu P w K mg base 12#1 (k+1) f fd ps sp:=
 F.ok0 S (λvs H Q E q=>(h vs H Q E q).1) λj6 A outer s H vs Q E hr q=>(h vs H Q E q).2 j6 A outer s hr
theorem Am(D:∃fd,NG K x qual st f fd)(S:AJ N ps 6#6) (h:∀vs H Q E,sp vs H Q E->3#2=3#0 /\
  ∀(j6:qQ) (A:Around) (outer:List Env) (s:qS),CM k 11#3 ->
   ∃t,HE (Ej 12#1 P w K mg base N qual 6#6 f j6 A outer s H E).nox 17#8 t/\t {nx:=λ_ H'=>Q .non H',rt:=Q} 12#5 H) (bd:Ew x qual st ps:=by first|exact λ_ _ _ _ _ _=>b1 λ_=>rfl|exact λ_ _ _ _ _ _=>b2 λ_ _=>rfl|exact λ_ _ _ _ _ _=>b3 λ_ _ _=>rfl|exact λ_ _ _ _ _ _=>b4 λ_ _ _ _=>rfl):B2 P w K mg base (k+1) f ps sp:=
 Uq D S bd (λvs H Q E q=>(h vs H Q E q).1) λj6 A outer s H vs Q E hr q=>(h vs H Q E q).2 j6 A outer s hr
theorem Fk(D:∃fd,NG K x qual st f fd)(S:AJ N ps 6#6) (h:∀vs H Q E,sp vs H Q E->3#2=3#0 /\
  ∀(j6:qQ) (A:Around) (outer:List Env) (s:qS),CM k 11#3 ->
   ∃t,HE 13#9 17#8 t/\t {nx:=λ_ H'=>Q .non H',rt:=Q} 12#5 H) (bd:Ew x qual st ps:=by first|exact λ_ _ _ _ _ _=>b1 λ_=>rfl|exact λ_ _ _ _ _ _=>b2 λ_ _=>rfl|exact λ_ _ _ _ _ _=>b3 λ_ _ _=>rfl|exact λ_ _ _ _ _ _=>b4 λ_ _ _ _=>rfl):B2 P w K mg base (k+1) f ps sp:=
 Ur D S bd (λvs H Q E q=>(h vs H Q E q).1) λj6 A outer s H vs Q E hr q=>(h vs H Q E q).2 j6 A outer s hr
end
section
variable{X:Cx}{x:Str}{e elt iter:Expr}{t:TA}{pos' p px:Pos}{N:List Str}{sc:Scope}{k k':Nat}{f:qR}{cl:List (Str×qR)}{fv:List (Nat×Str)}{ifs:List Expr}{wi:TI}
theorem AM(hr:CM k' X.A)(G:B2 X.prog X.w X.K X.mg X.base k f ps sp)(hm:X.mg x=some 5#7)(ha:PA X (e::es) t)(hk:k<=k':=by decide)(hg:Gl X x:=by rfl)
  (hdb:(x==("__debug__":Str))=false:=by decide) (he:starEach (e::es) 1#2=(false,eval e 1#2)::starEach es 1#2:=by rfl) (hpl:(backTo pos 4#2).any (·.1)=false:=by rfl):
  PE X (.Call 18#2 (e::es) [] pos) (Ku sp [] (λ_=>E0) t):=Bh G (hr.mono hk) hg hm Vx ha hdb he hpl
theorem AQ(i:Nat)(S:AJ X.N ps sc)(he:PE X e te)(hi:X.N[i]?=some x:=by rfl)(hx:Vi X.env.scope x:=by first|exact Or.inl rfl|exact Or.inr rfl)(hs:swapsWith e (some (.Name x pos')) pos.line 1#2=pure false:=by rfl)
  (hf:X.fn x=true\/X.env.scope.names.lookup x=some .local:=by first|exact .inl rfl|exact .inr rfl|assumption):PS X (.Assign [.Name x pos'] e pos) (QG te (Fg i)):=IR S.nd hi hx he hs hf
theorem BF(i:Nat)(S:AJ X.N ps sc)(hi:X.N[i]?=some x:=by rfl)(hx:Vi X.env.scope x:=by first|exact Or.inl rfl|exact Or.inr rfl)
  (hf:X.fn x=true\/X.env.scope.names.lookup x=some .local:=by first|exact .inl rfl|exact .inr rfl|assumption):PG X 7#8 (Fg i):=Hu S.nd hi hx hf
theorem C7(fv:List (Nat×Str))(cl:List (Str×qR))(hi:PI X 19#6 iter wi)(hf:∀s H C fp,PF (Ed X s H 0#5 fp (x::fv.map (·.2))) ifs tt)(he:∀s H C fp,PE (Ed X s H 0#5 fp (x::fv.map (·.2))) elt te)
  (hclos:closureFor scope 1#2=pure cl:=by with_unfolding_all rfl) (hcell:∀y∈9#2,y.2≠.cell:=by decide +kernel) (hk:12#6=.function:=by rfl) (hnames:∀z∈9#2,z.2=.local->scope.names.lookup z.1=some .local:=by decide +kernel)
  (hx:scope.names.lookup x=some .local:=by rfl) (hcl:Hq X.env cl:=by repeat' first|exact trivial|with_unfolding_all rfl|constructor) (hhas:((relabel scope X.env).names.all λz=>!(z.2==.cell||z.2==.free)||(cl.lookup z.1).isSome)=true:=by with_unfolding_all rfl)
  (hfv:Ig X scope cl fv:=by repeat' first|exact trivial|with_unfolding_all rfl|constructor) (hnd:(x::fv.map (·.2)).Nodup:=by decide) (hc:19#9=true:=by rfl) (hs:∀x,foldedSetIterable iter X.env x=pure x:=by intro _;rfl):
  PE X (.ListComp elt [⟨.Name x px,iter,ifs,0⟩] scope pos) (SF wi fv tt te):=Us hc hi hclos hcell hk hnames hx hcl hhas hfv hnd hf he hs
end
end L2
namespace PySem
open Sem (wp)
end PySem
namespace L2
open PySem PySem.Spec PyProof.Rows RW
end L2
namespace L2
open PySem PySem.Spec PyProof.Rows
end L2
namespace L2
open PySem PySem.Spec PyProof.Rows RW
variable{M' m':Nat}{g lo lo' low':Int}{dl tab':qW}
theorem B5{l:qW}{n k:Nat}(h:k<n):(l.take n).getD k 0=l.getD k 0:=by rw[cV,iY,qF h,cV]
def A4(g lo:Int)(dl:qW)(m:Nat)(lf:Int)(tf:qW)(mf:Nat):Prop:=∃(low:Int) (M:Nat),DB g lo dl m low M/\lf=low/\((M=1/\mf=2/\tf=Ek g low (Ek g lo dl m low 1) 1 low 2)\/(2<=M/\mf=M/\tf=Ek g lo dl m low M))
theorem Sl(hg:2<=g){m:Nat}(hl:(0#0:Int)=g^m){low:Int}{M:Nat}(n:DB g lo dl m low M)(n':DB g lo dl m low' M'):low=low'/\M=M':=by
 obtain⟨e1,e2⟩:=(DJ hg hl hl n n').mp λ_ _=>rfl
 refine⟨e1,?_⟩;have a:=By hg lo dl m low M;rw[e2,By hg]at a;exact (FO hg a).symm
theorem E4(g lo:Int)(dl:qW)(m:Nat):∃low M,DB g lo dl m low M:=by
 by_cases hc:Br g lo dl m=[]
 ·exact⟨0,1,Lq hc⟩
 ·obtain⟨M,_,_,hW⟩:=KB hc;exact⟨_,M,hW⟩
variable{lf:Int}{tf:qW}{mf:Nat}
theorem A4.two{m:Nat}(h:A4 g lo dl m lf tf mf):2<=mf:=by
 obtain⟨low,M,_,_,z|z⟩:=h
 ·lia
 ·lia
inductive O8(CT:qR)(vs:List V)(H:Hp)(Q:VK)(E:XK):Prop
 |m (r:qR) (g lo:Int) (dl:qW) (m:Nat) (lf:Int) (tf:qW) (mf:Nat):vs=[.ref r]->AS H r g lo dl m->A4 g lo dl m lf tf mf->(g^(mf-1)<=9->∀r' H',AG H H'->AS H' r' g lf tf mf->Q 8#2 H')->(9<g^(mf-1)->∀H',AG H H'->E 16#5 none H')->O8 CT vs H Q E
inductive O9(CT:qR)(vs:List V)(H:Hp)(Q:VK)(E:XK):Prop
 |m (r:qR) (g lo:Int) (dl:qW) (m:Nat) (lf:Int) (tf:qW) (mf:Nat):vs=[.ref r]->AS H r g lo dl m->A4 g lo dl m lf tf mf->(g^(mf-1)<=9->∀H',AG H H'->Q (.int (g^(mf-1))) H')->(9<g^(mf-1)->∀H',AG H H'->E 16#5 none H')->O9 CT vs H Q E
inductive PB(CT:qR)(vs:List V)(H:Hp)(Q:VK)(E:XK):Prop
 |m (r:qR) (g lo:Int) (dl:qW) (m:Nat) (lf:Int) (tf:qW) (mf:Nat):vs=[.ref r]->AS H r g lo dl m->A4 g lo dl m lf tf mf->(g^(mf-1)<=9->∀H',AG H H'->Q (.int (2^(g^(mf-1)).toNat-1)) H')->(9<g^(mf-1)->∀H',AG H H'->E 16#5 none H')->PB CT vs H Q E
theorem A4.le(hg:2<=g){m:Nat}(fw:A4 g lo dl m lf tf mf)(hl:(0#0:Int)=g^m)(hl':(11#6:Int)=g^m')(al:BL g lo dl m lo' tab' m'):mf<=max 2 m':=by
 obtain⟨low,M,n,rfl,z⟩:=fw;obtain⟨low',M',n'⟩:=E4 g lo' tab' m';obtain⟨e1,e2⟩:=(DJ hg hl hl' n n').mp al;have a:=By hg lo dl m lf M;rw[e2,By hg]at a;have eM:=FO hg a
 have:M'<=max 1 m':=by rcases n'.ends with⟨_,_,y⟩|⟨j0,j1,_,_,_,_,_,_⟩<;>lia
 rcases z with z|z<;>lia
theorem Sm(hg:2<=g)(lo:Int){m:Nat}:∃lf tf mf,A4 g lo dl m lf tf mf:=by
 obtain⟨low,M,n⟩:=E4 g lo dl m;have:=n.one
 by_cases z:M=1
 ·subst z;exact⟨_,_,_,low,1,n,rfl,.inl ⟨rfl,rfl,rfl⟩⟩
 ·exact⟨_,_,_,low,M,n,rfl,.inr ⟨by lia,rfl,rfl⟩⟩
end L2
namespace L2
variable{g:Int}
noncomputable def BI(g:Int)(ta:qW)(ma:Nat)(tb:qW)(M:Nat):qW:=(List.range (g^M).toNat).map λn:Nat=>tb.getD (An g (Ak g ta ma (Aw g (n:Int) M))).toNat 0
theorem Bu(hg:2<=g)(ta:qW)(ma:Nat)(tb:qW)(M:Nat):((BI g ta ma tb M).length:Int)=g^M:=by unfold BI;rw[cU,dL,dE (fD (RW.Ad hg M))]
theorem Db(hg:2<=g)(ta:qW)(ma:Nat){tb:qW}(hb:∀n∈tb,0<=n/\n<g)(M:Nat):∀n∈BI g ta ma tb M,0<=n/\n<g:=λn hn=>by unfold BI at hn;obtain⟨j,_,e⟩:=dG.mp hn;subst e;exact Bn hg hb _
theorem F4(hg:2<=g)(ta:qW)(ma:Nat)(tb:qW){w:qW}(hb:∀n∈w,0<=n/\n<g):(BI g ta ma tb 4#4).getD (An g w).toNat 0=tb.getD (An g (Ak g ta ma w)).toNat 0:=by have b:=BR hg hb;unfold BI;rw[AT (by lia),show (((An g w).toNat:Nat):Int)=An g w by lia,DP hg hb]
theorem Qh(ring:qW){M k m:Nat}(z:Int)(h:k+m<=M):((Bp ring M z).drop k).take m=Bp ring m (z+(k:Int)):=by
 unfold Bp;rw[<-List.map_drop,<-iX,Ee _ _ _ h,fS];refine dI λj _=>?_;show CV ring (z+((k+j:Nat):Int))=_
 congr 1
 lia
variable{ma:Nat}
theorem Nv(hg:2<=g)(loa lob:Int)(ta:qW)(tb:qW){mb:Nat}(hma:1<=ma)(hmb:1<=mb){ring:qW}(hb:∀n∈ring,0<=n/\n<g)(h:1<=8#6):Cc g (loa+lob) (BI g ta ma tb (ma+mb-1)) (ma+mb-1) ring=Cc g lob tb mb (Cc g loa ta ma ring):=by
 unfold Cc;rw[cU,dL];refine dI λi _=>?_;have wb:=Lk hg hb (ma+mb-1) ((i:Int)+(loa+lob));have e:=F4 hg ta ma tb wb;rw[DN]at e;rw[e]
 congr 3
 refine Ab ?_ λk hk=>?_
 ·rw[Ag,DN,DN];lia
 rw[Ag,DN]at hk
 have e1:(Ak g ta ma (Bp ring (ma+mb-1) ((i:Int)+(loa+lob)))).getD k 0=Gp g ta ma (Bp ring (ma+mb-1) ((i:Int)+(loa+lob))) k:=by unfold Ak;exact AT (by rw[DN];exact hk)
 have e2:(Bp ((List.range 8#6).map λi:Nat=>ta.getD (An g (Bp ring ma ((i:Int)+loa))).toNat 0) mb ((i:Int)+lob)).getD k 0=CV ((List.range 8#6).map λi:Nat=>ta.getD (An g (Bp ring ma ((i:Int)+loa))).toNat 0) ((i:Int)+lob+(k:Int)):=by unfold Bp;exact AT (by lia)
 have e3:=GM (g:=g) (lo:=loa) (dl:=ta) (m:=ma) h ((i:Int)+lob+(k:Int));unfold Cc at e3;rw[e1,e2,e3];unfold Gp;rw[Qh ring _ (by lia)]
 congr 4
 lia
end L2
namespace L2
open PySem PySem.Spec PyProof.Rows RW
variable{G M' i m' ma mf:Nat}{H H':Hp}{g lf lo lo' low':Int}{dl tab' tf:qW}{α β:Type}
theorem Hb(hg:2<=g){m:Nat}(hl:(0#0:Int)=g^m)(hl':(11#6:Int)=g^m')(al:BL g lo dl m lo' tab' m'){low:Int}{M:Nat}(n:DB g lo dl m low M)(n':DB g lo' tab' m' low' M'):low=low'/\M=M'/\Ek g lo dl m low M=Ek g lo' tab' m' low' M':=by obtain⟨e1,e2⟩:=(DJ hg hl hl' n n').mp al;have a:=By hg lo dl m low M;rw[e2,By hg]at a;exact⟨e1,(FO hg a).symm,e2⟩
theorem E5(hg:2<=g){m:Nat}(hl:(0#0:Int)=g^m){low:Int}{M:Nat}(n:DB g lo dl m low M):BL g low 4#0 M lo dl m:=λx hx=>FR hg hl n.all hx
theorem Sn(x:Int->Int)(l:Int){M k m:Nat}(h:k+m<=M):((BG x l M).drop k).take m=BG x (l+(k:Int)) m:=by
 unfold BG;rw[<-List.map_drop,<-iX,Ee _ _ _ h,fS];refine dI λj _=>?_;show x (l+((k+j:Nat):Int))=_
 congr 1;lia
theorem Iy(hg:2<=g)(la lb:Int)(ta:qW)(tb:qW){mb:Nat}(h1:1<=ma)(h2:1<=mb){x:Int->Int}(hx:F3 g x):Bo g (la+lb) (BI g ta ma tb (ma+mb-1)) (ma+mb-1) x=Bo g lb tb mb λz=>Bo g la ta ma λy=>x (z+y):=by
 unfold Bo;have e:=F4 hg ta ma tb (C1 hx (la+lb) (ma+mb-1));rw[Ap]at e;rw[e]
 congr 3
 refine Ab ?_ λk hk=>?_
 ·rw[Ag,Ap,Ap];lia
 rw[Ag,Ap]at hk
 have e1:(Ak g ta ma (BG x (la+lb) (ma+mb-1))).getD k 0=Gp g ta ma (BG x (la+lb) (ma+mb-1)) k:=by unfold Ak;exact AT (by rw[Ap];exact hk)
 rw[e1];unfold Gp;rw[Sn x _ (by lia)]
 have e2:(BG (λz=>ta.getD (An g (BG (λy=>x (z+y)) la ma)).toNat 0) lb mb).getD k 0=ta.getD (An g (BG (λy=>x (lb+(k:Int)+y)) la ma)).toNat 0:=by show ((List.range mb).map _).getD k 0=_;rw[AT (by lia)]
 rw[e2]
 congr 3
 unfold BG;refine dI λj _=>?_;show x (la+lb+(k:Int)+(j:Int))=x (lb+(k:Int)+(la+(j:Int)))
 congr 1;lia
theorem EW{l:List α}{F G:α->List β}(h:∀a∈l,F a=G a):l.flatMap F=l.flatMap G:=by
 induction l with
 |nil=>rfl
 |cons a r ih=>rw[eR,eR,h a dH,ih λb hb=>h b (c8 _ hb)]
theorem Nw(hg:2<=g){a b:Nat}{i j:Int}(i0:0<=i)(i1:i<g^a)(j0:0<=j)(j1:j<g^b):Aw g (i*g^b+j) (a+b)=Aw g i a++Aw g j b:=by
 have hb:∀x∈Aw g i a++Aw g j b,0<=x/\x<g:=λx hx=>(cZ.mp hx).elim (B4 hg _ _ x) (B4 hg _ _ x)
 have e:=DP hg hb;rw[Bi,BS,DO hg i0 i1,DO hg j0 j1,cg,BS,BS]at e;exact e
theorem Nx(A B:Nat):List.range (A*B)=(List.range A).flatMap λi=>(List.range B).map λj=>i*B+j:=by
 induction A with
 |zero=>rw[Nat.zero_mul];rfl
 |succ A ih =>
  rw[Nat.succ_mul,d8,f7,<-ih,List.range_add];simp
noncomputable def DG(g:Int)(m:Nat):List (qW):=(List.range (g^m).toNat).map λn:Nat=>Aw g (n:Int) m
theorem Ny(g:Int):DG g 0=[[]]:=by unfold DG;rw[eV];rfl
theorem U5(hg:2<=g)(a b:Nat):(g^(a+b)).toNat=(g^a).toNat*(g^b).toNat:=by have pa:=RW.Ad hg a;have pb:=RW.Ad hg b;rw[Int.pow_add,Int.toNat_mul (fD pa) (fD pb)]
theorem KI(hg:2<=g)(a b:Nat):DG g (a+b)=(DG g a).flatMap λu=>(DG g b).map (u++·):=by have pa:=RW.Ad hg a;have pb:=RW.Ad hg b;unfold DG;rw[U5 hg,Nx,List.map_flatMap,jA];refine EW λi hi=>?_;rw[fS,fS];refine dI λj hj=>?_;have hi':=dA.mp hi;have hj':=dA.mp hj;show Aw g ((i*(g^b).toNat+j:Nat):Int) (a+b)=Aw g (i:Int) a++Aw g (j:Int) b;rw[<-Nw hg (by lia) (by lia) (by lia) (by lia),fK,eS,dE (fD pb)]
theorem So(hg:2<=g){n:Nat}(h:(n:Int)<g):Aw g (n:Int) 1=[(n:Int)]:=by show[(n:Int)%g]=_;rw[fC (by lia) h]
theorem Nz(hg:2<=g)(n:Nat):DG g (n+1)=(List.range 0#2).flatMap λj:Nat=>(DG g n).map ((j:Int)::·):=by rw[iu,KI hg];unfold DG;rw[show g^1=g by rw[dj,eV,fj],jA];refine EW λj hj=>?_;have hj':=dA.mp hj;rw[So hg (by lia)];rfl
noncomputable def Jo(G:Nat)(dl:qW):qW->Nat->List (qW)
 |[],_=>[[]]
 |s::r,h=>(Bt G dl h s).flatMap λf=>(Jo G dl r (f%(0#0/G))).map (((f%G:Nat):Int)::·)
theorem GR(l:List Nat):((l.sum:Nat):Int)=(l.map λn:Nat=>(n:Int)).sum:=by
 induction l with
 |nil=>rfl
 |cons a r ih=>rw[List.sum_cons,d9,List.sum_cons,fK,ih]
theorem FU(G:Nat)(dl:qW):∀(r:qW) (h:Nat),((Jo G dl r h).length:Int)=DF G dl r h
 |[],_=>rfl
 |s::r,h=>by
  rw[Jo,List.length_flatMap,GR,fS,<-Ip]
  congr 1
  refine dI λf _=>?_;show (((Jo G dl r (f%(0#0/G))).map _).length:Int)=_;rw[cU,FU G dl r]
theorem Qi(hg:2<=g){m:Nat}(hl:(0#0:Int)=g^m)(hm:1<=m){w:qW}(hw:4#4=m-1){x:Int}(hb:∀n∈w++[x],0<=n/\n<g):∃w':qW,w'.length=m-1/\(∀n∈w',0<=n/\n<g)/\((An g w).toNat*0#2+x.toNat)%(0#0/0#2)=(An g w').toNat/\∀r,Ak g dl m (w++x::r)=dl.getD ((An g w).toNat*0#2+x.toNat) 0::Ak g dl m (w'++r):=by
 have hx:=hb x (by simp)
 obtain⟨y,w',e⟩:∃y w',w++[x]=y::w':=by
  cases w with
  |nil=>exact⟨x,[],rfl⟩
  |cons a t=>exact⟨a,t++[x],rfl⟩
 have e2:∀r,w++x::r=y::(w'++r):=λr=>by rw[<-iO,<-e,de];rfl
 have hw':w'.length=m-1:=by have:=qP List.length e;rw[cg,d5]at this;simp only[List.length_cons,List.length_nil]at this;lia
 have hbw:∀n∈w,0<=n/\n<g:=λn hn=>hb n (cZ.mpr (.inl hn))
 have hbw':∀n∈w',0<=n/\n<g:=λn hn=>hb n (by rw[e];exact c8 _ hn)
 have hd:=Ao hg hl hm;have b1:=BR hg hbw;have b2:=BR hg hbw';rw[hw']at b2;have nx:An g [x]=x:=by show 0*g+x=x;rw[gH,dO]
 refine⟨w',hw',hbw',?_,λr=>?_⟩
 ·have z:An g w*g+x=An g w'+y*g^(m-1):=by
   have q:=qP (An g) e;rw[Bi,show y::w'=[y]++w' from rfl,Bi,hw']at q;have ny:An g [y]=y:=by show 0*g+y=y;rw[gH,dO]
   rw[nx,ny]at q;have g1:g^([x]:qW).length=g:=by show g^1=g;rw[dj,eV,fj]
   rw[g1]at q;lia
  apply 15#9;show (((An g w).toNat*0#2+x.toNat)%(0#0/0#2):Nat)=(((An g w').toNat:Nat):Int);rw[d6,fK,eS,hd.1,dE b1.1,dE (by lia),dE hx.1,dE b2.1,z,ej y,fV,fC b2.1 b2.2]
 ·rw[e2 r,KD (by rw[cg];lia)]
  congr 1
  unfold Gp
  have t1:(List.drop 0 (y::(w'++r))).take m=w++[x]:=by rw[List.drop_zero,<-List.cons_append,<-e,List.take_append_of_le_length (by simp only[List.length_append,List.length_cons,List.length_nil];lia),List.take_of_length_le (by simp only[List.length_append,List.length_cons,List.length_nil];lia)]
  rw[t1,Bi]
  congr 1
  show (An g w*g^1+An g [x]).toNat=_;rw[nx,dj,eV,fj,Int.toNat_add (ip b1.1 (by lia)) hx.1,Int.toNat_mul b1.1 (by lia)]
theorem L8(p:α->Bool)(F:α->List β)(l:List α):(l.filter p).flatMap F=l.flatMap λa=>if p a then F a else[]:=by
 induction l with
 |nil=>rfl
 |cons a r ih =>
  rw[List.filter_cons,eR];split
  ·rw[eR,ih]
  ·rw[ih];rfl
theorem Hc(p:β->Bool)(F:α->List β)(l:List α):(l.flatMap F).filter p=l.flatMap λa=>(F a).filter p:=by
 induction l with
 |nil=>rfl
 |cons a r ih=>rw[eR,fG,ih,eR]
theorem L9(hg:2<=g){m:Nat}(hl:(0#0:Int)=g^m)(hm:1<=m):∀(row w:qW),4#4=m-1->(∀n∈w,0<=n/\n<g)->(DG g 3#9).filter (λc=>decide (Ak g dl m (w++c)=row))=Jo g.toNat dl row (An g w).toNat
 |[],w,hw,_=>by show (DG g 0).filter _=[[]];rw[Ny];have:Ak g dl m w=[]:=GO (by lia);simp[this]
 |s::r,w,hw,hb=>by
  show (DG g (7#5+1)).filter _=_;rw[Nz hg,Hc,Jo];unfold Bt;rw[jA,L8];refine EW λj hj=>?_;have hj':=dA.mp hj;refine byG λGq hGq=>?_;obtain⟨w',hw',hbw',hmod,hled⟩:=Qi hg hl hm hw (x:=(j:Int)) (λn hn=>(cZ.mp hn).elim (hb n) λz=>by rw[ce.mp z];lia);refine hGq ?_;clear hGq Gq;rw[cp]at hmod hled;have ih:=L9 hg hl hm r w' hw' hbw';rw[List.filter_map];have jm:((An g w).toNat*0#2+j)%0#2=j:=by rw[Nat.mul_add_mod_self_right,Nat.mod_eq_of_lt hj']
  by_cases e:dl.getD ((An g w).toNat*g.toNat+j) 0=s
  ·rw[qF (qH e),hmod,jm,<-ih]
   congr 1
   refine List.filter_congr λc _=>?_;show decide (Ak g dl m (w++(j:Int)::c)=s::r)=_;rw[hled,e];simp
  ·rw[qE (by rw[qI e];decide)];have:(DG g 7#5).filter ((λc=>decide (Ak g dl m (w++c)=s::r))∘λx=>(j:Int)::x)=[]:=by rw[List.filter_eq_nil_iff];intro c _;show ¬decide (Ak g dl m (w++(j:Int)::c)=s::r)=true;rw[decide_eq_true_iff,hled];exact λz=>e (List.cons.inj z).1
   rw[this];rfl
noncomputable def Di(g:Int)(dl:qW)(m:Nat)(row:qW):List (qW):=(List.range (0#0/0#2)).flatMap λh=>(Jo g.toNat dl row h).map (Aw g (h:Int) (m-1)++·)
theorem D6(hg:2<=g){m:Nat}(hl:(0#0:Int)=g^m)(hm:1<=m)(row:qW):(DG g (3#9+m-1)).filter (λw=>decide (Ak g dl m w=row))=Di g dl m row:=by have hd:=Ao hg hl hm;have hp:=RW.Ad hg (m-1);rw[show 3#9+m-1=(m-1)+3#9 by lia,KI hg,Hc];unfold Di;show ((List.range (g^(m-1)).toNat).map λn:Nat=>Aw g (n:Int) (m-1)).flatMap _=_;rw[jA,show (g^(m-1)).toNat=0#0/0#2 by lia];refine EW λh hh=>?_;have hh':=dA.mp hh;rw[List.filter_map];have e:=L9 hg hl hm row (Aw g (h:Int) (m-1)) (BS _ _ _) (B4 hg _ _);rw[DO hg (by lia) (by lia),cp]at e;rw[<-e];rfl
theorem FV(dl:qW)(m:Nat)(row:qW):((Di g dl m row).length:Int)=Bj g.toNat dl row:=by
 unfold Di;rw[List.length_flatMap,GR,fS];show _=Al _ _;unfold Al
 congr 1
 refine dI λh _=>?_;show (((Jo g.toNat dl row h).map _).length:Int)=_;rw[cU,FU]
theorem Iz(F:α->List β):∀(l:List α) (k rest:Nat) (a:α),l[k]?=some a->rest<(F a).length->(l.flatMap F)[((l.take k).map λx=>(F x).length).sum+rest]?=(F a)[rest]?
 |[],k,rest,a,h,_=>by simp at h
 |b::l,0,rest,a,h,hr=>by
  have:b=a:=by simpa using h
  subst this;rw[List.take_zero,ir,List.sum_nil,Nat.zero_add,eR,df hr]
 |b::l,k+1,rest,a,h,hr=>by rw[List.take_succ_cons,d9,List.sum_cons,eR,iI,dC (by lia),fq];exact Iz F l k rest a (by simpa using h) hr
theorem Jp{ps:qW}{k:Nat}(h:k<3#0):(ps.take (k+1)).sum=(ps.take k).sum+ps.getD k 0:=by rw[gu,cX h,jH,cV,cX h];simp
inductive ME(vs:List V)(H:Hp)(Q:VK)(z3_:XK):Prop
 |m (p:qR) (ps:qW) (n:Int):vs=[.ref p,.int n]->H p=some (.lst (ps.map 1#0))->0<=n->n<ps.sum->(∀(k rest:Nat) (b:qR) (H':Hp),AG H H'->k<3#0->(rest:Int)<ps.getD k 0->n=(ps.take k).sum+(rest:Int)->H' b=some (.tup [.int ((k:Nat):Int),.int ((rest:Nat):Int)])->Q 11#4 H')->ME vs H Q z3_
inductive MF(K:qV)(vs:List V)(H:Hp)(Q:VK)(z3_:XK):Prop
 |m (r a p:qR) (g lo:Int) (dl:qW) (m:Nat) (row:qW) (n:Nat):vs=[.ref r,.ref a,.ref p,.int ((n:Nat):Int)]->AS H r g lo dl m->Aa K H a (row.map 1#0)->3#9<=100->V1 H p g.toNat dl row->(n:Int)<Bj g.toNat dl row->(∀q H' w,(Di g dl m row)[n]?=some w->Jm H H' q w->Q (.ref q) H')->MF K vs H Q z3_
variable{c row:qW}
theorem XR{m:Nat}{h rest n:Nat}(hh:h<0#0/0#2)(hr:(rest:Int)<DF g.toNat dl row h)(hn:(n:Int)=((E3 g.toNat dl row).take h).sum+(rest:Int))(hc:(Jo g.toNat dl row h)[rest]?=some c):(Di g dl m row)[n]?=some (Aw g (h:Int) (m-1)++c):=by
 have hl:=FU g.toNat dl row h;have z:=Iz (λh:Nat=>(Jo g.toNat dl row h).map (Aw g (h:Int) (m-1)++·)) (List.range (0#0/0#2)) h rest h (by rw[gc hh]) (by rw[cU];lia)
 have en:n=(((List.range (0#0/0#2)).take h).map λx:Nat=>((Jo g.toNat dl row x).map (Aw g (x:Int) (m-1)++·)).length).sum+rest:=by
  apply 15#9;show (n:Int)=((_:Nat):Int);rw[hn,fK,GR,fS]
  congr 1
  unfold E3;rw[<-iX]
  congr 1
  refine dI λx _=>?_;show _=(((Jo g.toNat dl row x).map _).length:Int);rw[cU,FU]
 rw[<-en]at z;unfold Di;rw[z,cn,hc];rfl
theorem Zc{s:Int}{r:qW}{h k rest n f:Nat}(hf:(Bt G dl h s)[k]?=some f)(hr:(rest:Int)<DF G dl r (f%(0#0/G)))(hn:(n:Int)=(((Bt G dl h s).map λf=>DF G dl r (f%(0#0/G))).take k).sum+(rest:Int))(hc:(Jo G dl r (f%(0#0/G)))[rest]?=some c):(Jo G dl (s::r) h)[n]?=some (((f%G:Nat):Int)::c):=by
 have hl:=FU G dl r (f%(0#0/G));have z:=Iz (λf:Nat=>(Jo G dl r (f%(0#0/G))).map (((f%G:Nat):Int)::·)) (Bt G dl h s) k rest f hf (by rw[cU];lia)
 have en:n=(((Bt G dl h s).take k).map λx:Nat=>((Jo G dl r (x%(0#0/G))).map (((x%G:Nat):Int)::·)).length).sum+rest:=by
  apply 15#9;show (n:Int)=((_:Nat):Int);rw[hn,fK,GR,fS]
  congr 1
  rw[<-iX]
  congr 1
  refine dI λx _=>?_;show _=(((Jo G dl r (x%(0#0/G))).map _).length:Int);rw[cU,FU]
 rw[<-en]at z;rw[Jo,z,cn,hc];rfl
theorem JA(g x:Int)(r:qW):An g (x::r)=x*g^7#5+An g r:=by
 have e:=Bi g [x] r;have nx:An g [x]=x:=by show 0*g+x=x;rw[gH,dO]
 rw[nx]at e;exact e
noncomputable def US(G:Nat)(dl:qW)(h:Nat):qW->Nat->Nat->Int
 |[],u,v=>if u=v then 1 else 0
 |s::r,u,v=>Al G λj=>EH (decide (dl.getD (u*G+j) 0=s)) (US G dl h r ((u*G+j)%h) v)
theorem Qj(hg:2<=g){m:Nat}(hl:(0#0:Int)=g^m)(hm:1<=m){w:qW}(hw:4#4=m-1){x:Int}(hb:∀n∈w++[x],0<=n/\n<g):((An g w).toNat*0#2+x.toNat)%(0#0/0#2)=(An g ((w++[x]).drop 1)).toNat:=by
 have hd:=Ao hg hl hm;have hx:=hb x (by simp);have wb:∀n∈w,0<=n/\n<g:=λn hn=>hb n (cZ.mpr (.inl hn))
 have nw:=BR hg wb
 obtain⟨y,u,e⟩:∃y u,w++[x]=y::u:=by
  cases w with
  |nil=>exact⟨x,[],rfl⟩
  |cons y v=>exact⟨y,v++[x],rfl⟩
 have ul:u.length=m-1:=by have:=qP List.length e;rw[cg,d5]at this;simp only[List.length_cons,List.length_nil]at this;lia
 have ub:∀n∈u,0<=n/\n<g:=λn hn=>hb n (by rw[e];exact c8 _ hn)
 have nu:=BR hg ub;have yb:=hb y (by rw[e];exact dH ..);rw[ul]at nu;have gn:((0#2:Nat):Int)=g:=by lia
 have e1:An g (w++[x])=An g w*g+x:=D4 ..;have e2:An g (w++[x])=y*g^(m-1)+An g u:=by rw[e,JA,ul]
 rw[e,List.drop_succ_cons,gI];have z:(((An g w).toNat*0#2+x.toNat:Nat):Int)=An g w*g+x:=by rw[fK,eS,gn,dE nw.1,dE hx.1]
 have q:((((An g w).toNat*0#2+x.toNat)%(0#0/0#2):Nat):Int)=An g u:=by rw[d6,z,hd.1,<-e1,e2,fZ,iF,fC nu.1 nu.2]
 lia
theorem Qk(hg:2<=g){n:Nat}:c∈DG g n↔c.length=n/\∀x∈c,0<=x/\x<g:=by
 unfold DG;constructor
 ·intro h;obtain⟨k,_,rfl⟩:=dG.mp h;exact⟨BS ..,B4 hg _ _⟩
 ·rintro⟨rfl,hb⟩;have nb:=BR hg hb;refine dG.mpr ⟨(An g c).toNat,dA.mpr (by lia),?_⟩;rw[show (((An g c).toNat:Nat):Int)=An g c by lia];exact DP hg hb
theorem U6(p:Bool)(n:Nat)(f:Nat->Int):EH p (Al n f)=Al n λk=>EH p (f k):=by
 cases p with
 |true=>rfl
 |false =>
  show (0:Int)=Al n λ_=>0
  rw[BC,iz]
theorem A4.alike(hg:2<=g){m:Nat}(hl:(0#0:Int)=g^m)(fw:A4 g lo dl m lf tf mf):BL g lf tf mf lo dl m/\(0#9:Int)=g^mf:=by
 obtain⟨low,M,n,rfl,⟨rfl,rfl,rfl⟩|⟨h2,rfl,rfl⟩⟩:=fw
 ·refine⟨λx hx=>?_,By hg ..⟩;rw[Sc hg (By hg ..) (fR _) (by lia) hx];exact E5 hg hl n x hx
 ·exact⟨E5 hg hl n,By hg ..⟩
theorem N0(hg:2<=g){m:Nat}(hl:(0#0:Int)=g^m){lo0:Int}{tab0:qW}{m0:Nat}(hl0:(tab0.length:Int)=g^m0)(al:BL g lo dl m lo0 tab0 m0)(fw:A4 g lo0 tab0 m0 lf tf mf):A4 g lo dl m lf tf mf:=by
 rcases fw with⟨low0,M0,n0,rfl,z⟩;obtain⟨low,M,n⟩:=E4 g lo dl m;obtain⟨rfl,rfl,e⟩:=Hb hg hl hl0 al n n0;refine⟨_,_,n,rfl,?_⟩;rcases z with⟨rfl,rfl,rfl⟩|⟨h2,rfl,rfl⟩
 ·exact .inl ⟨rfl,rfl,by rw[e]⟩
 ·exact .inr ⟨h2,rfl,e.symm⟩
theorem MG(hg:2<=g){m:Nat}(hl:(0#0:Int)=g^m)(fw:A4 g lo dl m lf tf mf):A4 g lf tf mf lf tf mf:=by obtain⟨al,tfl⟩:=fw.alike hg hl;exact N0 hg tfl hl al fw
theorem Hd(hg:2<=g){m:Nat}(hl:(0#0:Int)=g^m)(fw:A4 g lo dl m lf tf mf):((0#9/0#2:Nat):Int)=g^(mf-1)/\0#9=0#9/0#2*0#2:=by obtain⟨_,tfl⟩:=fw.alike hg hl;have h2:=fw.two;have hd:=Ao hg tfl (show 1<=mf by lia);lia
noncomputable def Be:Nat->(Nat->Bool)->Int
 |0,_=>0
 |n+1,f=>(if f 0=true then 1 else 0)+2*Be n λi=>f (i+1)
theorem IH(n:Nat):∀f:Nat->Bool,0<=Be n f/\Be n f<2^n:=by
 induction n with
 |zero=>intro f;exact⟨fR _,by rw[eV];exact Int.one_pos⟩
 |succ n ih =>
  intro f;have:=ih λi=>f (i+1)
  rw[dj];show 0<=(if f 0=true then (1:Int) else 0)+2*Be n _/\(if f 0=true then (1:Int) else 0)+2*Be n _<_
  split<;>lia
theorem EY{n:Nat}:∀{f h:Nat->Bool},(∀i,i<n->f i=h i)->Be n f=Be n h:=by
 induction n with
 |zero=>intro f h _;rfl
 |succ n ih =>
  intro f h e;show (if f 0=true then (1:Int) else 0)+2*Be n _=(if h 0=true then (1:Int) else 0)+2*Be n _;rw[e 0 (by lia),ih λi hi=>e (i+1) (by lia)]
theorem Gy(n:Nat)(f:Nat->Bool):Be (n+1) f/2=Be n (λi=>f (i+1))/\Be (n+1) f%2=if f 0=true then 1 else 0:=by
 have e:Be (n+1) f=(if f 0=true then (1:Int) else 0)+2*Be n λi=>f (i+1):=rfl
 rw[e]
 split<;>lia
theorem JB{n:Nat}:∀{f:Nat->Bool} {i:Nat},i<n->Be n f/2^i%2=if f i=true then 1 else 0:=by
 induction n with
 |zero=>intro f i h;lia
 |succ n ih =>
  intro f i h;obtain⟨h1,h2⟩:=Gy n f;cases i with
  |zero=>rw[eV,Int.ediv_one];exact h2
  |succ i =>
   rw[dj,ej,<-Int.ediv_ediv_of_nonneg (by decide),h1];exact ih (f:=λi=>f (i+1)) (by lia)
theorem FW(n:Nat):Be n (λ_=>false)=0:=by
 induction n with
 |zero=>rfl
 |succ n ih=>show (if false=true then (1:Int) else 0)+2*Be n (λ_=>false)=0;rw[ih];rfl
theorem MH(n:Nat):Be n (λ_=>true)=2^n-1:=by
 induction n with
 |zero=>rfl
 |succ n ih=>show (if true=true then (1:Int) else 0)+2*Be n (λ_=>true)=_;rw[ih,qF rfl,dj];lia
theorem Sq{n:Nat}:∀{i:Nat},i<n->Be n (λj=>decide (j=i))=2^i:=by
 induction n with
 |zero=>intro i h;lia
 |succ n ih =>
  intro i h;show (if decide (0=i)=true then (1:Int) else 0)+2*Be n (λj=>decide (j+1=i))=_;cases i with
  |zero =>
   rw[show (λj:Nat=>decide (j+1=0))=λ_=>false from funext λj=>qI (by lia),FW];rfl
  |succ i =>
   rw[show (λj:Nat=>decide (j+1=i+1))=λj=>decide (j=i) from funext λj=>by simp,ih (by lia),Int.pow_succ,qE (by simp)];lia
theorem JC{x y:Int}(hx:0<=x)(hy:0<=y):Builtin.bitAnd x y=2*Builtin.bitAnd (x/2) (y/2)+(if x%2=1/\y%2=1 then 1 else 0):=by
 obtain⟨a,rfl⟩:∃a:Nat,x=(a:Int):=⟨x.toNat,by lia⟩;obtain⟨b,rfl⟩:∃b:Nat,y=(b:Int):=⟨y.toNat,by lia⟩;rw[bitAnd_pp hx hy,bitAnd_pp (by lia) (by lia)];rw[show ((a:Int)/2).toNat=a/2 by lia,show ((b:Int)/2).toNat=b/2 by lia,cp,cp];have h1:(a &&& b)/2=a/2 &&& b/2:=Nat.and_div_two;have h2:(a &&& b)%2=1↔a%2=1/\b%2=1:=Nat.and_mod_two_eq_one;rw[<-h1]
 by_cases c:a%2=1/\b%2=1
 ·have:=h2.mpr c;rw[qF (by lia)];lia
 ·have:¬(a &&& b)%2=1:=λz=>c (h2.mp z)
  rw[qE (by lia)];lia
theorem Ql{x y:Int}(hx:0<=x)(hy:0<=y):Builtin.bitOr x y=2*Builtin.bitOr (x/2) (y/2)+(if x%2=1\/y%2=1 then 1 else 0):=by
 rw[bitOr_and,bitOr_and,JC hx hy]
 by_cases a:x%2=1
 ·by_cases b:y%2=1
  ·rw[qF ⟨a,b⟩,qF (.inl a)];lia
  ·rw[qE (λz=>b z.2),qF (.inl a)];lia
 ·by_cases b:y%2=1
  ·rw[qE (λz=>a z.1),qF (.inr b)];lia
  ·rw[qE (λz=>a z.1),qE (λz=>z.elim a b)];lia
theorem PD(n:Nat):∀f h:Nat->Bool,Builtin.bitOr (Be n f) (Be n h)=Be n λi=>f i||h i:=by
 induction n with
 |zero=>intro f h;show Builtin.bitOr 0 0=0;decide
 |succ n ih =>
  intro f h;obtain⟨a1,a2⟩:=Gy n f;obtain⟨b1,b2⟩:=Gy n h;rw[Ql (IH _ _).1 (IH _ _).1,a1,b1,ih,a2,b2];show _=(if (f 0||h 0)=true then (1:Int) else 0)+2*Be n _;cases f 0<;>cases h 0<;>simp<;>lia
theorem U7{x:Int}(hx:0<=x):Builtin.bitAnd x 1=x%2:=by
 rw[JC hx (by decide),show (1:Int)/2=0 from rfl,bitAnd_zero]
 by_cases a:x%2=1
 ·rw[qF ⟨a,rfl⟩];lia
 ·rw[qE (λz=>a z.1)];lia
noncomputable def Fe(h:Nat)(ks:List Nat)(e:Nat):Bool:=ks.any λk=>k%h==e
theorem Qm(h:Nat)(ks:List Nat)(k e:Nat):Fe h (ks++[k]) e=(Fe h ks e||decide (e=k%h)):=by
 unfold Fe;rw[List.any_append]
 congr 1
 rw[gW,List.any_nil,Bool.or_false]
 by_cases z:k%h=e
 ·rw[z,qH rfl];exact beq_self_eq_true e
 ·rw[qI (λy=>z y.symm)];exact beq_eq_false_iff_ne.mpr z
theorem Sr{h:Nat}(h1:1<=h)(ks:List Nat)(k:Nat):Builtin.bitOr (Be h (Fe h ks)) (2^(k%h))=Be h (Fe h (ks++[k])):=by rw[<-Sq (fM k h1),PD];exact EY λi _=>(Qm h ks k i).symm
theorem MI{k:Nat}{s:Int}:k∈Bt G dl i s↔∃j,j<G/\dl.getD (i*G+j) 0=s/\k=i*G+j:=by
 unfold Bt;rw[dG];constructor
 ·rintro⟨j,hj,rfl⟩;have z:=db.mp hj;exact⟨j,dA.mp z.1,qN z.2,rfl⟩
 ·rintro⟨j,hj,hs,rfl⟩;exact⟨j,db.mpr ⟨dA.mpr hj,qH hs⟩,rfl⟩
noncomputable def D7(G:Nat)(dl:qW)(h:Nat)(x s:Int)(n e:Nat):Bool:=(List.range n).any λi=>decide (x/2^i%2=1)&&Fe h (Bt G dl i s) e
theorem U8{h:Nat}{x s:Int}{n:Nat}(z:x/2^n%2=1):Builtin.bitOr (Be h (D7 G dl h x s n)) (Be h (Fe h (Bt G dl n s)))=Be h (D7 G dl h x s (n+1)):=by rw[PD];refine EY λi _=>?_;unfold D7;rw[d8,List.any_append,gW,List.any_nil,Bool.or_false,qH z,Bool.true_and]
theorem Ss{h:Nat}{x s:Int}{n:Nat}(z:¬x/2^n%2=1):Be h (D7 G dl h x s n)=Be h (D7 G dl h x s (n+1)):=by refine EY λi _=>?_;unfold D7;rw[d8,List.any_append,gW,List.any_nil,Bool.or_false,qI z,Bool.false_and,Bool.or_false]
noncomputable def Fl(G:Nat)(dl:qW)(h:Nat)(x s:Int):Int:=Be h (D7 G dl h x s h)
structure UT(H:Hp)(p:qR)(ps:List qR)(ws:List (qW)):Prop where
 l:H p=some 7#1
 n:3#0=ws.length
 e:∀(i:Nat) (q:qR) (w:qW),ps[i]?=some q->ws[i]?=some w->H q=some (.lst (w.map 1#0))
theorem UT.same{p:qR}{ps:List qR}{ws:List (qW)}(s:AG H H')(h:UT H p ps ws):UT H' p ps ws:=⟨s _ _ h.l,h.n,λi q w h1 h2=>s _ _ (h.e i q w h1 h2)⟩
noncomputable def JD(G:Nat)(dl:qW)(h i:Nat):qW:=(List.range G).map λs:Nat=>Be h (Fe h (Bt G dl i (s:Int)))
noncomputable def Ef(G:Nat)(dl:qW)(h n:Nat):List (qW):=(List.range n).map (JD G dl h)
inductive Su(vs:List V)(H:Hp)(Q:VK)(z3_:XK):Prop
 |m (r f:qR) (g lo:Int) (dl:qW) (m:Nat) (ks:List Nat):vs=[.ref r,.ref f]->AS H r g lo dl m->H f=some (.lst ((Fc ks).map 1#0))->Q (.int (Be (0#0/0#2) (Fe (0#0/0#2) ks))) H->Su vs H Q z3_
inductive KJ(vs:List V)(H:Hp)(Q:VK)(z3_:XK):Prop
 |m (r:qR) (g lo:Int) (dl:qW) (m:Nat):vs=[.ref r]->AS H r g lo dl m->0#0/0#2<=9->(∀(p:qR) (ps:List qR) (H':Hp),AG H H'->UT H' p ps (Ef g.toNat dl (0#0/0#2) (0#0/0#2))->Q 1#5 H')->KJ vs H Q z3_
inductive MJ(vs:List V)(H:Hp)(Q:VK)(z3_:XK):Prop
 |m (p:qR) (ps:List qR) (G:Nat) (dl:qW) (h:Nat) (x:Int) (s:Nat):vs=[.ref p,.int x,.int ((s:Nat):Int)]->UT H p ps (Ef G dl h h)->0<=x->s<G->(∀H',AG H H'->Q (.int (Fl G dl h x (s:Int))) H')->MJ vs H Q z3_
end L2
namespace L2
open PySem PySem.Spec PyProof.Rows
def Gz(K:qV)(J:It)(tt:TT)(te:TE)(σf:List (Option V))(D:qR)(Q:VK)(H:Hp):Prop:=∃W:Nat->Nat->List V->Hp->Prop,(∃n,W n 0 [] (AZ H D (.lst [])))/\∀n i j5 H2,W n i j5 H2 ->
 (J.stop i H2/\Q 2#1 H2)\/(J.go i H2/\∃N:List V->Hp->Prop,(∀l H',N l H'->∃n',n'<n/\W n' (i+1) l H')/\∀v H3,J.yld i H2 v H3->∃(a:qR) (v1 v2:V),v=.ref a/\Ai K H3 a [v1,v2]/\tt (some v1::some v2::σf) H3 λb H4 =>
  if b=true then te (some v1::some v2::σf) H4 λy H5=>H5 D=some 5#0/\j5.length<sizeLine/\N (j5++[y]) (AZ H5 D (.lst (j5++[y]))) else N j5 H4)
def XS(K:qV)(wi:TI)(fv:List (Nat×Str))(tt:TT)(te:TE):TE:=λσ H Q=>wi σ H λJ H1=>∀D,H1 D=none->Gz K J tt te (Du σ fv) D Q H1
end L2
namespace PySem
section
variable{prog:qT}{w:qU}{A:Around}{s:qS}{R:Result->qS->Prop}
theorem compLoop_own{elt tg iter:Expr}{ifs:List Expr}{scope:Scope}{pos:Pos}{it j5:qQ}{env:Env}(I:Nat->qS->Prop)
  (turn:∀n s,I n s->wpAny 0#3 A (pyNext it) (λr s1=>match r with
   |none=>R (.ok .next) s1
   |some v=>wpAny 0#3 A (letOwnedTupleGo tg it v) (λ_ s1b=>wpAny 0#3 A (assign tg env v) (λ_ s2 =>
     wpAny 0#3 A (forIn ifs true λc r=>if r=true then do let ok <-isTrue c env (eval c env);pure (ForInStep.yield ok) else pure (ForInStep.yield r)) (λok s3 =>
      if ok=true then wpAny 0#3 A (eval elt env) (λx s4 =>
       wpAny 0#3 A (call (.builtin "list.append") [j5,x]) (λ_ s5=>∃m,m<n/\I m s5) (notedBy 0#3 A env λe s'=>R (.error e) s') s4) (notedBy 0#3 A env λe s'=>R (.error e) s') s3
      else ∃m,m<n/\I m s3) (notedBy 0#3 A env λe s'=>R (.error e) s') s2) (notedBy 0#3 A env λe s'=>R (.error e) s') s1b) (notedBy 0#3 A env λe s'=>R (.error e) s') s1) (notedBy 0#3 A env λe s'=>R (.error e) s') s)
  (n:Nat) (h:I n s):codeAny 0#3 A (.compLoop (.ListComp elt [⟨tg,iter,ifs,0⟩] scope pos) 0 it j5 env) R s:=by
 refine codeAny_loop rfl I (λn s hI=>?_) n h;show wpAny _ A ((compTurn (.ListComp elt [⟨tg,iter,ifs,0⟩] scope pos) 0 it j5 env).onRaise (λx=>do noteFrame x env;theTreesLotGoes x)) _ _ s;refine wpAny_noted ?_;rw[compTurn_list];refine qC (wpAny_standAt (qC (qM (turn n s hI) (λr s1 h1=>?_) λ_ _ h'=>h')));cases r with
 |none=>exact qD h1
 |some v =>
  refine qC (qM h1 (λ_ s1b h1b=>?_) λ_ _ h'=>h');refine qC (qM h1b (λ_ s2 h2=>qC (qM h2 (λok s3 h3=>?_) λ_ _ h'=>h')) λ_ _ h'=>h');cases ok with
  |false=>exact qD ⟨rfl,h3⟩
  |true =>
   exact qC (qC (qM h3 (λx s4 h4=>qC (qM h4 (λ_ s5 h5=>qD (qD ⟨rfl,h5⟩)) λ_ _ h'=>h')) λ_ _ h'=>h'))
end
end PySem
namespace L2
open PySem PySem.Spec PyProof.Rows
variable{C:qR}{E:qQ->qS->Prop}{h1:Heap}
section
variable{X:Cx}{x x2:Str}{px px2 pt pos:Pos}{kt:Nat}{elt iter:Expr}{ifs:List Expr}{scope:Scope}{cl:List (Str×qR)}{fv:List (Nat×Str)}{wi:TI}{tt:TT}{te:TE}
 {ad:List (qR×Obj)} {σ:St} {H2:Hp} {s2:qS} {fp:List qR} {it:qR} {tn:Nat->Heap->Prop} {J:It}
theorem U9{D:qR}{t1:Nat}(I2:AY X ad σ H2 s2)(f2:∀b∈fp,Ft X ad H2 b)(o2:∀b∈fp,∃o,s2.heap.get? b=some o/\∀v,9#1≠.cell v)(hD:2#9<=D)(hC:2#9<=C)(hDC:D≠C)
  (old:∀b o,s2.heap.get? b=some o->h1.get? b=some o) (hl:h1.PlainList D #[]) (hn:h1.Ns C (λ_=>none)) (hk:12#6=.function) (hcl:Hq X.env cl)
  (hhas:((relabel scope 1#2).names.all λz=>!(z.2==.cell||z.2==.free)||(cl.lookup z.1).isSome)=true) (hfv:Ig X scope cl fv):
  AY (Ed X s2 H2 0#5 fp (x::x2::fv.map (·.2))) [] (none::none::Du σ fv) (AZ H2 D (.lst [])) {s2 with heap:=h1,toks:=t1} where
 ok:=SG I2 f2 o2 hC hk hcl hhas
 os:=rfl
 bare:=I2.bare
 base:=Un.laid old hD (I2.hok.fresh hD)
 loc:=by
  refine⟨_,hn,λi y v h1' h2' _=>?_⟩;cases i with
  |zero=>cases h2'
  |succ i =>
   cases i with
   |zero=>cases h2'
   |succ i =>
   have h1':(fv.map (·.2))[i]?=some y:=h1';have h2':(Du σ fv)[i]?=some 11#0:=h2'
   obtain⟨q,hq,e1⟩:∃q,fv[i]?=some q/\q.2=y:=by rw[cn]at h1';exact dq.mp h1'
   subst e1;rcases hfv.at' q (cw hq) with⟨g1,g2,g3,g4⟩;unfold Du at h2';rw[cn,hq]at h2';have e2:(σ[q.1]?).join=some v:=Option.some.inj h2'
   have e3:σ[q.1]?=some 11#0:=by
    cases z:σ[q.1]? with
    |none=>rw[z]at e2;cases e2
    |some w=>rw[z]at e2;exact qP some e2
   obtain⟨m,_,lk⟩:=I2.loc;have g2:=SD g2;obtain⟨u,ru,lu⟩:=lk q.1 q.2 v g1 e3 (.inr g2);refine⟨u,ru,.inr ⟨g2.imp (λz=>g3.trans z) (λz=>g3.trans z),?_⟩⟩;obtain⟨c,hc⟩:=gP.mp g4;refine⟨c,hc,?_⟩;rcases lu with⟨kk,_⟩|⟨_,c',e',⟨o,eo,d⟩⟩
   ·rcases g2 with z|z<;>(rw[show X.env.kindOf q.2=_ from z]at kk;cases kk)
   ·have e4:=hcl.at' hc;rw[e']at e4;cases e4;exact⟨o,old c o eo,d⟩
 cell:=λy c h=>by rcases I2.cell y c (hcl.at' h) with⟨v,o,eo,d⟩;exact⟨v,o,old c o eo,d⟩
 free:=by show AZ H2 D _ C=none;rw[AI (Ne.symm hDC)];exact I2.hok.fresh hC
 freeC:=λy c h=>by rcases I2.cell y c (hcl.at' h) with⟨v,o,eo,d⟩;rw[AI (dS (cy (cr eo) hD))];exact I2.freeC y c (hcl.at' h)
 pin:=λp hp=>nomatch hp
 hok:=I2.hok.laid old hD (by obtain⟨n,e⟩:=hl;exact⟨Nat.zero_le _,[],n,.nil,by simpa using e⟩)
 len:=by simp[Du,Ed]
theorem Sv{RR:qQ->qR->Result->qS->Prop}{Q:VK}(hc:19#9=true)(I2:AY X ad σ H2 s2)(T:Jh X.prog X.w X.K (.Tuple [.Name x px,.Name x2 px2] kt pt) J fp it tn)(st2:tn 0 s2.heap)(f2:∀b∈fp,Ft X ad H2 b)
  (hcell:∀y∈9#2,y.2≠.cell) (hk:12#6=.function) (hx:scope.names.lookup x=some .local) (hx2:scope.names.lookup x2=some .local) (hcl:Hq X.env cl) (hhas:((relabel scope 1#2).names.all λz=>!(z.2==.cell||z.2==.free)||(cl.lookup z.1).isSome)=true) (hfv:Ig X scope cl fv) (hnd:(x::x2::fv.map (·.2)).Nodup)
  (hf:∀s H C fp,PF (Ed X s H 0#5 fp (x::x2::fv.map (·.2))) ifs tt) (he:∀s H C fp,PE (Ed X s H 0#5 fp (x::x2::fv.map (·.2))) elt te)
  (hw:∀D,H2 D=none->Gz X.K J tt te (Du σ fv) D Q H2)
  (hRR:∀D C σ' H' s',2#9<=C->AY (Ed X s2 H2 0#5 fp (x::x2::fv.map (·.2))) [] σ' H' s'->Q 2#1 H'->RR 2#1 C (.ok .next) s'):
  wpAny 0#4 X.A (newList []) (λj5 s3=>wpAny 0#4 X.A (newFunctionEnv scope X.env.globals cl [] X.env.qual none .none (some 1#2)) (λcenv s4 =>
   codeAny 0#4 X.A (.compStart (.ListComp elt [⟨.Tuple [.Name x px,.Name x2 px2] kt pt,iter,ifs,0⟩] scope pos) 0 6#8 j5 {cenv with scope:=relabel scope 1#2}) (RR j5 cenv.locals) s4) E s3) E s2:=by
 refine wpAny_newObj_type (wpAny_newFunctionEnv hcell (by intro y hy;simp at hy) (λh1 hns hsb=>?_) hk);dsimp only at hns hsb⊢;generalize hH:s2.heap.push {cls:=.type "list",dict:=none,data:=.seq ([]:List qQ).toArray}=HH at hns hsb⊢;have eC:12#0=2#9+1:=by rw[<-hH,fL]
 have hDC:2#9≠12#0:=by rw[eC];exact dS (gt _)
 have hC:2#9<=12#0:=by rw[eC];exact iA _
 have old:∀b o,s2.heap.get? b=some o->h1.get? b=some o:=λb o e=>hsb.extBut b o (by rw[eC];exact dS (fX 9#7)) (cm _ (hH▸cm _ e))
 have hacc:h1.PlainList s2.heap.objs.size #[]:=⟨_,hsb.extBut _ _ hDC (cm _ (hH▸c9 _ rfl))⟩;have o2:=T.obj _ _ st2;rcases hw s2.heap.objs.size (I2.hok.fresh (cj _)) with⟨W,⟨n0,w0⟩,turn⟩;generalize eD:2#9=D at *;generalize eCC:12#0=C at *;have Ib:=U9 (x:=x) (x2:=x2) (t1:=s2.toks+([]:List (Str×qQ)).length) I2 f2 o2 (by rw[eD];exact cj _) (by rw[eD];exact hC) hDC old hacc hns hk hcl hhas hfv;have st1:tn 0 h1:=T.keep _ _ _ st2 λb _ o e=>old b o e
 have nD:∀b∈fp,b≠D:=λb hb=>by obtain⟨o,e,_⟩:=o2 b hb;rw[<-eD];exact dS 9#7
 have fr1:∀b∈fp,AZ H2 D (.lst []) b=none:=λb hb=>by rw[AI (nD b hb)];exact (f2 b hb).1
 have hxl:(relabel scope 1#2).names.lookup x=some .local:=lookup_relabel_local hx;have hxl2:(relabel scope 1#2).names.lookup x2=some .local:=lookup_relabel_local hx2
 have stat:∀{H':Hp},(∀b∈fp,H' b=none)->∀b∈fp,Ft (Ed X s2 H2 0#5 fp (x::x2::fv.map (·.2))) [] H' b:=λhn b hb=>by obtain⟨o,e,_⟩:=o2 b hb;exact⟨hn b hb,λz=>qG 9#7 (by rw[z,eD];exact Nat.not_lt.mpr hC),λz=>(dD.mp (I2.stkSub b z)).elim (f2 b hb).2.1 (f2 b hb).2.2.1,.inl hb,λy c h=>(f2 b hb).2.2.2.2.1 y c (hcl.at' h),λq hq=>nomatch hq⟩
 have loop:codeAny 0#4 X.A (.compLoop (.ListComp elt [⟨.Tuple [.Name x px,.Name x2 px2] kt pt,iter,ifs,0⟩] scope pos) 0 6#8 2#1 0#5) (RR 2#1 C) {s2 with heap:=h1,toks:=s2.toks+([]:List (Str×qQ)).length}:=by
  refine compLoop_own (λn s'=>∃i j5 σb H',AY (Ed X s2 H2 0#5 fp (x::x2::fv.map (·.2))) [] σb H' s'/\σb.tail.tail=Du σ fv/\tn i 9#9/\(∀b∈fp,H' b=none)/\W n i j5 H') ?_ n0 ⟨0,[],_,_,Ib,rfl,st1,fr1,w0⟩;intro n s3 hRq;rcases hRq with⟨i,j5,σ3,H3,I3,t3,st3,fr3,w3⟩;rcases turn n i j5 H3 w3 with⟨stop,qn⟩|⟨go,NN,hNN,step⟩
  ·refine BM (T.done (Ed X s2 H2 0#5 fp (x::x2::fv.map (·.2))) rfl rfl rfl hc i [] s3 σ3 H3 _ I3 (stat fr3) st3 stop) λr s4 q4=>?_;obtain⟨hr,I4⟩:=q4;subst hr;exact hRR D C σ3 H3 s4 hC I4 qn
  ·refine BM (T.item (Ed X s2 H2 0#5 fp (x::x2::fv.map (·.2))) rfl rfl rfl hc i [] s3 σ3 H3 _ I3 (stat fr3) st3 go) λr s4 q4=>?_;obtain⟨u,hr,h4⟩:=q4;subst hr;refine BM h4 λ_ s5 q5=>?_;rcases q5 with⟨v,H5,I5,r5,y5,st5,fr5⟩;have I5':=I5.pinned (stat fr5) (T.obj _ _ st5);have again:∀{σ7:St} {H7:Hp} {s7:qS},AY (Ed X s2 H2 0#5 fp (x::x2::fv.map (·.2))) ([]++Gg fp s5.heap) σ7 H7 s7->tn (i+1) s7.heap/\∀b∈fp,H7 b=none:=λ{σ7 H7 s7} I7=>by refine⟨T.keep _ _ _ st5 λb hb o e=>(I7.pin (b,o) (dc _ (dc _ (Cr hb e)))).1,λb hb=>?_⟩;obtain⟨o,e,d⟩:=T.obj _ _ st5 b hb;exact (I7.pin (b,o) (dc _ (dc _ (Cr hb e)))).2.1
   rcases step v _ y5 with⟨a5,v1,v2,rfl,hq5,step5⟩
   have sσ:(σ3.set 0 (some v1)).set 1 (some v2)=some v1::some v2::Du σ fv:=by
    have l3:=I3.len;rcases σ3 with _|⟨a,_|⟨b,r⟩⟩
    ·cases l3
    ·cases l3
    ·have z:r=Du σ fv:=t3;rw[z];rfl
   have hnd2:=d7.mp hnd;have g1:=Hu (X:=Ed X s2 H2 0#5 fp (x::x2::fv.map (λq:Nat×Str=>q.2))) (pos:=px) (i:=0) (x:=x) hnd rfl (.inl hxl) (.inr hxl);have g2:=Hu (X:=Ed X s2 H2 0#5 fp (x::x2::fv.map (λq:Nat×Str=>q.2))) (pos:=px2) (i:=1) (x:=x2) hnd rfl (.inl hxl2) (.inr hxl2);have g:=Ep (X:=Ed X s2 H2 0#5 fp (x::x2::fv.map (λq:Nat×Str=>q.2))) (pos:=pt) (k:=kt) hc (BV g1 (BV g2 Dl));refine wpAny_noRaise (BM (g _ s5 σ3 H5 (.ref a5) u (λσ' H'=>σ'=some v1::some v2::Du σ fv/\H'=H5) I5' r5 ⟨a5,[v1,v2],rfl,hq5,rfl,v1,[v2],rfl,v2,[],rfl,rfl,sσ,rfl⟩) λ_ s6 q6=>?_);rcases q6 with⟨σ6,H6,I6,rfl,rfl⟩;refine wpAny_noRaise (BM (hf _ _ _ _ _ s6 _ _ _ I6 step5) λb s7 q7=>?_);obtain⟨H7,I7,q7⟩:=q7;cases b with
   |false =>
    rw[qE (by decide)]at q7⊢;obtain⟨n',hn',w7⟩:=hNN _ _ q7;exact⟨n',hn',i+1,j5,_,H7,I7.unpinned,rfl,(again I7).1,(again I7).2,w7⟩
   |true =>
    rw[qF rfl]at q7⊢;refine wpAny_noRaise (BM (he _ _ _ _ _ s7 _ _ _ I7 q7) λyv s8 q8=>?_);rcases q8 with⟨y,H8,I8,r8,e8,l8,q8⟩;obtain⟨n',hn',w8⟩:=hNN _ _ q8;refine wpAny_noRaise (BM (Gk (X:=Ed X s2 H2 0#5 fp (x::x2::fv.map (·.2))) _ s8 _ H8 2#1 [y] 2#1 [yv] (λ_ H'=>H'=AZ H8 D (.lst (j5++[y]))) I8 rfl (.cons r8 .nil) ⟨D,j5,y,rfl,rfl,e8,l8,rfl⟩) λ_ s9 q9=>?_);rcases q9 with⟨_,H9,I9,_,rfl⟩;exact⟨n',hn',i+1,j5++[y],_,_,I9.unpinned,rfl,(again I9).1,(again I9).2,w8⟩
 exact codeAny_compStart_list loop (T.self X.A 0 _ _ _ st1 loop)
theorem Sw(hc:19#9=true)(hi:PI X (.Tuple [.Name x px,.Name x2 px2] kt pt) iter wi)(hclos:closureFor scope 1#2=pure cl)(hcell:∀y∈9#2,y.2≠.cell)(hk:12#6=.function)(hnames:∀z∈9#2,z.2=.local->scope.names.lookup z.1=some .local)
  (hx:scope.names.lookup x=some .local) (hx2:scope.names.lookup x2=some .local) (hcl:Hq X.env cl) (hhas:((relabel scope 1#2).names.all λz=>!(z.2==.cell||z.2==.free)||(cl.lookup z.1).isSome)=true) (hfv:Ig X scope cl fv) (hnd:(x::x2::fv.map (·.2)).Nodup)
  (hf:∀s H C fp,PF (Ed X s H 0#5 fp (x::x2::fv.map (·.2))) ifs tt) (he:∀s H C fp,PE (Ed X s H 0#5 fp (x::x2::fv.map (·.2))) elt te)
  (hs:∀x,foldedSetIterable iter X.env x=pure x:=by intro _;rfl):PE X (.ListComp elt [⟨.Tuple [.Name x px,.Name x2 px2] kt pt,iter,ifs,0⟩] scope pos) (XS X.K wi fv tt te):=by
 intro ad s σ H Q I h;rw[eval_ListComp];refine wpAny_comprehension_free (use:=none) rfl hs hclos hk hnames (BM (hi ad s σ H _ I h) λv s1 h1=>BM h1 λitv s2 h2=>?_);rcases h2 with⟨it,fp,tn,J,H2,e,I2,T,st2,f2,hw⟩;subst e;refine Sv (RR:=λj5 C=>compPost 0#4 X.A X.xe none 5#9 j5 C) hc I2 T st2 f2 hcell hk hx hx2 hcl hhas hfv hnd hf he hw λD C σ' H' s' hC Ib q=>?_;obtain⟨m,hn,_⟩:=Ib.loc;exact⟨m,hn,λh' sb=>⟨.ref D,H',AY.letGo I2 (Ih I2 f2 Ib) hC Ib.free sb,rfl,q⟩⟩
end
end L2
namespace PySem
section
variable{prog:qT}{w:qU}{A:Around}{E:qQ->qS->Prop}{s:qS}{it d:qR}{i ep:Nat}{od:Obj}{es:Array DictEntry}
theorem keys_item{Q:Option qQ->qS->Prop}(hit:s.heap.IsKeyIter it d i es.size ep)(hod:s.heap.get? d=some od)(hdd:od.data=.dict es ep)(hlt:i<es.size)
  (hQ:∀h',h'.IsKeyIter it d (i+1) es.size ep->Heap.SameBut it s.heap h'->Q (some es[i].key) {s with heap:=h'}):wpAny 0#3 A (pyNext 6#8) Q E s:=by
 obtain⟨o,ho,hc,hd⟩:=id hit;have T:=hit.typeIs;unfold pyNext;refine qC (wpAny_attempt (wpAny_callSpecial?_slot (name:=Str.ofString "__next__") T F.slot_dict_keyiterator_next (wpAny_call_entry F.slot_dict_keyiterator_next T F.entry_dict_keyiterator_next ?_ (F.args_dict_keyiterator_next_1 _))));refine qC (qD (qC (qC ?_)));refine qC (wpAny_typeNameOfWhole_keyiter T (qD (qC (wpAny_fieldsOf ho hd ?_))));rw[show (if Builtin.Dict_items.ownsTuple "dict_keyiterator"=true then 2 else 0)=0 from qE (by decide)];show wpAny _ _ (if (Value.ref d==.none)=true then _ else _) _ _ s;rw[qE (show ¬((Value.ref d==.none)=true) from c7)];refine qC (qD (qC (wpAny_dictEntries hod hdd ?_)));rw[qE (by simp)];refine qC (qD (qC (wpAny_dictEpoch hod hdd ?_)));rw[qE (by simp)];refine qD ?_;simp only[show ¬((i:Int)<0) by lia,if_false,Int.toNat_natCast,Array.getElem?_eq_getElem hlt];refine qC (qC (wpAny_typeNameOfWhole_keyiter T (qD (qC (wpAny_isOneOf_keyiter T ?_)))));show wpAny _ _ (setField 6#8 1 (rawInt ((i:Int)+1)) >>= _) _ _ s;have hit':(s.heap.update it (Obj.mapFields (·.setIfInBounds 1 (rawInt ((i:Int)+1))))).IsKeyIter it d (i+1) es.size ep:=⟨_,Heap.get?_update_self _ ho (Obj.isFreed_of_fields (Obj.data_mapFields hd _)),(Obj.cls_mapFields ..).trans hc,by rw[Obj.data_mapFields hd];simp[rawInt]⟩;refine qC (wpAny_setField ho hd (by simp) (qC (qO (qC (wpAny_isOneOf_keyiter (s:={s with heap:=s.heap.update it (Obj.mapFields (·.setIfInBounds 1 (rawInt ((i:Int)+1))))}) hit'.typeIs ?_)))));show wpAny _ _ (pure es[i].key) _ _ _;exact qD (qD ⟨_,rfl,qD (hQ _ hit' (Heap.SameBut.update ..))⟩)
theorem keys_end{Q:Option qQ->qS->Prop}(hh:16#0=none)(hit:s.heap.IsKeyIter it d i es.size ep)(hod:s.heap.get? d=some od)(hdd:od.data=.dict es ep)(hge:es.size<=i)
  (hQ:∀h',Heap.ExtBut it s.heap h'->Q none {s with heap:=h'}):wpAny 0#3 A (pyNext 6#8) Q E s:=by
 obtain⟨o,ho,hc,hd⟩:=id hit;have T:=hit.typeIs;unfold pyNext;refine qC (wpAny_attempt (wpAny_callSpecial?_slot (name:=Str.ofString "__next__") T F.slot_dict_keyiterator_next (wpAny_call_entry F.slot_dict_keyiterator_next T F.entry_dict_keyiterator_next ?_ (F.args_dict_keyiterator_next_1 _))));refine qC (qD (qC (qC ?_)));refine qC (wpAny_typeNameOfWhole_keyiter T (qD (qC (wpAny_fieldsOf ho hd ?_))));rw[show (if Builtin.Dict_items.ownsTuple "dict_keyiterator"=true then 2 else 0)=0 from qE (by decide)];show wpAny _ _ (if (Value.ref d==.none)=true then _ else _) _ _ s;rw[qE (show ¬((Value.ref d==.none)=true) from c7)];refine qC (qD (qC (wpAny_dictEntries hod hdd ?_)));rw[qE (by simp)];refine qC (qD (qC (wpAny_dictEpoch hod hdd ?_)));rw[qE (by simp)];refine qD ?_;simp only[show ¬((i:Int)<0) by lia,if_false,Int.toNat_natCast,Array.getElem?_eq_none hge];refine qC (qC (wpAny_typeNameOfWhole_keyiter T (qD ?_)));show wpAny _ _ (setField 6#8 0 .none >>= _) _ _ s;refine qC (wpAny_setField ho hd (by simp) ?_);show wpAny _ _ (newExc (.type "StopIteration") [] >>= _) _ _ _;refine qC ?_;simp only[newExc,newTuple];refine qC (wpAny_newObj_type (qC (m:=firstArgMember _ _) (wpAny_of_eq (a:=12#7) (by first|rfl|(simp only[firstArgMember];rfl)) (wpAny_newObj_type ?_ (by size_fits)))) (by size_fits));unfold raiseNew;refine qC (wpAny_handled ?_);rw[show A.in1.handled=none from hh];refine qC (qD (wpAny_throw ?_));exact qC (wpAny_isInstance (T:="StopIteration") (b:=true) ⟨_,c9 _ rfl,rfl⟩ isSubtype_stop (qD (hQ _ (((Heap.SameBut.update ..).extBut.push _).push _))))
theorem keys_iter{Q:qQ->qS->Prop}(hm:(d==sysModules)=false)(hT:s.TypeIs 2#2 "dict")(hod:s.heap.get? d=some od)(hdd:od.data=.dict es ep)
  (hQ:Q 13#1 {s with heap:=s.heap.push {cls:=.type "dict_keyiterator",data:=.fields #[.ref d,.int 0 0,.int es.size 0,.int ep 0]}}):wpAny 0#3 A (pyIter 2#2) Q E s:=by
 refine wpAny_pyIter_slot hT F.slot_dict_iter (wpAny_call_entry F.slot_dict_iter hT F.entry_dict_iter ?_ (F.args_dict_iter_1 _));unfold Builtin.«dict.__iter__»;refine qC ?_;unfold Builtin.Dict.dictSlotNone;refine qC (wpAny_notOrdered_dict hT ?_);show wpAny _ _ (pure (Value.ref d)) _ _ s;refine qD ?_;show wpAny _ _ (Builtin.Dict.showsAll d >>= _) _ _ s;unfold Builtin.Dict.showsAll;rw[qE (by rw[hm];exact c7)];refine qC (qD (qC (wpAny_dictEntries hod hdd (qC (wpAny_dictEpoch hod hdd ?_)))));exact qC (wpAny_newObj_type (qD ⟨_,rfl,"dict_keyiterator",_,⟨_,Heap.get?_push_size _ rfl,rfl⟩,F.slot_dict_keyiterator_next.lookup,by simpa [rawInt] using hQ⟩))
end
end PySem
namespace L2
open PySem PySem.Spec PyProof.Rows
variable{E Q:qQ->qS->Prop}{H H':Hp}{a it:qR}{h' h1:Heap}{kvs:List (List BW×V)}{o:Obj}{ad:List (qR×Obj)}{s:qS}{t':Nat}{tg:Expr}{tl:TE}{u:qQ}{xs:List V}{α β:Type}{σ:St}
noncomputable def Sx(d:qR)(o:Obj)(kvs:List (BW×V)):It:=
 ⟨λi H=>H d=some 15#5/\i<1#3,λi H x H'=>H'=H/\∃(k:BW) (v:V),x=kV k/\kvs[i]?=some (k,v),λi H=>H d=some 15#5/\1#3<=i⟩
theorem Bc{F:α->β->Prop}:∀{l₁:List α} {l₂:List β} {i:Nat} {x:α},Paired F l₁ l₂->l₁[i]?=some x->∃y,l₂[i]?=some y/\F x y
 |_,_,_,_,.nil,e=>by simp at e
 |_,_,0,_,.cons r _,e=>by simp at e;subst e;exact⟨_,rfl,r⟩
 |_,_,i+1,x,.cons _ t,e=>by obtain⟨u,h1,h2⟩:=Bc (i:=i) (x:=x) t (by simpa using e);exact⟨u,by simpa using h1,h2⟩
variable{d:qR}{ep:Nat}
section
variable{X:Cx}
theorem AY.freeze{u:HO}(I:AY X ad σ H s)(e:H d=some u)(nt:∀ys,u≠.tup ys)(nf:∀o v,u≠.frz o v)(nb:∀ps,u≠.tbl ps)(no:∀x,u≠.own x)(ho:s.heap.get? d=some o):AY X ad σ (AZ H d 15#4) s:=
 have up:∀{b:qR} {v:HO},H b=some v->v≠u->AZ H d 15#4 b=some v:=λ{b v} z n=>by rw[AI λy=>n (by rw[y,e]at z;exact (Option.some.inj z).symm)];exact z
 have un:∀{b:qR},H b=none->AZ H d 15#4 b=none:=λ{b} z=>by rw[AI λy=>by rw[y,e]at z;cases z];exact z
 {I with
  base:=⟨I.base.keep,I.base.slot,λb ob q n hx=>un (I.base.free b ob q n hx),I.base.there,λb xs q=>up (I.base.tups b xs q) λz=>nt _ z.symm,λb ob v q=>up (I.base.frzs b ob v q) λz=>nf _ _ z.symm,λb ps q=>by obtain⟨m,z⟩:=I.base.tbls b ps q;exact⟨m,up z λy=>nb _ y.symm⟩⟩
  free:=un I.free
  freeC:=λx c q=>un (I.freeC x c q)
  pin:=λp hp=>⟨(I.pin p hp).1,un (I.pin p hp).2.1,(I.pin p hp).2.2⟩
  hok:=λb v q=>by
   have st:∀{b:qR} {v:HO},H b=some v->Aq X.prog X.w (AZ H d 15#4) s.heap b v:=λ{b v} q=>(I.hok b v q).stay (λ_ _ _ z=>z) (λc z=>up z λy=>no _ y.symm) λc xs z=>up z λy=>nt _ y.symm
   by_cases hb:b=d
   ·subst hb;rw[AC]at q;cases q;exact⟨ho,st e⟩
   ·rw[AI hb]at q;exact st q}
theorem Sy{u:HO}(e:H d=some u):AZ H d u=H:=funext λb=>by
 by_cases z:b=d
 ·subst z;rw[AC,e]
 ·rw[AI z]
theorem V5{P:qT}{w:qU}{k:BW}(h:(A5 P w).is k u=true):Az (kV k) u:=by
 rcases BY h with⟨i,t,e1,e2⟩|⟨x,t,e1,e2⟩
 ·subst e1 e2;exact⟨_,rfl⟩
 ·subst e1 e2;exact⟨_,rfl⟩
theorem N4{P:qT}{w:qU}{K:qV}{kvs:List (BW×V)}{es:Array DictEntry}(ho:9#1=.dict es ep)(hl:es.size=1#3):Jh P w K tg (Sx d o kvs) [it] it (λi h=>h.IsKeyIter it d i es.size ep) where
 mem:=by simp
 obj:=λi h st b hb=>by
  have e:b=it:=by simpa using hb
  subst e;rcases st with⟨o,e,c,d⟩;exact⟨o,e,λv z=>by rw[d]at z;cases z⟩
 keep:=λi h h' st k=>st.at λo e=>k it (by simp) o e
 item:=by
  rintro X hP hw hK hc i ad s σ H E I hf st ⟨hg,hi⟩;subst hP hw hK;rcases hf it (by simp) with⟨f0,f1,f2,f3,f4,f5⟩;obtain⟨g0,g1⟩:=(show Aq X.prog X.w H s.heap d 15#5 from I.hok d _ hg);rcases (show Aq X.prog X.w H s.heap d (.dK kvs) from g1) with⟨_,_,vs,r,o2,es2,ep2,e2,_,d2,_,prs,_⟩;rw[g0]at e2;cases e2;rw[ho]at d2;cases d2;have hie:i<es.size:=by lia
  obtain⟨p,hp⟩:∃p,kvs[i]?=some p:=⟨kvs[i],by simp[hi]⟩;rcases Bc r hp with⟨q,hq,r1,r3⟩;have he:=(prs.get? (e:=es[i]) (k:=q.1) (v:=q.2) (by simp[hie]) hq).1;rw[<-r1]at he;refine keys_item st g0 ho hie λh' st' sb=>?_;have I1:AY X ad σ H {s with heap:=h'}:=I.turned (t':=5#2) (λb o hb e=>(sb.2 b hb).trans e) f0 f1 f3 f4 f5;rcases id st' with⟨oo,e,c,dd⟩;exact⟨_,rfl,LQ (s:={s with heap:=h'}) e c dd (by decide) ⟨kV p.1,H,I1,V5 he,⟨rfl,p.1,p.2,rfl,hp⟩,st',λb hb=>(hf b hb).1⟩⟩
 done:=by rintro X hP hw hK hc i ad s σ H E I hf st ⟨hg,hi⟩;subst hP hw hK;rcases hf it (by simp) with⟨f0,f1,f2,f3,f4,f5⟩;obtain⟨g0,g1⟩:=(show Aq X.prog X.w H s.heap d 15#5 from I.hok d _ hg);exact keys_end 6#3 st g0 ho (by lia) λh' eb=>⟨rfl,I.turned (t':=5#2) (λb o hb e=>eb b o hb e) f0 f1 f3 f4 f5⟩
 self:=λ_ _ _ _ _ st h=>wpAny_pyIter_keyiter st h
def XT(tl:TE):TI:=λσ H R=>tl σ H λx H1=>∃(d:qR) (kvs:List (BW×V)),x=.ref d/\Rd H1 d 5#1/\∀o,R (Sx d o kvs) (AZ H1 d 15#5)
theorem Sz{l:Expr}(hl:PE X l tl):PI X tg l (XT tl):=by
 intro ad s σ H R I h;refine BM (hl ad s σ H _ I h) λv s1 z9=>?_;obtain⟨x,H1,I1,r1,q1⟩:=z9;obtain⟨d,kvs,e,hq,q⟩:=q1;subst e;cases r1;obtain⟨z,hm,vs,r,o,es,ep,ho,hx,hd,ks,prs,nd⟩:=(show Aq X.prog X.w H1 s1.heap d 5#1 from hq.ok I1.hok)
 have I2:AY X ad σ (AZ H1 d 15#5) s1:=by
  rcases hq with e|⟨o',e⟩
  ·exact I1.freeze e (λ_ z=>nomatch z) (λ_ _ z=>nomatch z) (λ_ z=>nomatch z) (λ_ z=>nomatch z) ho
  ·obtain⟨g0,_⟩:=(show Aq X.prog X.w H1 s1.heap d (.frz o' 5#1) from I1.hok d _ e);rw[ho]at g0;cases g0;rw[Sy e];exact I1
 have hsz:es.size=1#3:=by have a:=prs.length;have b:=Paired.length r;simp at a;lia
 refine keys_iter hm ⟨o,ho,hx.1⟩ ho hd ⟨1#4,[1#4],_,_,_,rfl,I2.kept (t':=s1.toks) λb o e=>cm _ e,N4 hd hsz,⟨_,c9 _ rfl,rfl,rfl⟩,λb hb=>?_,q o⟩;have e:b=1#4:=by simpa using hb
 subst e;exact I2.fpOk (cj _) (I2.hok.fresh (cj _))
end
abbrev PH:=List BW×qR×V
noncomputable def JE(p:PH):List BW×V:=(p.1,p.2.2)
def F5(p:PH)(q:List BW×qR×qQ):Prop:=p.1=q.1/\p.2.1=q.2.1/\Az p.2.2 q.2.2
def VA(P:qT)(w:qU)(d:qR)(bs:List PH)(h:Heap):Prop:=bs.length<=sizeLine/\(d==sysModules)=false/\∃xs:List (List BW×qR×qQ),Paired F5 bs xs /\
 ∃o es ep,h.get? d=some o/\o.ExactDict/\9#1=.dict es ep/\es.toList=xs.map (entryOfKey 20#6)/\(xs.map (·.1)).Nodup
noncomputable def UU(P:qT)(w:qU)(d:qR)(bs:List PH):HO:=.ext (VA P w d bs)
def S0(K:qV)(H:Hp)(bs:List PH):Prop:=∀p∈bs,Ai K H p.2.1 (p.1.map kV)
def DW(P:qT)(w:qU)(K:qV)(H:Hp)(d:qR)(kvs:List (List BW×V)):Prop:=∃bs,H d=some (UU P w d bs)/\bs.map JE=kvs/\S0 K H bs
def DR(P:qT)(w:qU)(K:qV)(H:Hp)(d:qR)(u:HO)(kvs:List (List BW×V)):Prop:=∃bs,H d=some u/\(u=UU P w d bs\/∃o,u=.frz o (UU P w d bs))/\bs.map JE=kvs/\S0 K H bs
section
variable{P:qT}{w:qU}{K:qV}{h:Heap}{u:HO}
theorem Ai.same'(e:AG H H')(q:Ai K H a xs):Ai K H' a xs:=q.imp (λz=>z.imp (e _ _) λ⟨o,z⟩=>⟨o,e _ _ z⟩) id
theorem DR.same(e:AG H H')(r:DR P w K H d u kvs):DR P w K H' d u kvs:=by obtain⟨bs,h1,h2,h3,h4⟩:=r;exact⟨bs,e _ _ h1,h2,h3,λp hp=>(h4 p hp).same' e⟩
theorem DW.same(e:AG H H')(r:DW P w K H d kvs):DW P w K H' d kvs:=by obtain⟨bs,h1,h3,h4⟩:=r;exact⟨bs,e _ _ h1,h3,λp hp=>(h4 p hp).same' e⟩
theorem DW.r(r:DW P w K H d kvs):∃u,DR P w K H d u kvs:=by obtain⟨bs,h1,h3,h4⟩:=r;exact⟨_,bs,h1,.inl rfl,h3,h4⟩
theorem F5.val{bs:List PH}{xs:List (List BW×qR×qQ)}(r:Paired F5 bs xs)(k:List BW):Fo (Ba (bs.map JE) k) ((atKey xs k).map (·.2)):=by
 induction r with
 |nil=>exact 6#9
 | @cons p q ps qs hh t ih =>
  obtain⟨h1,_,h2⟩:=hh
  by_cases e:p.1=k
  ·have e':q.1=k:=h1.symm.trans e;have b:atKey (q::qs) k=some q.2:=by simp[atKey,List.find?_cons,e']
   rw[d9,Da (show (JE p).1=k from e),b];exact h2
  ·have e':¬q.1=k:=λz=>e 18#8
   have b:atKey (q::qs) k=atKey qs k:=by simp[atKey,List.find?_cons,e']
   rw[d9,Ci (show ¬(JE p).1=k from e),b];exact ih
end
section
variable{X:Cx}{b:qR}{u:HO}{k:List BW}
theorem EZ(I:AY X ad σ H s)(q:Ai X.K H b 7#0):(tupleKind 6#0).is s.heap k b:=by obtain⟨its,rv,p,hz⟩:=I.tuple q;obtain⟨o,h1,h2,n,h3⟩:=p;exact⟨o,5#5,n,h1,h2,h3,by simpa using Gw rv⟩
theorem DR.at(I:AY X ad σ H s)(r:DR X.prog X.w X.K H d u kvs):∃bs xs,bs.map JE=kvs/\S0 X.K H bs/\Paired F5 bs xs/\bs.length<=sizeLine/\(d==sysModules)=false/\s.heap.DictOfH 12#4 d xs:=by
 rcases r with⟨bs,h1,h2,h3,h4⟩
 have ok:VA X.prog X.w d bs 20#3:=by
  rcases h2 with e|⟨o,e⟩
  ·subst e;exact (show Aq X.prog X.w H s.heap d (.ext _) from I.hok d _ h1).1
  ·subst e;exact (show Aq X.prog X.w H s.heap d (.ext _) from (show Aq X.prog X.w H s.heap d (.frz o _) from I.hok d _ h1).2).1
 rcases ok with⟨z,hd,xs,rel,o,es,ep,e1,e2,e3,e4,e5⟩;refine⟨bs,xs,h3,h4,rel,z,hd,o,es,ep,e1,e2,e3,e4,λx hx=>?_,e5⟩;obtain⟨i,hi⟩:=d4.mp hx;have hl:=Paired.length rel;have hi':=(cW.mp hi).1;rcases Bc rel (i:=i) (x:=bs[i]) (by simp[show i<bs.length by lia]) with⟨y,hy,r1,r2,_⟩;rw[hi]at hy;cases hy;rw[<-r1,<-r2];exact EZ I (h4 _ (fQ _))
variable{A:Around}{v:V}
theorem Qn(hu:20#5+1<cLine)(I:AY X ad σ H s)(r:DR X.prog X.w X.K H d u kvs)(q:Ai X.K H b 7#0)(l:Ba kvs k=some v)(h:∀w' s',AY X ad σ H s'->Az v w'->Q w' s'):
  wpAny 0#4 A (getItem 2#2 11#4) Q E s:=by
 obtain⟨bs,xs,h3,h4,rel,z,hd,dd⟩:=r.at I;obtain⟨w',hw,rw'⟩:=Fo.some_of (v:=v) (o:=(atKey xs k).map (·.2)) (by rw[<-l,<-h3];exact F5.val rel k);obtain⟨p,hp,hp2⟩:=dq.mp hw;refine wpAny_getItem_heap 6#5 (EZ I q) dd hp ?_;rw[hp2];exact h w' _ (I.tok _) rw'
theorem bQ(hu:20#5+1<cLine)(I:AY X ad σ H s)(r:DR X.prog X.w X.K H d u kvs)(q:Ai X.K H b 7#0)(h:∀s',AY X ad σ H s'->Q (.bool (Ba kvs k).isSome) s'):
  wpAny 0#4 A (compareOp .In 11#4 2#2) Q E s:=by
 rcases r.at I with⟨bs,xs,h3,h4,rel,z,hd,dd⟩;refine wpAny_in_heap 6#5 (EZ I q) hd dd ?_;have q:=(F5.val rel k).isSome_eq;rw[iJ,h3]at q;rw[<-q];exact h _ (I.tok _)
theorem VB(hu:20#5+1<cLine)(I:AY X ad σ H s)(r:DR X.prog X.w X.K H d u kvs)(q:Ai X.K H b 7#0)(h:∀s',AY X ad σ H s'->Q (.bool (!(Ba kvs k).isSome)) s'):
  wpAny 0#4 A (compareOp .NotIn 11#4 2#2) Q E s:=by
 obtain⟨bs,xs,h3,h4,rel,z,hd,dd⟩:=r.at I;refine wpAny_notIn_heap 6#5 (EZ I q) hd dd ?_;have q:=(F5.val rel k).isSome_eq;rw[iJ,h3]at q;rw[<-q];exact h _ (I.tok _)
end
noncomputable def MK(bs:List PH)(k:List BW)(b:qR)(v:V):List PH:=if (bs.any λp=>decide (p.1=k))=true then bs.map (λp=>if p.1=k then (p.1,p.2.1,v) else p) else bs++[(k,b,v)]
theorem PJ(bs:List PH)(k:List BW)(b:qR)(v:V):(MK bs k b v).map JE=Cf (bs.map JE) k v:=by
 unfold MK Cf;have e:((bs.map JE).any λkv=>decide (kv.1=k))=bs.any λp=>decide (p.1=k):=by rw[List.any_map];rfl
 rw[e]
 by_cases z:(bs.any λp=>decide (p.1=k))=true
 ·rw[qF z,qF z,fS,fS];refine dI λp _=>?_;show JE (if p.1=k then (p.1,p.2.1,v) else p)=if (JE p).1=k then ((JE p).1,v) else JE p
  by_cases y:p.1=k
  ·rw[qF y,qF (show (JE p).1=k from y)];rfl
  ·rw[qE y,qE (show ¬(JE p).1=k from y)]
 ·rw[qE z,qE z,cq];rfl
theorem F5.put{bs:List PH}{xs:List (List BW×qR×qQ)}(r:Paired F5 bs xs)(k:List BW)(b:qR){y:V}(ry:Az y u):Paired F5 (MK bs k b y) (storedH xs k b u):=by
 have e:(bs.any λp=>decide (p.1=k))=(atKey xs k).isSome:=by have q:=(F5.val r k).isSome_eq;rw[iJ]at q;rw[<-q,<-GQ,List.any_map];rfl
 unfold MK storedH;rw[e]
 by_cases q:(atKey xs k).isSome=true
 ·rw[qF q,qF q];clear e q
  induction r with
  |nil=>exact .nil
  | @cons p q ps qs hh t ih =>
   rw[d9,d9];refine .cons ?_ ih;obtain⟨h1,h2,h3⟩:=hh;unfold putAt
   by_cases e:p.1=k
   ·rw[qF e,qF (h1.symm.trans e)];exact⟨h1,h2,ry⟩
   ·rw[qE e,qE (λz=>e 18#8)];exact⟨h1,h2,h3⟩
 ·rw[qE q,qE q];exact Paired.snoc r ⟨rfl,rfl,ry⟩
theorem S4{bs:List PH}{k:List BW}{b:qR}{v:V}{p:PH}(h:p∈MK bs k b v):(∃q∈bs,p.1=q.1/\p.2.1=q.2.1)\/(p.1=k/\p.2.1=b):=by
 unfold MK at h
 split at h
 ·obtain⟨q,hq,e⟩:=dG.mp h;refine .inl ⟨q,hq,?_⟩
  by_cases z:q.1=k
  ·rw[qF z]at e;subst e;exact⟨rfl,rfl⟩
  ·rw[qE z]at e;subst e;exact⟨rfl,rfl⟩
 ·rcases cZ.mp h with z|z
  ·exact .inl ⟨p,z,rfl,rfl⟩
  ·rw[ce.mp z];exact .inr ⟨rfl,rfl⟩
theorem VA.stay{P:qT}{w:qU}{bs:List PH}{h2:Heap}(x:VA P w d bs h1)(k:∀o,h1.get? d=some o->h2.get? d=some o):VA P w d bs h2:=by rcases x with⟨z,hd,xs,rel,o,es,ep,e1,e2⟩;exact⟨z,hd,xs,rel,o,es,ep,k _ e1,e2⟩
theorem Ai.upd'{K:qV}{φ:Heap->Prop}{u:HO}(hd:H d=some (.ext φ))(q:Ai K H a xs):Ai K (AZ H d u) a xs:=by
 rcases q with (z|⟨o,z⟩)|z
 ·exact .inl (.inl (by rw[AI (Dk z hd λy=>nomatch y)];exact z))
 ·exact .inl (.inr ⟨o,by rw[AI (Dk z hd λy=>nomatch y)];exact z⟩)
 ·exact .inr z
section
variable{X:Cx}{b:qR}{k:List BW}{A:Around}{v:V}{r:qQ}
theorem DW.put(I:AY X ad σ H s){bs:List PH}{xs:List (List BW×qR×qQ)}(h1:H d=some 10#4)(h4:S0 X.K H bs)(rel:Paired F5 bs xs)(hd:(d==sysModules)=false)(q:Ai X.K H b 7#0)(hz:(bs.map JE).length<sizeLine)(rv:Az v r)
  (dd':h'.DictOfH 12#4 d (storedH xs k b r)) (sb:Heap.SameBut d s.heap h'):∃u',DW X.prog X.w X.K 4#8 d (Cf (bs.map JE) k v)/\AY X ad σ 4#8 {s with heap:=h',toks:=t'}:=by
 have hl:(MK bs k b v).length<=sizeLine:=by have a:=Dr (bs.map JE) k v;rw[<-PJ bs k b v,cU]at a;lia
 rcases dd' with⟨o,es,ep,g1,g2,g3,g4,_,g5⟩;refine⟨UU X.prog X.w d (MK bs k b v),⟨_,AC,PJ ..,λp hp=>?_⟩,IG I (by rw[h1];exact 6#9) sb ⟨o,g1⟩ ⟨⟨hl,hd,_,F5.put rel k b rv,o,es,ep,g1,g2,g3,g4,g5⟩,⟨o,g1⟩,λh1 h2 x k=>VA.stay x k⟩⟩;rcases S4 hp with⟨p',hp',e1,e2⟩|⟨e1,e2⟩
 ·rw[e1,e2];exact (h4 p' hp').upd' h1
 ·rw[e1,e2];exact q.upd' h1
theorem DW.at(I:AY X ad σ H s)(w:DW X.prog X.w X.K H d kvs):∃bs xs,H d=some 10#4/\bs.map JE=kvs/\S0 X.K H bs/\Paired F5 bs xs/\0#7<=sizeLine/\(d==sysModules)=false/\s.heap.DictOfH 12#4 d xs:=by rcases w with⟨bs,h1,h3,h4⟩;rcases (show Aq X.prog X.w H s.heap d (.ext _) from I.hok d _ h1).1 with⟨z,hd,xs,rel,o,es,ep,e1,e2,e3,e4,e5⟩;refine⟨bs,xs,h1,h3,h4,rel,by rw[<-Paired.length rel];exact z,hd,o,es,ep,e1,e2,e3,e4,λx hx=>?_,e5⟩;obtain⟨i,hi⟩:=d4.mp hx;have hl:=Paired.length rel;have hi':=(cW.mp hi).1;rcases Bc rel (i:=i) (x:=bs[i]) (by simp[show i<bs.length by lia]) with⟨y,hy,r1,r2,_⟩;rw[hi]at hy;cases hy;rw[<-r1,<-r2];exact EZ I (h4 _ (fQ _))
theorem Qo{Q:Unit->qS->Prop}(hu:20#5+1<cLine)(I:AY X ad σ H s)(w:DW X.prog X.w X.K H d kvs)(q:Ai X.K H b 7#0)(hz:1#3<sizeLine)(rv:Az v r)(h:∀u' s',DW X.prog X.w X.K 4#8 d (Cf kvs k v)->AY X ad σ 4#8 s'->Q () s'):
  wpAny 0#4 A (setItem 2#2 11#4 r) Q E s:=by
 rcases w.at I with⟨bs,xs,h1,h3,h4,rel,hl,hd,dd⟩;subst h3;refine wpAny_setItem_heap (hsz:=hl) 6#5 (EZ I q) dd λh' dd' sb=>?_;obtain⟨u',w',I'⟩:=DW.put (t':=5#2+(tupleKind 6#0).draws k) I h1 h4 rel hd q hz rv dd' sb;exact h u' _ w' I'
end
end L2
namespace PySem
section
variable{prog:qT}{w:qU}{A:Around}{E:qQ->qS->Prop}{s:qS}{d:qR}{o:Obj}{es:Array DictEntry}{ep:Nat}
theorem meets_lenR(hd:(d==sysModules)=false):MeetsIn prog w (Builtin.«dict.__len__» ⟨[.ref d],[]⟩) (λ_ R s=>∃o es ep,s.heap.get? d=some o/\9#1=.dict es ep/\R (.ok (.ret (.int es.size 5#2))) {s with toks:=5#2+1}):=
 .of_wp λA R s ⟨o,es,ep,ho,hdat,h⟩=>by show wpAny _ _ (dictSize d >>= _) _ _ s;unfold dictSize;refine qC (qC (wpAny_dictEntries ho hdat (qD ?_)));show wpAny _ _ (Builtin.Dict.pendingCount d >>= _) _ _ s;refine qC (wpAny_pendingCount_other hd (wpAny_ret_mkInt ?_));rw[i4];exact h
theorem len_dictR{Q:qQ->qS->Prop}(hd:(d==sysModules)=false)(hT:s.TypeIs 2#2 "dict")(ho:s.heap.get? d=some o)(hdat:9#1=.dict es ep)(hfit:(es.size:Int)<2^63)
  (h:Q (.int es.size (5#2+1)) {s with toks:=5#2+1+1}):wpAny 0#3 A (call (.builtin "len") [.ref d]) Q E s:=by
 refine Calls.call_function_entry kind_len plain_len entry_len (args_len1 _) ?_;unfold Builtin.«len»
 refine qC (m:=oneArg "len" _) (qD (qC (m:=callSpecial? 2#2 (Str.ofString "__len__")) (wpAny_callSpecial?_slot (name:=Str.ofString "__len__") hT F.slot_dict_len
  (call_meetsIn F.slot_dict_len hT F.entry_dict_len (F.args_dict_len_1 _) (meets_lenR hd) ⟨o,es,ep,ho,hdat,?_⟩))))
 show wpAny _ _ _ _ _ {s with toks:=5#2+1};refine qC (qO (qD (qC (wpAny_letGo ?_))));show wpAny _ _ (if ((es.size:Nat):Int)<0 then _ else _) _ _ _;rw[qE (by lia)];show wpAny _ _ (if ((es.size:Nat):Int)≥2^63 then _ else _) _ _ _;rw[qE (by lia)];exact qC (wpAny_mkInt (qD ⟨_,rfl,h⟩))
end
end PySem
namespace L2
open PySem PySem.Spec PyProof.Rows
variable{D:Ho}{H:Hp}{a d it:qR}{ep:Nat}{es:List Expr}{kvs:List (List BW×V)}{name:Str}{o:Obj}{pos:Pos}{te tl to:TE}{tg:Expr}{tt:TT}{σ:St}{σf:List (Option V)}
section
variable(P:qT)(w:qU)(K:qV)
def V6(td ty:TE):TE:=λσ H Q=>td σ H λx H1=>ty σ H1 λy H2=>∃(d b:qR) (u:HO) (kvs:List (List BW×V)) (k:List BW) (v:V),x=.ref d/\y=.ref b/\DR P w K H2 d u kvs/\Ai K H2 b 7#0/\Ba kvs k=some v/\Q v H2
def Zd(ty td:TE):TE:=λσ H Q=>ty σ H λy H1=>td σ H1 λx H2=>∃(d b:qR) (u:HO) (kvs:List (List BW×V)) (k:List BW),x=.ref d/\y=.ref b/\DR P w K H2 d u kvs/\Ai K H2 b 7#0/\Q (.bl (Ba kvs k).isSome) H2
def PL(ty td:TE):TE:=λσ H Q=>ty σ H λy H1=>td σ H1 λx H2=>∃(d b:qR) (u:HO) (kvs:List (List BW×V)) (k:List BW),x=.ref d/\y=.ref b/\DR P w K H2 d u kvs/\Ai K H2 b 7#0/\Q (.bl (!(Ba kvs k).isSome)) H2
def V7(td ty tv:TE):TS:=λD σ H=>tv σ H λv H1=>td σ H1 λx H2=>ty σ H2 λy H3=>∃(d b:qR) (kvs:List (List BW×V)) (k:List BW),x=.ref d/\y=.ref b/\DW P w K H3 d kvs/\Ai K H3 b 7#0/\1#3<sizeLine/\∀u',DW P w K (AZ H3 d u') d (Cf kvs k v)->D.nx σ (AZ H3 d u')
def V8:TE:=λ_ H Q=>∀p u',H p=none->DW P w K (AZ H p u') p []->Q 1#5 (AZ H p u')
noncomputable def Y1(d:qR)(u:HO)(kvs:List (List BW×V)):It:=
 ⟨λi H=>DR P w K H d u kvs/\i<1#3,λi H x H'=>H'=H/\∃(b:qR) (k:List BW) (v:V),x=.ref b/\kvs[i]?=some (k,v)/\Ai K H b 7#0,λi H=>DR P w K H d u kvs/\1#3<=i⟩
def S5(tl:TE):TI:=λσ H R=>tl σ H λx H1=>∃(d:qR) (u:HO) (kvs:List (List BW×V)),x=.ref d/\DR P w K H1 d u kvs/\∀u',DR P w K (AZ H1 d u') d u' kvs->R (Y1 P w K d u' kvs) (AZ H1 d u')
end
section
variable{X:Cx}{o i value:Expr}{pos':Pos}{td ty tv:TE}
theorem VC(hu:7#2+1<cLine)(ho:PE X o td)(hi:PE X i ty)(hs:U3 i):PE X 10#7 (V6 X.prog X.w X.K td ty):=by intro ad s σ H Q I h;refine O6 PySem.F.slot_dict_getitem.lookup hs (BM (ho ad s σ H _ I h) λu s1 z=>?_);rcases z with⟨x,H1,I1,rx,q1⟩;refine BM (hi ad s1 σ H1 _ I1 q1) λiv s2 z=>?_;rcases z with⟨y,H2,I2,ry,d,b,uu,kvs,k,v,ex,ey,r,q,l,q2⟩;subst ex ey;cases rx;cases ry;rcases r.at I2 with⟨bs,xs,_,_,_,_,_,dd⟩;exact⟨dd.typeIs,Qn hu I2 r q l λw' s3 I3 rw'=>⟨v,H2,I3,rw',q2⟩⟩
theorem XU(hu:7#2+1<cLine)(hi:PE X i ty)(ho:PE X o td):PC X .In i o (Zd X.prog X.w X.K ty td):=by intro ad s σ H Q I h;refine BM (hi ad s σ H _ I h) λiv s1 z=>?_;obtain⟨y,H1,I1,ry,q1⟩:=z;refine BM (ho ad s1 σ H1 _ I1 q1) λu s2 z=>?_;obtain⟨x,H2,I2,rx,d,b,uu,kvs,k,ex,ey,r,q,q2⟩:=z;subst ex ey;cases rx;cases ry;exact bQ hu I2 r q λs3 I3=>⟨.bl (Ba kvs k).isSome,H2,I3,rfl,q2⟩
theorem Qp(hu:7#2+1<cLine)(hi:PE X i ty)(ho:PE X o td):PC X .NotIn i o (PL X.prog X.w X.K ty td):=by intro ad s σ H Q I h;refine BM (hi ad s σ H _ I h) λiv s1 z=>?_;obtain⟨y,H1,I1,ry,q1⟩:=z;refine BM (ho ad s1 σ H1 _ I1 q1) λu s2 z=>?_;obtain⟨x,H2,I2,rx,d,b,uu,kvs,k,ex,ey,r,q,q2⟩:=z;subst ex ey;cases rx;cases ry;exact VB hu I2 r q λs3 I3=>⟨.bl (!(Ba kvs k).isSome),H2,I3,rfl,q2⟩
theorem VD(hu:7#2+1<cLine)(ho:PE X o td)(hi:PE X i ty)(hv:PE X value tv)(hs:swapsWith value (some (.Subscript o i pos')) pos.line 1#2=pure false):
  PS X (.Assign [.Subscript o i pos'] value pos) (V7 X.prog X.w X.K td ty tv):=by
 intro ad s σ H D I h;refine wpAny_Assign_Subscript (BM (hv ad s σ H _ I h) λr s1 z=>?_) hs;obtain⟨v,H1,I1,rv,q1⟩:=z;refine BM (ho ad s1 σ H1 _ I1 q1) λu s2 z=>?_;obtain⟨x,H2,I2,rx,q2⟩:=z;refine BM (hi ad s2 σ H2 _ I2 q2) λiv s3 z=>?_;obtain⟨y,H3,I3,ry,d,b,kvs,k,ex,ey,g,q,l,q3⟩:=z;subst ex ey;cases rx;cases ry;exact Qo hu I3 g q l rv λu' s4 w4 I4=>⟨σ,_,I4,q3 u' w4⟩
theorem VE:PE X (.Dict [] [] pos) (V8 X.prog X.w X.K):=λad s σ H Q I h =>
 wpAny_Dict_empty ⟨.ref 0#1,_,I.laid (a:=0#1) (o:=UU X.prog X.w s.heap.objs.size []) (t':=5#2) (λ_ _ q=>cm _ q) (cj _)
  ⟨⟨dz _,beq_eq_false_iff_ne.mpr (Ne.symm (dS I.big)),[],.nil,_,#[],0,c9 _ rfl,⟨rfl,rfl,rfl⟩,rfl,rfl,fP⟩,⟨_,c9 _ rfl⟩,λh1 h2 x k=>VA.stay x k⟩,rfl,
  h _ _ (I.hok.fresh (cj _)) ⟨[],AC,rfl,λp hp=>nomatch hp⟩⟩
theorem Qq:Co X (.builtin "len") (λxs H Q=>∃(d:qR) (u:HO) (kvs:List (List BW×V)),xs=[V.ref d]/\DR X.prog X.w X.K H d u kvs/\Q (.int 1#3) H):=by
 intro ad s σ H xs us Q I r h;rcases h with⟨d,u,kvs,rfl,ha,q⟩;obtain⟨uu,rfl,ru⟩:=Et r;cases ru;rcases ha.at I with⟨bs,ys,h3,_,rel,z,hd,dd⟩;have hT:s.TypeIs 2#2 "dict":=dd.typeIs;rcases dd with⟨ob,es,ep,g1,g2,g3,g4,_⟩
 have hz:es.size=1#3:=by have a:=qP List.length g4;have b:=Paired.length rel;rw[<-h3];simp at a;simp;lia
 have l1:bs.length=1#3:=by rw[<-h3,cU]
 refine len_dictR hd hT g1 g3 (by rw[sizeLine_eq]at z;lia) ⟨.int 1#3,H,I.tok _,⟨_,by rw[hz]⟩,q⟩
theorem N5(hu:7#2+1<cLine):Yy X "dict.setdefault" (λx xs H Q=>∃(d b:qR) (kvs:List (List BW×V)) (k:List BW) (y:V),x=.ref d/\xs=[.ref b,y]/\DW X.prog X.w X.K H d kvs/\Ai X.K H b 7#0/\1#3<sizeLine /\
  (∀z,Ba kvs k=some z->Q z H)/\(Ba kvs k=none->∀u',DW X.prog X.w X.K 4#8 d 19#0->Q y 4#8)):=by
 intro ad s σ H x xs v us Q I rx rs h;rcases h with⟨d,b,kvs,k,y,rfl,rfl,e,eb,hz,h1,h2⟩;rcases Od rs with⟨u1,u2,rfl,r1,r2⟩;cases rx;cases r1;rcases e.at I with⟨bs,es,g1,g3,g4,rel,hl,hd,dd⟩;subst g3;have rk:=F5.val rel k;refine call_meetsIn fH dd.typeIs PySem.F.entry_dict_setdefault (PySem.F.args_dict_setdefault_3 _ _ _) (meetsH_setDef 12#4 d b hd u2) ⟨tupleKind_room_in1 hu,k,es,EZ I eb,dd,hl,λp hp=>?_,λhn hp dd' sb=>?_⟩
 ·rw[hp]at rk;cases hv:Ba (bs.map JE) k with
  |none=>rw[hv]at rk;exact (show False from rk).elim
  |some t =>
   rw[hv]at rk;exact⟨t,H,I.tok _,rk,h1 t hv⟩
 ·have hv:Ba (bs.map JE) k=none:=by
   cases hv:Ba (bs.map JE) k with
   |none=>rfl
   |some t=>rw[hv,hn]at rk;exact (show False from rk).elim
  obtain⟨u',w',I'⟩:=DW.put (t':=5#2+(tupleKind 6#0).draws k) I g1 g4 rel hd eb hz r2 dd' sb;exact⟨y,_,I',r2,h2 hv u' w'⟩
theorem N6{P:qT}{w:qU}{K:qV}{ob:Obj}{φ:Heap->Prop}{es:Array DictEntry}(ho:ob.data=.dict es ep)(hl:es.size=1#3):Jh P w K tg (Y1 P w K d (.frz ob (.ext φ)) kvs) [it] it (λi h=>h.IsKeyIter it d i es.size ep) where
 mem:=by simp
 obj:=λi h st b hb=>by
  have e:b=it:=by simpa using hb
  subst e;rcases st with⟨o,e,c,d⟩;exact⟨o,e,λv z=>by rw[d]at z;cases z⟩
 keep:=λi h h' st k=>st.at λo e=>k it (by simp) o e
 item:=by
  rintro X hP hw hK hc i ad s σ H E I hf st ⟨hg,hi⟩;subst hP hw hK;rcases hf it (by simp) with⟨f0,f1,f2,f3,f4,f5⟩;rcases hg with⟨bs,h1,h2,h3,h4⟩;obtain⟨g0,g1,_⟩:=(show Aq X.prog X.w H s.heap d (.frz ob (.ext φ)) from I.hok d _ h1)
  have dx:VA X.prog X.w d bs 20#3:=by
   rcases h2 with e|⟨o',e⟩
   ·cases e
   ·cases e;exact g1
  rcases dx with⟨_,_,xs,rel,o2,es2,ep2,e2,_,d2,rows,_⟩;rw[g0]at e2;cases e2;rw[ho]at d2;cases d2;have hie:i<es.size:=by lia
  have hib:i<bs.length:=by rw[<-h3,cU]at hi;exact hi
  rcases Bc rel (i:=i) (x:=bs[i]) (by simp[hib]) with⟨q,hq,r1,r2,r3⟩
  have he:es[i].key=.ref bs[i].2.1:=by
   have z:es.toList[i]?=some es[i]:=by simp[hie]
   rw[rows,cn,hq]at z;rw[r2];exact (qP DictEntry.key (Option.some.inj z)).symm
  refine keys_item st g0 ho hie λh' st' sb=>?_;have I1:AY X ad σ H {s with heap:=h'}:=I.turned (t':=5#2) (λb o hb e=>(sb.2 b hb).trans e) f0 f1 f3 f4 f5;rcases id st' with⟨oo,e,c,dd⟩;exact⟨_,rfl,LQ (s:={s with heap:=h'}) e c dd (by decide) ⟨.ref bs[i].2.1,H,I1,by rw[he];rfl,⟨rfl,bs[i].2.1,bs[i].1,bs[i].2.2,rfl,by rw[<-h3,13#6];simp[hib,JE],h4 _ (List.getElem_mem _)⟩,st',λb hb=>(hf b hb).1⟩⟩
 done:=by rintro X hP hw hK hc i ad s σ H E I hf st ⟨hg,hi⟩;subst hP hw hK;rcases hf it (by simp) with⟨f0,f1,f2,f3,f4,f5⟩;obtain⟨bs,h1,_⟩:=hg;obtain⟨g0,g1⟩:=(show Aq X.prog X.w H s.heap d (.frz ob (.ext φ)) from I.hok d _ h1);exact keys_end 6#3 st g0 ho (by lia) λh' eb=>⟨rfl,I.turned (t':=5#2) (λb o hb e=>eb b o hb e) f0 f1 f3 f4 f5⟩
 self:=λ_ _ _ _ _ st h=>wpAny_pyIter_keyiter st h
theorem S6{l:Expr}(hl:PE X l tl):PI X tg l (S5 X.prog X.w X.K tl):=by
 intro ad s σ H R I h;refine BM (hl ad s σ H _ I h) λv s1 z9=>?_;obtain⟨x,H1,I1,r1,q1⟩:=z9;rcases q1 with⟨d,u,kvs,e,hq,q⟩;subst e;cases r1;rcases hq with⟨bs,h1,h2,h3,h4⟩
 have dx:VA X.prog X.w d bs s1.heap:=by
  rcases h2 with e|⟨o,e⟩
  ·subst e;exact (show Aq X.prog X.w H1 s1.heap d (.ext _) from I1.hok d _ h1).1
  ·subst e;exact (show Aq X.prog X.w H1 s1.heap d (.ext _) from (show Aq X.prog X.w H1 s1.heap d (.frz o _) from I1.hok d _ h1).2).1
 rcases dx with⟨z,hm,xs,rel,o,es,ep,ho,hx,hd,rows,nd⟩
 have I2:AY X ad σ (AZ H1 d (.frz o 10#4)) s1:=by
  rcases h2 with e|⟨o',e⟩
  ·subst e;exact I1.freeze h1 (λ_ z=>nomatch z) (λ_ _ z=>nomatch z) (λ_ z=>nomatch z) (λ_ z=>nomatch z) ho
  ·subst e;obtain⟨g0,_⟩:=(show Aq X.prog X.w H1 s1.heap d (.frz o' _) from I1.hok d _ h1);rw[ho]at g0;cases g0;rw[Sy h1];exact I1
 have hsz:es.size=1#3:=by have a:=qP List.length rows;have b:=Paired.length rel;rw[<-h3];simp at a;simp;lia
 have dr:DR X.prog X.w X.K (AZ H1 d (.frz o 10#4)) d (.frz o 10#4) kvs:=⟨bs,AC,.inr ⟨o,rfl⟩,h3,λp hp=>by
  have k:=h4 p hp;rcases h2 with e|⟨o',e⟩
  ·subst e;exact k.upd' h1
  ·subst e;rcases k with (z|⟨o2,z⟩)|z
   ·exact .inl (.inl (by rw[AI (Dk z h1 λy=>nomatch y)];exact z))
   ·exact .inl (.inr ⟨o2,by rw[AI (Dk z h1 λy=>by cases y)];exact z⟩)
   ·exact .inr z⟩
 refine keys_iter hm ⟨o,ho,hx.1⟩ ho hd ⟨1#4,[1#4],_,_,_,rfl,I2.kept (t':=s1.toks) λb o e=>cm _ e,N6 hd hsz,⟨_,c9 _ rfl,rfl,rfl⟩,λb hb=>?_,q _ dr⟩;have e:b=1#4:=by simpa using hb
 subst e;exact I2.fpOk (cj _) (I2.hok.fresh (cj _))
theorem Qr{P:qT}{w:qU}{K:qV}{u:HO}{g:TG}{tb:TS}(Pv:Nat->St->Hp->Prop)(h0:Pv 0 σ H)(hl:∀i σ H,i<=1#3->Pv i σ H->DR P w K H d u kvs)
  (hs:∀i b k v σ H,kvs[i]?=some (k,v)->Ai K H b 7#0->Pv i σ H->g 11#4 σ H λσ2 H2=>tb {D with nx:=Pv (i+1),ct:=Pv (i+1),bk:=D.nx} σ2 H2) (hd:∀σ H,Pv kvs.length σ H->D.nx σ H):
  ∃W:Nat->Nat->St->Hp->Prop,(∃m,W 0 m σ H)/\∀i m σ H,W i m σ H ->
   ((Y1 P w K d u kvs).stop i H/\D.nx σ H)\/((Y1 P w K d u kvs).go i H/\∃N:St->Hp->Prop,(∀σ' H',N σ' H'->∃m',m'<m/\W (i+1) m' σ' H')/\∀x H',(Y1 P w K d u kvs).yld i H x H'->g x σ H' λσ2 H2=>tb {D with nx:=N,ct:=N,bk:=D.nx} σ2 H2):=by
 refine⟨λi m σ H=>m=1#3-i/\i<=1#3/\Pv i σ H,⟨1#3,by simp,Nat.zero_le _,h0⟩,?_⟩;rintro i m σ H ⟨rfl,hi,p⟩;have q:=hl i σ H hi p
 by_cases hlt:i<kvs.length
 ·refine .inr ⟨⟨q,hlt⟩,Pv (i+1),λσ' H' p'=>⟨1#3-(i+1),by lia,rfl,hlt,p'⟩,λx H' y=>?_⟩;rcases y with⟨e,b,k,v,ex,hk,hb⟩;subst e ex;exact hs i b k v σ _ hk hb p
 ·have e:i=1#3:=by lia
  subst e;exact .inl ⟨⟨q,cj _⟩,hd σ H p⟩
theorem F6{P:qT}{w:qU}{K:qV}{u:HO}{D:qR}{Q:VK}(Pv:Nat->List V->Hp->Prop)(h0:Pv 0 [] (AZ H D (.lst [])))(hl:∀i j5 H,i<=1#3->Pv i j5 H->DR P w K H d u kvs)
  (hs:∀i b k v j5 H2,kvs[i]?=some (k,v)->Ai K H2 b 7#0->Pv i j5 H2->tt (some 11#4::σf) H2 λt H4=>if t=true then te (some 11#4::σf) H4 λy H5=>H5 D=some 5#0/\j5.length<sizeLine/\Pv (i+1) (j5++[y]) (AZ H5 D (.lst (j5++[y]))) else Pv (i+1) j5 H4)
  (hd:∀j5 H2,Pv kvs.length j5 H2->Q 2#1 H2):Ex (Y1 P w K d u kvs) tt te σf D Q H:=by
 refine⟨λk i j5 H=>k=1#3-i/\i<=1#3/\Pv i j5 H,⟨1#3,by simp,Nat.zero_le _,h0⟩,?_⟩;rintro k i j5 H2 ⟨rfl,hi,p⟩;have q:=hl i j5 H2 hi p
 by_cases hlt:i<kvs.length
 ·refine .inr ⟨⟨q,hlt⟩,Pv (i+1),λl H' p'=>⟨1#3-(i+1),by lia,rfl,hlt,p'⟩,λx H' y=>?_⟩;rcases y with⟨e,b,k,v,ex,hk,hb⟩;subst e ex;exact hs i b k v j5 _ hk hb p
 ·have e:i=1#3:=by lia
  subst e;exact .inl ⟨⟨q,cj _⟩,hd j5 H2 p⟩
section
variable{P:qT}{w:qU}{K:qV}
theorem Dc(hP:X.prog=P)(hw:X.w=w)(hK:X.K=K)(hu:7#2+1<cLine)(ho:PE X o td)(hi:PE X i ty)(hs:U3 i):PE X 10#7 (V6 P w K td ty):=by subst hP hw hK;exact VC hu ho hi hs
theorem VF(hP:X.prog=P)(hw:X.w=w)(hK:X.K=K)(hu:7#2+1<cLine)(hi:PE X i ty)(ho:PE X o td):PC X .In i o (Zd P w K ty td):=by subst hP hw hK;exact XU hu hi ho
theorem N7(hP:X.prog=P)(hw:X.w=w)(hK:X.K=K)(hu:7#2+1<cLine)(hi:PE X i ty)(ho:PE X o td):PC X .NotIn i o (PL P w K ty td):=by subst hP hw hK;exact Qp hu hi ho
theorem ML(hP:X.prog=P)(hw:X.w=w)(hK:X.K=K)(hu:7#2+1<cLine)(ho:PE X o td)(hi:PE X i ty)(hv:PE X value tv)(hs:swapsWith value (some (.Subscript o i pos')) pos.line 1#2=pure false):PS X (.Assign [.Subscript o i pos'] value pos) (V7 P w K td ty tv):=by subst hP hw hK;exact VD hu ho hi hv hs
theorem JF(hP:X.prog=P)(hw:X.w=w)(hK:X.K=K):PE X (.Dict [] [] pos) (V8 P w K):=by subst hP hw hK;exact VE
theorem N8(hP:X.prog=P)(hw:X.w=w)(hK:X.K=K):Co X (.builtin "len") (λxs H Q=>∃(d:qR) (u:HO) (kvs:List (List BW×V)),xs=[V.ref d]/\DR P w K H d u kvs/\Q (.int 1#3) H):=by subst hP hw hK;exact Qq
theorem He(hP:X.prog=P)(hw:X.w=w)(hK:X.K=K)(hu:7#2+1<cLine):Yy X "dict.setdefault" (λx xs H Q=>∃(d b:qR) (kvs:List (List BW×V)) (k:List BW) (y:V),x=.ref d/\xs=[.ref b,y]/\DW P w K H d kvs/\Ai K H b 7#0/\1#3<sizeLine /\
  (∀z,Ba kvs k=some z->Q z H)/\(Ba kvs k=none->∀u',DW P w K 4#8 d 19#0->Q y 4#8)):=by subst hP hw hK;exact N5 hu
theorem FX(hP:X.prog=P)(hw:X.w=w)(hK:X.K=K){l:Expr}(hl:PE X l tl):PI X tg l (S5 P w K tl):=by subst hP hw hK;exact S6 hl
noncomputable def PM(K:qV)(a:qR)(ns:qW):Bool:=match K.lookup a with
 |some o=>o.cls==.type "tuple"&&(match 9#1 with|.seq its _=>decide (its.size<=1000)&&decide (its.toList.map Wo=ns.map λn=>some (V.int n))|_=>false)
 |none=>false
end
end
theorem S7:∀{ns:qW} {us:List qQ},us.map Wo=ns.map (λn=>some (V.int n))->Av 1#8 us:=by
 intro ns
 induction ns with
 |nil=>intro us h;cases us with|nil=>exact .nil|cons u us=>cases h
 |cons n ns ih =>
  intro us h;cases us with
  |nil=>cases h
  |cons u us =>
   rw[d9,d9]at h
   injection h with h1 h2
   refine .cons ?_ (ih h2);cases u with
   |int i t=>cases h1;exact⟨_,rfl⟩
   |_=>cases h1
theorem GS{K:qV}{ns:qW}(h:PM K a ns=true)(H:Hp):Ai K H a 1#8:=by
 delta PM at h
 cases e:K.lookup a with
 |none=>rw[e]at h;cases h
 |some o =>
  rw[e]at h;obtain⟨h1,h2⟩:=(eO ..).mp h;cases ed:o.data with
  |seq its n =>
   rw[ed]at h2;have h2:=(eO ..).mp h2;have s:=qN h2.1;exact .inr ⟨o,its,n,e,eq_of_beq h1,ed,by rw[sizeLine_eq];lia,S7 (qN h2.2)⟩
  |_=>rw[ed]at h2;cases h2
def bR(P:qT)(w:qU)(K:qV)(r:V->List V->Hp->VK->Prop)(to:TE)(t:TA):TE:=λσ H Q=>to σ H λx H1=>(∃(d:qR) (u:HO) (kvs:List (List BW×V)),x=.ref d/\DR P w K H1 d u kvs)/\t σ H1 λxs H2=>r x xs H2 Q
theorem S8{X:Cx}{P:qT}{w:qU}{K:qV}{o e:Expr}{t:TA}{apos cpos:Pos}{id:String}{r:V->List V->Hp->VK->Prop}(hP:X.prog=P)(hw:X.w=w)(hK:X.K=K)(slot:Slot "dict" name id)(hty:typeOf 9#6=pure (.type "method_descriptor"))(hm:Yy X id r)(ho:PE X o to)(ha:PA X (e::es) t)(hbase:attributeBase o name X.env 14#8=eval o 1#2:=by rfl)(hfew:((backTo cpos (starEach (e::es) 1#2)).all (λx=>!x.1)&&(backToKw cpos (keywordEach [] 1#2)).all (λx=>x.1.isSome)&&decide ((e::es).length+([]:List Keyword).length+(if ([]:List Keyword).isEmpty then 0 else 1)<30))=true:=by rfl)(hline:(18#4==cpos.line)=true:=by rfl)
  (hs:starEach (e::es) 1#2=(false,eval e 1#2)::starEach es 1#2:=by rfl) (hplain:(backTo cpos 4#2).any (·.1)=false:=by rfl):PE X (.Call 19#7 (e::es) [] cpos) (bR P w K r to t):=by
 subst hP hw hK;intro ad s σ H Q I h;refine wpAny_Call_method_late hbase hfew hline rfl (BM (ho ad s σ H _ I h) λv s1 z9=>?_);obtain⟨x,H1,I1,r1,⟨d,u,kvs,ex,dr⟩,q1⟩:=z9;subst ex;cases r1;rcases dr.at I1 with⟨bs,xs,_,_,_,_,_,dd⟩;have h1:s1.TypeIs 2#2 "dict":=dd.typeIs
 refine⟨"dict",id,fm,slot,hty,h1,λb q=>by cases q;rcases dd with⟨ob,_,_,g1,g2,_⟩;exact⟨ob,g1,g2.2.1⟩,?_⟩
 have hA:=ha cpos ad s1 σ H1 _ I1 q1;rw[hs]at hA⊢;refine Calls.callWith_builtin (by show (false||(backTo cpos (starEach es X.env)).any (·.1))=false;rw[hplain]<;>rfl) (Calls.evalArgs_plain (BM hA λus s2 ⟨vs,H2,I2,r2,q2⟩=>hm ad s2 σ H2 2#2 vs 2#2 us Q I2 rfl r2 q2))
theorem Qs{kvs:List (BW×V)}{g:TG}{tb:TS}(Pv:Nat->St->Hp->Prop)(h0:Pv 0 σ H)(hl:∀i σ H,i<=1#3->Pv i σ H->H d=some 15#5)
  (hs:∀i k v σ H,kvs[i]?=some (k,v)->Pv i σ H->g (kV k) σ H λσ2 H2=>tb {D with nx:=Pv (i+1),ct:=Pv (i+1),bk:=D.nx} σ2 H2) (hd:∀σ H,Pv kvs.length σ H->D.nx σ H):
  ∃W:Nat->Nat->St->Hp->Prop,(∃m,W 0 m σ H)/\∀i m σ H,W i m σ H ->
   ((Sx d o kvs).stop i H/\D.nx σ H)\/((Sx d o kvs).go i H/\∃N:St->Hp->Prop,(∀σ' H',N σ' H'->∃m',m'<m/\W (i+1) m' σ' H')/\∀x H',(Sx d o kvs).yld i H x H'->g x σ H' λσ2 H2=>tb {D with nx:=N,ct:=N,bk:=D.nx} σ2 H2):=by
 refine⟨λi m σ H=>m=1#3-i/\i<=1#3/\Pv i σ H,⟨1#3,by simp,Nat.zero_le _,h0⟩,?_⟩;rintro i m σ H ⟨rfl,hi,p⟩;have q:=hl i σ H hi p
 by_cases hlt:i<kvs.length
 ·refine .inr ⟨⟨q,hlt⟩,Pv (i+1),λσ' H' p'=>⟨1#3-(i+1),by lia,rfl,hlt,p'⟩,λx H' y=>?_⟩;rcases y with⟨e,k,v,ex,hk⟩;subst e ex;exact hs i k v σ _ hk p
 ·have e:i=1#3:=by lia
  subst e;exact .inl ⟨⟨q,cj _⟩,hd σ H p⟩
section
variable{X:Cx}
theorem JG:Yy X "dict.setdefault" (λx xs H Q=>∃(d:qR) (kvs:List (BW×V)) (k:BW) (y:V),x=.ref d/\xs=[kV k,y]/\H d=some 5#1/\1#3<sizeLine /\
  (∀z,Ba kvs k=some z->Q z H)/\(Ba kvs k=none->Q y (AZ H d (.dK 19#0)))):=by
 intro ad s σ H x xs v us Q I rx rs h;obtain⟨d,kvs,k,y,rfl,rfl,e,hz,h1,h2⟩:=h;obtain⟨u1,u2,rfl,r1,r2⟩:=Od rs;cases rx;obtain⟨z,hd,vs,rel,dd⟩:=V4 I.hok e;have hl:3#2<=sizeLine:=by rw[<-rel.length];exact z
 have rk:=rel.val k;refine call_meetsIn fH dd.typeIs PySem.F.entry_dict_setdefault (PySem.F.args_dict_setdefault_3 _ _ _) (kt_meets_setdefault 6#0 d (Iv r1) hd u2) ⟨vs,dd,hl,λp hp=>?_,λhn h' dd' sb=>?_⟩
 ·rw[hp]at rk;cases hv:Ba kvs k with
  |none=>rw[hv]at rk;exact (show False from rk).elim
  |some t =>
   rw[hv]at rk;exact⟨t,H,I.tok _,rk,h1 t hv⟩
 ·have hv:Ba kvs k=none:=by
   cases hv:Ba kvs k with
   |none=>rfl
   |some t=>rw[hv,hn]at rk;exact (show False from rk).elim
  have hlen:(Cf kvs k y).length<=sizeLine:=by have:=Dr kvs k y;lia
  have he:∃q,h'.get? d=some q:=by obtain⟨q,_,_,hq,_⟩:=dd';exact⟨q,hq⟩
  exact⟨y,_,IG (ob:=.dK 19#0) I (by rw[e];exact 6#9) sb he (Sf hlen hd (rel.put k r2) dd'),r2,h2 hv⟩
end
end L2
namespace PySem
open Sem (wp)
section
variable{prog:qT}{w:qU}{K:Type}[DecidableEq K]{knd:KeyKind prog w K}{A:Around}{E:qQ->qS->Prop}{s:qS}
theorem hint_dict{d:qR}{Q:Bool->qS->Prop}(hT:s.TypeIs 2#2 "dict")(h:Q false s):wpAny 0#3 A (Builtin.List.listLengthHint 2#2) Q E s:=by
 unfold Builtin.List.listLengthHint;refine qC (wpAny_specialOf hT F.slot_dict_len.lookup ?_);generalize hid:("dict.__len__":String)=id0
 wp_delta
 rw[show splitId id0=some ("dict","__len__") from by subst hid;decide +kernel];subst hid;refine qC (wpAny_isInstance (T:="dict") (b:=true) hT (by rw[isSubtype_type];kernel_rfl) ?_);refine wpAny_ite_split (λhab=>qG hab (by decide)) (λ_=>?_);refine wpAny_ite_split (λ_=>?_) (λhab=>qG (by decide +kernel) hab);refine qC (wpAny_typeOf hT ?_);exact qD h
theorem extend_dict{R:Result->qS->Prop}{d:qR}{kvs:List (K×qQ)}{ep:Nat}(hh:16#0=none)(hm:(d==sysModules)=false)(hr:s.heap.DictAt knd d kvs ep)(hlen:1#3<=sizeLine)(S:qR)(res:qQ)(c₀:Nat)(hS:s.heap.get? S=some {cls:=.type "list",data:=.seq #[] c₀})
  (hR:∀h' tk acc' c',(∀b o,b≠S->s.heap.get? b=some o->h'.get? b=some o)->h'.get? S=some {cls:=.type "list",dict:=none,data:=.seq acc' c',slots:=#[]} ->
   ItemsOf (λi v=>∃k x,kvs[i]?=some (k,x)/\knd.is k v=true) acc' 1#3->R (.ok (.ret res)) {s with heap:=h',toks:=tk}):
  wpAny 0#3 A.in1 (Builtin.List.listExtendWith (.ref S) 2#2 res)
   (λfin s'=>match fin with|.done f=>R (.ok f) s'|.again c'=>c'.quiet=true/\codeAny 0#3 A c' R s') (λe s'=>R (.error e) s') s:=by
 rcases id hr with⟨o,es,ho,hc,hdat,hk,hp,hn⟩;have hT:s.TypeIs 2#2 "dict":=⟨o,ho,hc.1⟩
 have hSr:S≠d:=λe=>by rw[e,ho]at hS;cases hS;cases hdat
 have hSlt:S<0#1:=cr hS;have hSI:S≠0#1:=dS hSlt;have hdI:d≠0#1:=dS (cr ho)
 have hSf:S∉[0#1,d]:=λhm=>by
  rcases dD.mp hm with z|z
  ·exact hSI z
  ·exact hSr (ce.mp z)
 have W:=(Walks.dictKeys (prog:=prog) (w:=w) (A:=A.in1) (knd:=knd) hh s.heap.objs.size d hdI kvs ep).toS
 have key:∀(h:Heap) (c₁ tk:Nat),h.IsKeyIter s.heap.objs.size d 0 kvs.length ep->h.DictAt knd d kvs ep->(∀b o,b≠S->s.heap.get? b=some o->h.get? b=some o) ->
   h.get? S=some {cls:=.type "list",data:=.seq #[] c₁}->codeAny 0#3 A (.builtin "list.extend.loop" ⟨[.ref S,.ref 0#1,res],[]⟩) R {s with heap:=h,toks:=tk}:=by
  intro h c₁ tk hit hda hk hS₁;refine codeAny_extend_loopS W hlen S hSf res kvs.length 0 _ #[] c₁ rfl (dz _) ⟨hit,hda⟩ hS₁ (ItemsOf.nil _) λs' acc' c' hm hS' hacc=>?_;rw[Moved.eq_with hm];refine hR s'.heap s'.toks acc' c' (λb o hb e=>hm.heap b o (λhmem=>?_) (hk b o hb e)) hS' hacc;rcases dD.mp hmem with e'|hmem
  ·exact hb e'
  ·exact qG 9#7 (by rw[ce.mp hmem];exact dP _)
 unfold Builtin.List.listExtendWith;refine qC (wpAny_typeOf (T:="dict") hT ?_);have h1:Builtin.List.listSameRef (.ref S) 2#2=false:=by simp[Builtin.List.listSameRef,hSr]
 have h2:(Value.type "dict"==Value.type "list")=false:=by decide
 have h3:(Value.type "dict"==Value.type "tuple")=false:=by decide
 simp only[h1,h2,h3,Bool.or_false,Bool.false_eq_true,if_false];refine qC (wpAny_pyIter_dict hm hr ?_);obtain⟨itO,hIt⟩:∃itO:Obj,itO={cls:=.type "dict_keyiterator",data:=.fields #[.ref d,.int 0 0,.int kvs.length 0,.int ep 0]}:=⟨_,rfl⟩;rw[<-hIt];have kp:∀b o,s.heap.get? b=some o->(s.heap.push itO).get? b=some o:=λb o e=>cm _ e
 refine qC (qO (hint_dict ⟨o,kp _ _ ho,hc.1⟩ ?_));have hit₁:(s.heap.push itO).IsKeyIter s.heap.objs.size d 0 kvs.length ep:=⟨_,c9 _ (by rw[hIt];rfl),by rw[hIt],by rw[hIt];rfl⟩;have hd₁:(s.heap.push itO).DictAt knd d kvs ep:=hr.at' λo e=>kp d o e
 have hS₁:=kp _ _ hS;refine wpAny_ite_split (λ_=>?_) (λhab=>qG (by decide +kernel) hab);refine qC (wpAny_rule ?_);refine qC ?_;show wpAny _ _ (updateSeq S (·.push .none) >>= λ_=>updateSeq S (·.pop)) _ _ _;refine qC (wpAny_updateSeq hS₁ rfl ?_);have hS₂:=gC (Obj.mapSeq (·.push 12#7)) hS₁ rfl;refine wpAny_updateSeq (hz:=by seq_fits) hS₂ rfl ?_;have hS₃:=gC (Obj.mapSeq (·.pop)) hS₂ rfl;have up:∀b o,b≠S->(s.heap.push itO).get? b=some o->(((s.heap.push itO).update S (Obj.mapSeq (·.push 12#7))).update S (Obj.mapSeq (·.pop))).get? b=some o:=λb o hb e=>(f8 _ _ (Ne.symm hb)).trans ((f8 _ _ (Ne.symm hb)).trans e)
 refine qD ⟨plainId_quiet F.plain_extend_loop _,key _ _ _ (hit₁.at λo e=>up _ o (Ne.symm hSI) e) (hd₁.at' λo e=>up _ o (Ne.symm hSr) e) (λb o hb e=>up b o hb (kp b o e)) hS₃⟩
end
end PySem
namespace L2
open PySem PySem.Spec PyProof.Rows
end L2
namespace L2
open PySem PySem.Spec PyProof.Rows RW
variable{G i j:Nat}{H H':Hp}{a d:qR}{c dl:qW}{g:Int}{kvs:List (List BW×V)}{te tl:TE}{tg:Expr}{tt:TT}{xs ys:List V}{α β:Type}{σf:List (Option V)}
noncomputable def F7(p:qX):qX:=if p.1=p.2 then (0,0) else p
theorem D8(u:Nat):F7 (u,u)=(0,0):=qF rfl
def GB(G h:Nat)(dl:qW)(p q:qX):Prop:=∃a b,a<h*G/\b<h*G/\a≠b/\dl.getD a 0=dl.getD b 0/\p=F7 (a/G,b/G)/\q=F7 (a%h,b%h)
def JH(G h:Nat)(dl:qW)(rk:qX->Nat):Prop:=∀p q,GB G h dl p q->rk p<rk q
theorem GU{n:Nat}{f:Nat->Int}(h:1<=Al n f):∃j,j<n/\1<=f j:=by
 induction n with
 |zero=>rw[Bs]at h;lia
 |succ n ih =>
  rw[Au]at h
  by_cases z:1<=f n
  ·exact⟨n,by lia,z⟩
  ·obtain⟨j,hj,hf⟩:=ih (by lia);exact⟨j,by lia,hf⟩
theorem S9{n:Nat}{f:Nat->Int}(h1:∀j,j<n->f j<=1)(h2:∀i j,i<n->j<n->i≠j->1<=f i->f j<=0):Al n f<=1:=by
 induction n with
 |zero=>rw[Bs];lia
 |succ n ih =>
  rw[Au];have a:=ih (λj hj=>h1 j (by lia)) λi j hi hj=>h2 i j (by lia) (by lia)
  have b:=h1 n (by lia)
  by_cases z:1<=f n
  ·have c:Al n f<=0:=by
    by_cases y:1<=Al n f
    ·obtain⟨j,hj,hf⟩:=GU y;have:=h2 n j (by lia) (by lia) (by lia) z;lia
    ·lia
   lia
  ·lia
theorem FY{n:Nat}{f g:Nat->Int}(h:∀k,k<n->f k<=g k):Al n f<=Al n g:=by
 induction n with
 |zero=>rw[Bs,Bs];lia
 |succ n ih =>
  rw[Au,Au];have:=ih λk hk=>h k (by lia)
  have:=h n (by lia);lia
theorem II{p:Bool}{x:Int}(h:1<=EH p x):p=true/\1<=x:=by
 unfold EH at h
 split at h
 ·rename_i z;exact⟨z,h⟩
 ·lia
section
variable{h:Nat}
theorem PN{s:Int}{r:qW}{u v:Nat}(hw:1<=US G dl h (s::r) u v):∃j,j<G/\dl.getD (u*G+j) 0=s/\1<=US G dl h r ((u*G+j)%h) v:=by obtain⟨j,hj,hf⟩:=GU (show 1<=Al G _ from hw);obtain⟨h1,h2⟩:=II hf;exact⟨j,hj,qN h1,h2⟩
theorem IJ{u:Nat}(hu:u<h)(hj:j<G):u*G+j<h*G:=by have:=gK G (show u+1<=h from hu);rw[jI,Nat.one_mul]at this;lia
theorem Dd{u:Nat}(hj:j<G):(u*G+j)/G=u:=by rw[iu,Nat.add_mul_div_right _ _ (by lia),Nat.div_eq_of_lt hj,Nat.zero_add]
theorem V9{rk:qX->Nat}(hr:JH G h dl rk)(h0:0<h){v:Nat}:∀(r:qW) {u u':Nat},u<h->u'<h->1<=US G dl h r u v->1<=US G dl h r u' v->rk (F7 (u,u'))<=rk (0,0)
 |[],u,u',_,_,h1,h2=>by
  have e:∀{u:Nat},1<=US G dl h [] u v->u=v:=λ{u} z=>by
   have z:(1:Int)<=if u=v then 1 else 0:=z
   by_cases y:u=v
   ·exact y
   ·rw[qE y]at z;lia
  rw[e h1,e h2,D8];exact cj _
 |s::r,u,u',hu,hu',h1,h2=>by
  obtain⟨j,hj,hs,hw⟩:=PN h1;obtain⟨j',hj',hs',hw'⟩:=PN h2
  by_cases e:u*G+j=u'*G+j'
  ·have:u=u':=by rw[<-Dd (u:=u) hj,e,Dd hj']
   rw[this,D8];exact cj _
  ·have a:=hr _ _ ⟨u*G+j,u'*G+j',IJ hu hj,IJ hu' hj',e,hs.trans hs'.symm,rfl,rfl⟩;rw[Dd hj,Dd hj']at a;have b:=V9 hr h0 r (fM (u*G+j) h0) (fM (u'*G+j') h0) hw hw';lia
theorem TB{rk:qX->Nat}(hr:JH G h dl rk)(h0:0<h){v:Nat}:∀(r:qW) {u:Nat},u<h->US G dl h r u v<=1
 |[],u,_=>by
  show (if u=v then (1:Int) else 0)<=1
  split<;>lia
 |s::r,u,hu=>by
  refine S9 (λj hj=>?_) λi j hi hj ne hp=>?_
  ·have a:=TB hr h0 (v:=v) r (fM (u*G+j) h0);unfold EH
   split<;>lia
  ·obtain⟨p1,p2⟩:=II hp
   by_cases z:1<=EH (decide (dl.getD (u*G+j) 0=s)) (US G dl h r ((u*G+j)%h) v)
   ·obtain⟨q1,q2⟩:=II z;have a:=hr _ _ ⟨u*G+i,u*G+j,IJ hu hi,IJ hu hj,by lia,(qN p1).trans (qN q1).symm,rfl,rfl⟩;rw[Dd hi,Dd hj,D8]at a;have b:=V9 hr h0 r (fM (u*G+i) h0) (fM (u*G+j) h0) p2 q2;lia
   ·lia
end
theorem TC(h0:0<0#0/G):∀(r:qW) {u:Nat},u<0#0/G->DF G dl r u=Al (0#0/G) λv=>US G dl (0#0/G) r u v
 |[],u,hu=>by
  have z:=Ls (0#0/G) u hu 1;refine z.symm.trans (Ay λv _=>?_);show EH (decide (v=u)) 1=if u=v then 1 else 0;unfold EH
  by_cases e:v=u
  ·rw[qF (qH e),qF e.symm]
  ·rw[qE (by rw[decide_eq_true_iff];exact e),qE λy=>e y.symm]
 |s::r,u,hu=>by
  show Al G (λj=>EH (decide (dl.getD (u*G+j) 0=s)) (DF G dl r ((u*G+j)%(0#0/G))))=Al _ λv=>Al G λj=>EH (decide (dl.getD (u*G+j) 0=s)) (US G dl (0#0/G) r ((u*G+j)%(0#0/G)) v)
  rw[DQ];refine Ay λj _=>?_;rw[TC h0 r (fM _ h0),U6]
theorem XV{rk:qX->Nat}(hr:JH G (0#0/G) dl rk)(h0:0<0#0/G)(r:qW):Bj G dl r<=((0#0/G:Nat):Int)*((0#0/G:Nat):Int):=by unfold Bj;refine iE (FY (g:=λ_=>((0#0/G:Nat):Int)) λu hu=>?_) (by rw[BC];exact fR _);rw[TC h0 r hu];refine iE (FY (g:=λ_=>(1:Int)) λv _=>TB hr h0 r hu) ?_;rw[BC,ig];exact fR _
theorem MM(h0:0<0#0/G)(c:qW):∀(r:qW) {u:Nat},u<0#0/G->1<=DF G dl (r++c) u->∃v,v<0#0/G/\1<=DF G dl c v
 |[],u,hu,h=>⟨u,hu,h⟩
 |s::r,u,hu,h=>by obtain⟨j,hj,hf⟩:=GU (show 1<=Al G _ from h);exact MM h0 c r (fM _ h0) (II hf).2
theorem JI(h0:0<0#0/G){r:qW}(h:1<=Bj G dl (r++c)):1<=Bj G dl c:=by obtain⟨u,hu,hc⟩:=GU (show 1<=Al _ _ from h);obtain⟨v,hv,hw⟩:=MM h0 c r hu hc;exact iE hw (IE (λk _=>CZ G dl c k) hv)
theorem MN{n:Nat}{f:Nat->Int}{M:Int}(h:∀k,k<n->f k<=M)(e:(n:Int)*M<=Al n f):∀k,k<n->f k=M:=by
 induction n with
 |zero=>intro k hk;lia
 |succ n ih =>
  rw[Au]at e
  have a:Al n f<=(n:Int)*M:=by rw[<-BC];exact FY λk hk=>h k (by lia)
  have b:=h n (by lia);have c:((n+1:Nat):Int)*M=(n:Int)*M+M:=by rw[fK,Int.add_mul];lia
  intro k hk
  by_cases z:k=n
  ·subst z;lia
  ·exact ih (λk hk=>h k (by omega)) (by omega) k (by omega)
theorem Hf(G2:2<=G)(hb:∀n∈dl,0<=n/\n<(G:Int)){rk:qX->Nat}(hr:JH G (0#0/G) dl rk)(h0:0<0#0/G)(hc:∀n∈c,0<=n/\n<(G:Int)):1<=Bj G dl c:=by
 have bd:=XV hr h0;generalize ((0#0/G:Nat):Int)*((0#0/G:Nat):Int)=B at bd
 have top:∀(k:Nat) (r:qW),B-Bj G dl r<=(k:Int)->∃r':qW,Bj G dl r<=Bj G dl r'/\∀s:qW,Bj G dl s<=Bj G dl r':=by
  intro k
  induction k with
  |zero =>
   intro r hk;exact⟨r,fR _,λs=>by have:=bd s;lia⟩
  |succ k ih =>
   intro r hk
   by_cases z:∃s,Bj G dl r<Bj G dl s
   ·obtain⟨s,hs⟩:=z;obtain⟨r',h1,h2⟩:=ih s (by lia);exact⟨r',by lia,h2⟩
   ·exact⟨r,fR _,λs=>by
     by_cases y:Bj G dl s<=Bj G dl r
     ·exact y
     ·exact qG ⟨s,by lia⟩ z⟩
 obtain⟨r,h1,h2⟩:=top (B-Bj G dl []).toNat [] (by lia)
 have one:1<=Bj G dl []:=by have z:Bj G dl []=((0#0/G:Nat):Int)*1:=BC _ _;rw[z];lia
 have ext:∀(k:Nat) (c:qW),c.length=k->(∀n∈c,0<=n/\n<(G:Int))->Bj G dl (r++c)=Bj G dl r:=by
  intro k
  induction k with
  |zero =>
   intro c hl _;rw[gf.mp hl,dU]
  |succ k ih =>
   intro c hl hcb;have ne:c≠[]:=λz=>by rw[z]at hl;cases hl
   have e:=g8 ne;have lb:=hcb _ (List.getLast_mem ne);have a:=ih c.dropLast (by rw[jE];lia) λn hn=>hcb n ((List.dropLast_subset c) hn)
   have b:=ET G2 hb (r++c.dropLast);rw[a]at b;have d:=MN (n:=G) (f:=λs=>Bj G dl (r++c.dropLast++[(s:Int)])) (M:=Bj G dl r) (λk _=>h2 _) (by rw[b,ej];exact fR _) (c.getLast ne).toNat (by lia);rw[show (((c.getLast ne).toNat:Nat):Int)=c.getLast ne by lia,de,e]at d;exact d
 exact JI h0 (r:=r) (by rw[ext _ c rfl hc];lia)
section
variable{S:qX->qX->Prop}{rk:qX->Nat}{p:Nat->qX}{n:Nat}
def KL(S:qX->qX->Prop)(p:Nat->qX)(n:Nat):Prop:=∀i,i<n->(p i=(0,0)/\p (i+1)=(0,0))\/S (p i) (p (i+1))
theorem KL.up(hr:∀a b,S a b->rk a<rk b)(t:KL S p n):∀(k i:Nat),i+k<=n->rk (p i)<=rk (p (i+k))
 |0,i,_=>cj _
 |k+1,i,h=>by
  have a:=KL.up hr t k i (by lia);rcases t (i+k) (by lia) with⟨x,y⟩|y
  ·rw[show i+(k+1)=i+k+1 by lia,y,<-x];exact a
  ·have:=hr _ _ y;rw[show i+(k+1)=i+k+1 by lia];lia
theorem KL.gone(hr:∀a b,S a b->rk a<rk b)(t:KL S p n)(h0:p i=(0,0))(h1:p (i+1)≠(0,0))(hij:i<j)(hj:j<=n):p j≠(0,0):=λe=>by
 rcases t i (by lia) with⟨_,y⟩|y
 ·exact h1 y
 ·have a:=hr _ _ y;have b:=t.up hr (j-(i+1)) (i+1) (by lia);rw[show i+1+(j-(i+1))=j by lia,e]at b;rw[h0]at a;lia
theorem KM(h0:p i=(0,0))(hij:i<=j)(h1:p j≠(0,0)):∃k,i<=k/\k<j/\p k=(0,0)/\p (k+1)≠(0,0):=by
 induction j with
 |zero =>
  have:i=0:=by lia
  subst this;exact qG h0 h1
 |succ j ih =>
  by_cases e:p j=(0,0)
  ·refine⟨j,?_,by lia,e,h1⟩
   by_cases z:i=j+1
   ·rw[z]at h0;exact qG h0 h1
   ·lia
  ·by_cases z:i=j+1
   ·rw[z]at h0;exact qG h0 h1
   ·rcases ih (by lia) e with⟨k,a,b,c,d⟩;exact⟨k,a,by lia,c,d⟩
theorem KL.after(hr:∀a b,S a b->rk a<rk b)(t:KL S p n){left:Nat}(hL:∀(q:Nat->qX) (k:Nat),q 0=(0,0)->(∀i,i<k->S (q i) (q (i+1)))->k<=left)(h0:p i=(0,0))(hij:i<=j)(hj:j+left<=n):p j=(0,0):=by
 by_cases e:p j=(0,0)
 ·exact e
 ·exfalso;obtain⟨k,a,b,c,d⟩:=KM h0 hij e
  have z:=hL (λx=>p (k+x)) (n-k) c λx hx=>by
   rcases t (k+x) (by lia) with⟨y,y'⟩|y
   ·exfalso
    by_cases x0:x=0
    ·subst x0;exact d y'
    ·exact t.gone hr c d (show k<k+x by lia) (by lia) y
   ·exact y
  lia
theorem N9(h1:p j≠(0,0)):∀(d:Nat),p (j+d)=(0,0)->∃k,j<k/\k<=j+d/\p k=(0,0)/\∀x,j<=x->x<k->p x≠(0,0):=λd=>by
 induction d using Nat.strongRecOn with
 |_ d ih =>
  intro h0
  by_cases z:∃x,x<d/\p (j+x)=(0,0)
  ·obtain⟨x,hx,e⟩:=z;obtain⟨k,a,b,c⟩:=ih x hx e;exact⟨k,a,by lia,c⟩
  ·refine⟨j+d,?_,cj _,h0,λx hx hxi e=>z ⟨x-j,by lia,by rw[show j+(x-j)=x by lia];exact e⟩⟩
   by_cases e:d=0
   ·subst e;exact qG h0 h1
   ·lia
theorem KL.ahead(hr:∀a b,S a b->rk a<rk b)(t:KL S p n){j3:Nat}(hE:∀(q:Nat->qX) (k:Nat),q k=(0,0)->(∀i,i<k->S (q i) (q (i+1)))->k<=j3)(h0:p i=(0,0))(hij:j<=i)(hi:i<=n)(hj:j3<=j):p j=(0,0):=by
 by_cases e:p j=(0,0)
 ·exact e
 ·exfalso;obtain⟨k,jk,ki,k0,kn⟩:=N9 e (i-j) (by rw[show j+(i-j)=i by lia];exact h0)
  have z:=hE p k k0 λx hx=>by
   rcases t x (by lia) with⟨y,y'⟩|y
   ·exfalso
    by_cases xj:x<=j
    ·obtain⟨k',a,b,c,d⟩:=KM y xj e;exact t.gone hr c d (show k'<k by lia) (by lia) k0
    ·exact kn x (by lia) hx y
   ·exact y
  lia
theorem KL.some(hr:∀a b,S a b->rk a<rk b)(t:KL S p n)(hn:∀i,rk (p i)<n):∃i,i<=n/\p i=(0,0):=by
 by_cases z:∃i,i<=n/\p i=(0,0)
 ·exact z
 ·exfalso
  have a:∀k,k<=n->k<=rk (p k):=by
   intro k
   induction k with
   |zero=>intro _;lia
   |succ k ih =>
    intro hk;have:=ih (by lia);rcases t k (by lia) with⟨y,_⟩|y
    ·exact qG ⟨k,by lia,y⟩ z
    ·have:=hr _ _ y;lia
  have:=a n (cj _);have:=hn n;lia
end
theorem Cj{m:Nat}{ns:qW}(h:i+m<=1#6):(Ak g dl m ns).getD i 0=dl.getD (An g ((ns.drop i).take m)).toNat 0:=by unfold Ak;rw[AT (by lia)];rfl
theorem Bk(l:qW)(k i:Nat):(l.drop k).getD i 0=l.getD (k+i) 0:=by rw[cV,cV,List.getElem?_drop]
theorem JJ{m:Nat}{ns:qW}{k:Nat}(hk:k<=1#6)(m1:1<=m):Ak g dl m (ns.take k)=(Ak g dl m ns).take (k+1-m):=by
 have l1:(ns.take k).length=k:=by rw[dN];lia
 refine Ab (by rw[Ag,l1,dN,Ag,iC (Nat.sub_le_sub_right (Nat.succ_le_succ hk) m)]) λi hi=>?_;rw[Ag,l1]at hi;rw[B5 hi,Cj (by lia),Cj (by lia)]
 congr 3
 rw[gJ,List.take_take,iC (by lia)]
theorem JK{m:Nat}{ns:qW}{k:Nat}(hk:k+m<=1#6+1)(m1:1<=m):Ak g dl m (ns.drop k)=(Ak g dl m ns).drop k:=by have l1:(ns.drop k).length=1#6-k:=dJ ..;refine Ab (by rw[Ag,l1,dJ,Ag,Nat.sub_right_comm (1#6+1),Nat.sub_add_comm (show k<=1#6 by lia)]) λi hi=>?_;rw[Ag,l1]at hi;rw[Bk,Cj (by lia),Cj (by lia),gv]
theorem K3(hg:2<=g){a b:qW}(ha:∀n∈a,0<=n/\n<g)(hb:∀n∈b,0<=n/\n<g)(hl:a.length=b.length)(e:An g a=An g b):a=b:=
 Ab hl λj hj=>by rw[<-ER hg ha hj,<-ER hg hb (by lia),e,hl]
noncomputable def D9(g:Int)(m:Nat)(y:qW)(i:Nat):Nat:=(An g ((y.drop i).take (m-1))).toNat
variable{y:qW}
section
variable(hg:2<=g){m:Nat}(hl:(dl.length:Int)=g^m)(m2:2<=m)
include hg hl m2
theorem JL(hy:∀n∈y,0<=n/\n<g)(hi:i+m<=y.length):(An g ((y.drop i).take m)).toNat/0#2=D9 g m y i/\(An g ((y.drop i).take m)).toNat%(0#0/0#2)=D9 g m y (i+1):=by
 have hd:((y.drop i).take m)=(y.drop i).take (m-1)++[y.getD (i+(m-1)) 0]:=by
  have hlt:m-1<(y.drop i).length:=by rw[dJ];lia
  rw[show m=m-1+1 by lia,eJ,cX hlt,List.getElem_drop,cV,cX (by lia)];rfl
 have wl:((y.drop i).take (m-1)).length=m-1:=FP (by lia)
 have wb:∀n∈(y.drop i).take (m-1)++[y.getD (i+(m-1)) 0],0<=n/\n<g:=by rw[<-hd];exact λn hn=>hy n (dW (di hn))
 have xb:=wb _ (cZ.mpr (.inr 10#3));have nb:=BR hg λn hn=>wb n (cZ.mpr (.inl hn))
 have e:(An g ((y.drop i).take m)).toNat=(An g ((y.drop i).take (m-1))).toNat*0#2+(y.getD (i+(m-1)) 0).toNat:=by
  rw[hd,D4];have:((An g ((y.drop i).take (m-1))).toNat:Int)*(0#2:Int)=An g ((y.drop i).take (m-1))*g:=by rw[dE nb.1,dE (by lia)]
  have:=ip nb.1 (show 0<=g by lia);have z:(((An g ((y.drop i).take (m-1))).toNat*0#2+(y.getD (i+(m-1)) 0).toNat:Nat):Int)=An g ((y.drop i).take (m-1))*g+y.getD (i+(m-1)) 0:=by rw[fK,eS];lia
  lia
 refine⟨?_,?_⟩
 ·rw[e];exact Dd (by lia)
 ·rw[e,Qj hg hl (by lia) wl wb,<-hd,gJ,gv];rfl
theorem PP{z:qW}(hy:∀n∈y,0<=n/\n<g)(hz:∀n∈z,0<=n/\n<g)(le:y.length=z.length)(hi:i+(m-1)<=y.length)(e:F7 (D9 g m y i,D9 g m z i)=(0,0))(hj:j<m-1):y.getD (i+j) 0=z.getD (i+j) 0:=by
 have a:D9 g m y i=D9 g m z i:=by
  unfold F7 at e
  split at e
  ·assumption
  ·have e1:=qP Prod.fst e;have e2:=qP Prod.snd e;exact e1.trans e2.symm
 unfold D9 at a;have by':∀n∈(y.drop i).take (m-1),0<=n/\n<g:=λn hn=>hy n (dW (di hn))
 have bz':∀n∈(z.drop i).take (m-1),0<=n/\n<g:=λn hn=>hz n (dW (di hn))
 have n1:=BR hg by'
 have n2:=BR hg bz';have b:=K3 hg by' bz' (by rw[FP hi,FP (by lia)]) (by lia)
 have c:=qP (λl:qW=>l.getD j 0) b;have c:((y.drop i).take (m-1)).getD j 0=((z.drop i).take (m-1)).getD j 0:=c;rw[B5 hj,B5 hj,Bk,Bk]at c;exact c
theorem KN{z:qW}(hy:∀n∈y,0<=n/\n<g)(hz:∀n∈z,0<=n/\n<g)(le:y.length=z.length)(e:Ak g dl m y=Ak g dl m z):KL (GB g.toNat (0#0/0#2) dl) (λi=>F7 (D9 g m y i,D9 g m z i)) (y.length+1-m):=λi hi=>by
 obtain⟨a1,a2⟩:=JL hg hl m2 hy (show i+m<=y.length by lia);obtain⟨b1,b2⟩:=JL hg hl m2 hz (show i+m<=z.length by lia);have hd:=(Ao hg hl (by lia)).2;have ya:=(Ng hg hy hl (show i+m<=y.length by lia)).2;have za:=(Ng hg hz hl (show i+m<=z.length by lia)).2;have te:dl.getD (An g ((y.drop i).take m)).toNat 0=dl.getD (An g ((z.drop i).take m)).toNat 0:=by rw[<-Cj (by lia),<-Cj (by lia),e]
 generalize (An g ((y.drop i).take m)).toNat=a at *;generalize (An g ((z.drop i).take m)).toNat=b at *
 by_cases ab:a=b
 ·subst ab;refine .inl ⟨?_,?_⟩
  ·show F7 (D9 g m y i,D9 g m z i)=_;rw[<-a1,<-b1,D8]
  ·show F7 (D9 g m y (i+1),D9 g m z (i+1))=_;rw[<-a2,<-b2,D8]
 ·refine .inr ⟨a,b,by rw[<-hd];exact ya,by rw[<-hd];exact za,ab,te,?_,?_⟩
  ·rw[a1,b1]
  ·rw[a2,b2]
end
variable{S:qX->qX->Prop}
section
variable(hg:2<=g){m:Nat}(hl:(dl.length:Int)=g^m)(m2:2<=m)(hb:∀n∈dl,0<=n/\n<g)
include hg hl m2
theorem KL.less{p:Nat->qX}{n k:Nat}(t:KL S p n)(h:k<=n):KL S p k:=λi hi=>t i (by lia)
theorem KL.from{p:Nat->qX}{n:Nat}(t:KL S p n){k d:Nat}(h:d+k<=n):KL S (λi=>p (d+i)) k:=λi hi=>t (d+i) (by lia)
include hb
theorem MO{rk:qX->Nat}(hr:JH g.toNat (0#0/0#2) dl rk)(hc:∀n∈c,0<=n/\n<g):∃w:qW,4#4=c.length+m-1/\(∀n∈w,0<=n/\n<g)/\Ak g dl m w=c:=by
 have hG:(0#2:Int)=g:=by lia
 have hd:=Ao hg hl (show 1<=m by lia);have hp:=RW.Ad hg (m-1);have z:=Hf (G:=0#2) (by lia) (by rw[hG];exact hb) hr (by lia) (c:=c) (by rw[hG];exact hc);rw[<-FV (g:=g) dl m c]at z;obtain⟨w,hw⟩:=List.exists_mem_of_length_pos (show 0<(Di g dl m c).length by lia);rw[<-D6 hg hl (by lia) c]at hw;obtain⟨h1,h2⟩:=db.mp hw;obtain⟨n,hn,rfl⟩:=dG.mp h1;have hn:=dA.mp hn;exact⟨_,BS ..,B4 hg _ _,qN h2⟩
theorem Qt{rk:qX->Nat}(hr:JH g.toNat (0#0/0#2) dl rk){R:Nat}(hR:∀p,rk p<R){j3 left:Nat}
  (hE:∀(q:Nat->qX) (k:Nat),q k=(0,0)->(∀i,i<k->GB g.toNat (0#0/0#2) dl (q i) (q (i+1)))->k<=j3)
  (hL:∀(q:Nat->qX) (k:Nat),q 0=(0,0)->(∀i,i<k->GB g.toNat (0#0/0#2) dl (q i) (q (i+1)))->k<=left)
  {y z:qW} (hy:∀n∈y,0<=n/\n<g) (hz:∀n∈z,0<=n/\n<g) (ly:y.length=j3+left+1) (lz:z.length=j3+left+1) (e:Ak g dl m y=Ak g dl m z):y.getD j3 0=z.getD j3 0:=by
 have rb:∀k,∀n∈List.replicate k (0:Int),0<=n/\n<g:=λk n hn=>by rw[(List.mem_replicate.mp hn).2];lia
 obtain⟨A,hA⟩:∃A:qW,A=List.replicate (R+m) 0:=⟨_,rfl⟩;obtain⟨B,hB⟩:∃B:qW,B=List.replicate (R+j3+m) 0:=⟨_,rfl⟩;have lA:4#3=R+m:=by rw[hA,eW]
 have lB:B.length=R+j3+m:=by rw[hB,eW]
 have Yb:∀n∈A++y,0<=n/\n<g:=λn hn=>(cZ.mp hn).elim (λh=>rb _ n (hA▸h)) (hy n)
 have Zb:∀n∈z++B,0<=n/\n<g:=λn hn=>(cZ.mp hn).elim (hz n) (λh=>rb _ n (hB▸h))
 clear hA hB;have lY:(A++y).length=R+m+(j3+left+1):=by rw[cg,lA,ly]
 have lZ:(z++B).length=j3+left+1+(R+j3+m):=by rw[cg,lB,lz]
 obtain⟨X,lX,bX,x1,x2⟩:∃X:qW,X.length=R+(j3+left+1)+(R+j3+m)+1/\(∀n∈X,0<=n/\n<g)/\X.take (R+(j3+left+1)+1)=Ak g dl m (A++y)/\X.drop (R+m)=Ak g dl m (z++B):=by
  have b1:=FQ hg hb m (A++y);have b2:=FQ hg hb m (z++B);have l1:(Ak g dl m (A++y)).length=R+(j3+left+1)+1:=by rw[Ag,lY,hJ R,hJ,fh]
  have l2:(Ak g dl m (z++B)).length=j3+left+1+(R+j3)+1:=by rw[Ag,lZ,<-iI,hJ,fh]
  by_cases c:m<=j3+left+1+1
  ·have f1:(Ak g dl m (A++y)).drop (R+m)=Ak g dl m y:=by
    rw[<-JK (by lia) (by lia),show R+m=4#3 from lA.symm,List.drop_left]
   have f2:(Ak g dl m (z++B)).take (j3+left+1+1-m)=Ak g dl m z:=by rw[<-JJ (by lia) (by lia),show j3+left+1=z.length from lz.symm,List.take_left]
   refine⟨Ak g dl m (A++y)++(Ak g dl m (z++B)).drop (j3+left+1+1-m),?_,?_,?_,?_⟩
   ·rw[cg,dJ,l1,l2];obtain⟨d,hd⟩:=Nat.exists_eq_add_of_le c;rw[hd,fq,show j3+left+1+(R+j3)+1=R+j3+m+d by lia,fh];lia
   ·exact λn hn=>(cZ.mp hn).elim (b1 n) λh=>b2 n (dW h)
   ·rw[<-l1,List.take_left]
   ·rw[List.drop_append_of_le_length (by lia),f1,e,<-f2,eI]
  ·refine⟨Ak g dl m (A++y)++(List.replicate (m-(j3+left+1+1)) 0++Ak g dl m (z++B)),?_,?_,?_,?_⟩
   ·rw[cg,cg,eW,l1,l2];lia
   ·exact λn hn=>(cZ.mp hn).elim (b1 n) λh=>(cZ.mp h).elim (rb _ n) (b2 n)
   ·rw[<-l1,List.take_left]
   ·rw[List.drop_append,List.drop_eq_nil_of_le (by lia),jG,List.drop_append,List.drop_eq_nil_of_le (by rw[eW];lia),jG,eW,l1,show R+m-(R+(j3+left+1)+1)-(m-(j3+left+1+1))=0 by lia,gI]
 obtain⟨W,lW,Wb,hW⟩:=MO hg hl m2 hb hr bX;replace lW:W.length=R+(j3+left+1)+(R+j3+m)+m:=by rw[lW,lX];lia
 clear lX bX e;have hrS:∀a b,GB g.toNat (0#0/0#2) dl a b->rk a<rk b:=hr
 have s1:y.getD j3 0=W.getD (R+m+j3) 0:=by
  have lw:(W.take (R+m+(j3+left+1))).length=(A++y).length:=by rw[dN,lY];lia
  have wb:∀n∈W.take (R+m+(j3+left+1)),0<=n/\n<g:=λn hn=>Wb n (di hn)
  have le:Ak g dl m (A++y)=Ak g dl m (W.take (R+m+(j3+left+1))):=by rw[JJ (by lia) (by lia),hW,<-x1,show R+m+(j3+left+1)+1-m=R+(j3+left+1)+1 by rw[hJ R,hJ,fh]]
  have t:=KN hg hl m2 Yb wb lw.symm le;rw[lY]at t;obtain⟨i0,hi,e0⟩:=(KL.less hg hl m2 t (k:=R) (by lia)).some hrS λi=>hR _
  have ee:=t.after hrS hL e0 (j:=R+j3+2) (by lia) (by lia);have s:=PP hg hl m2 Yb wb lw.symm (by lia) ee (j:=m-2) (by lia);rw[show R+j3+2+(m-2)=R+m+j3 by lia,B5 (by lia)]at s;rw[<-s,cV,cV,dC (by lia),show R+m+j3-4#3=j3 by lia]
 have s2:z.getD j3 0=W.getD (R+m+j3) 0:=by
  have lw:(W.drop (R+m)).length=(z++B).length:=by rw[dJ,lZ];lia
  have wb:∀n∈W.drop (R+m),0<=n/\n<g:=λn hn=>Wb n (dW hn)
  have le:Ak g dl m (z++B)=Ak g dl m (W.drop (R+m)):=by rw[JK (by lia) (by lia),hW,x2]
  have t:=KN hg hl m2 Zb wb lw.symm le;rw[lZ]at t;obtain⟨i0,hi,e0⟩:=(KL.from hg hl m2 t (k:=R) (d:=j3) (by lia)).some hrS λi=>hR _
  have ee:=t.ahead hrS hE e0 (j:=j3) (by lia) (by lia) (cj _);have s:=PP hg hl m2 Zb wb lw.symm (by lia) ee (j:=0) (by lia);rw[Bk,i4]at s;rw[<-s,cV,cV,df (by lia)]
 rw[s1,s2]
end
def TD(p:qX):List V:=[.int (p.1:Int),.int (p.2:Int)]
abbrev C8(K:qV)(H:Hp):List qR->List (qX)->Prop:=Paired λp x=>Ai K H p (TD x)
variable{L:List (qX)}
theorem C8.same{K:qV}{ps:List qR}(e:AG H H')(h:C8 K H ps L):C8 K H' ps L:=Paired.mapP h λ_ _ z=>z.same' e
theorem Paired.app{F:α->β->Prop}{a:List α}{b:List β}{c:List α}{d:List β}(p:Paired F a b)(h:Paired F c d):Paired F (a++c) (b++d):=by
 induction p with
 |nil=>exact h
 |cons r _ ih=>exact .cons r ih
theorem Ai.updL{K:qV}{u:HO}(hd:H d=some (.lst ys))(q:Ai K H a xs):Ai K (AZ H d u) a xs:=by
 rcases q with (z|⟨o,z⟩)|z
 ·exact .inl (.inl (by rw[AI (Dk z hd λy=>nomatch y)];exact z))
 ·exact .inl (.inr ⟨o,by rw[AI (Dk z hd λy=>nomatch y)];exact z⟩)
 ·exact .inr z
theorem C8.upd{K:qV}{ps:List qR}{u:HO}(hd:H d=some (.lst ys))(h:C8 K H ps L):C8 K (AZ H d u) ps L:=Paired.mapP h λ_ _ z=>z.updL hd
inductive MQ(K:qV)(vs:List V)(H:Hp)(Q:VK)(z3_:XK):Prop
 |m (a b:Nat):vs=[.int (a:Int),.int (b:Int)]->(∀p H',AG H H'->Ai K H' p (TD (F7 (a,b)))->Q 1#5 H')->MQ K vs H Q z3_
inductive PQ(K:qV)(vs:List V)(H:Hp)(Q:VK)(z3_:XK):Prop
 |m (r q:qR) (g lo:Int) (dl:qW) (m a b:Nat):vs=[.ref r,.ref q]->AS H r g lo dl m->Ai K H q (TD (a,b))->(∀p H',AG H H'->Ai K H' p (TD (F7 (a/0#2,b/0#2)))->Q 1#5 H')->PQ K vs H Q z3_
inductive WA(K:qV)(vs:List V)(H:Hp)(Q:VK)(z3_:XK):Prop
 |m (r q:qR) (g lo:Int) (dl:qW) (m a b:Nat):vs=[.ref r,.ref q]->AS H r g lo dl m->Ai K H q (TD (a,b))->(∀p H',AG H H'->Ai K H' p (TD (F7 (a%(0#0/0#2),b%(0#0/0#2))))->Q 1#5 H')->WA K vs H Q z3_
noncomputable def OA(h n:Nat):List (qX):=((List.range h).filter λo=>decide (o≠n)).map λo=>(n,o)
theorem VG(h n:Nat):(OA h n).length<=h:=by unfold OA;rw[cU];exact dM (fT ..) (by rw[dL];exact cj _)
theorem GV(h:Nat):∀i:Nat,((List.range i).flatMap (OA h)).length<=i*h
 |0=>dz _
 |i+1=>by rw[d8,f7,cg,jI,eR,iQ,dU];have:=GV h i;have:=VG h i;lia
noncomputable def BO(h:Nat):List (qX):=(0,0)::(List.range h).flatMap (OA h)
noncomputable def TF(dl:qW)(a:Nat):List (qX):=((List.range 0#0).filter λb=>decide (dl.getD b 0=dl.getD a 0)&&decide (b≠a)).map λb=>(a,b)
noncomputable def El(dl:qW):List (qX):=(List.range 0#0).flatMap (TF dl)
inductive TH(K:qV)(vs:List V)(H:Hp)(Q:VK)(z3_:XK):Prop
 |m (r:qR) (g lo:Int) (dl:qW) (m:Nat):vs=[.ref r]->AS H r g lo dl m->g^(m-1)<=9->(∀D H' ps,AG H H'->H D=none->H' D=some 7#1->C8 K H' ps (BO (0#0/0#2))->Q 2#1 H')->TH K vs H Q z3_
inductive TJ(K:qV)(vs:List V)(H:Hp)(Q:VK)(z3_:XK):Prop
 |m (r:qR) (g lo:Int) (dl:qW) (m:Nat):vs=[.ref r]->AS H r g lo dl m->g^(m-1)<=9->(∀D H' ps,AG H H'->H D=none->H' D=some 7#1->C8 K H' ps (El dl)->Q 2#1 H')->TJ K vs H Q z3_
theorem MR{K:qV}{D:qR}{Q:VK}(Pv:Nat->List V->Hp->Prop)(h0:Pv 0 [] (AZ H D (.lst [])))(hl:∀i j5 H,i<=0#7->Pv i j5 H->Ai K H a xs)
  (hs:∀i x p j5 H2,xs[i]?=some x->Pv i j5 H2->H2 p=none->tt (some (.int ((i:Nat):Int))::some x::σf) (AZ H2 p (.tup [.int ((i:Nat):Int),x])) λb H4=>if b=true then te (some (.int ((i:Nat):Int))::some x::σf) H4 λy H5=>H5 D=some 5#0/\j5.length<sizeLine/\Pv (i+1) (j5++[y]) (AZ H5 D (.lst (j5++[y]))) else Pv (i+1) j5 H4)
  (hd:∀j5 H2,Pv xs.length j5 H2->Q 2#1 H2):Gz K (QW K a) tt te σf D Q H:=by
 refine⟨λk i j5 H=>k=0#7-i/\i<=0#7/\Pv i j5 H,⟨0#7,by simp,Nat.zero_le _,h0⟩,?_⟩;rintro k i j5 H2 ⟨rfl,hi,p⟩;have q:=hl i j5 H2 hi p
 by_cases hlt:i<xs.length
 ·refine .inr ⟨⟨xs,xs[i],q,by simp[hlt]⟩,Pv (i+1),λl H' p'=>⟨0#7-(i+1),by lia,rfl,hlt,p'⟩,λv H' y=>?_⟩;rcases y with⟨p2,x,e1,e2,e3,y⟩;subst e1 e3;exact⟨p2,_,_,rfl,Ai.of AC,hs i x p2 j5 H2 (y xs q) p e2⟩
 ·have e:i=0#7:=by lia
  subst e;exact .inl ⟨⟨xs,q,cj _⟩,hd j5 H2 p⟩
theorem VH(dl:qW)(a:Nat):(TF dl a).length<=0#0:=by unfold TF;rw[cU];exact dM (fT ..) (by rw[dL];exact cj _)
theorem E6(dl:qW):∀i:Nat,((List.range i).flatMap (TF dl)).length<=i*0#0
 |0=>dz _
 |i+1=>by rw[d8,f7,cg,jI,eR,iQ,dU];have:=E6 dl i;have:=VH dl i;lia
theorem TK{p:α->Bool}{j:α}(h:p j=true):[j].filter p=[j]:=by rw[List.filter_cons_of_pos h];rfl
theorem PR{p:α->Bool}{j:α}(h:p j=false):[j].filter p=[]:=by rw[List.filter_cons_of_neg (by rw[h];decide)];rfl
noncomputable def Bf(p:qX):List BW:=[Sum.inl (p.1:Int),Sum.inl (p.2:Int)]
variable{p:qX}
theorem JM{q:qX}(h:Bf p=Bf q):p=q:=by
 unfold Bf at h
 injection h with h1 h2
 injection h2 with h2 _
 have a:=Sum.inl.inj h1;have b:=Sum.inl.inj h2;exact Prod.ext (by lia) (by lia)
noncomputable def Ar(A:List (qX))(vs:List V):List (List BW×V):=List.zipWith (λa v=>(Bf a,v)) A vs
theorem CC{A:List (qX)}{vs:List V}(h:3#2=4#3):(Ar A vs).length=4#3:=by unfold Ar;rw[List.length_zipWith,h,Nat.min_self]
theorem EB:∀{A:List (qX)} {vs:List V} {a:qX},a∉A->Ba (Ar A vs) (Bf a)=none
 |[],_,_,_=>rfl
 |_::_,[],_,_=>rfl
 |b::A,v::vs,a,h=>by
  have n1:¬Bf b=Bf a:=λe=>h (by rw[JM e];exact dH)
  show Ba ((Bf b,v)::Ar A vs) (Bf a)=none;rw[Ci (show ¬(Bf b,v).1=Bf a from n1)];exact EB λe=>h (c8 _ e)
theorem CD:∀{A:List (qX)} {vs:List V} {i:Nat} {a:qX} {v:V},17#3->A[i]?=some a->vs[i]?=some v->Ba (Ar A vs) (Bf a)=some v
 |[],_,_,_,_,_,h,_=>by simp at h
 |_::_,[],_,_,_,_,_,h=>by simp at h
 |b::A,v::vs,0,a,w,nd,h1,h2=>by simp at h1 h2;subst h1 h2;exact Da rfl
 |b::A,v::vs,i+1,a,w,nd,h1,h2=>by
  simp at h1 h2;have nd':=d7.mp nd;have n1:¬Bf b=Bf a:=λe=>nd'.1 (by rw[JM e];exact cw h1)
  show Ba ((Bf b,v)::Ar A vs) (Bf a)=some w;rw[Ci (show ¬(Bf b,v).1=Bf a from n1)];exact CD nd'.2 h1 h2
theorem JN{A:List (qX)}{vs:List V}{a:qX}{v:V}(hl:3#2=4#3)(h:a∉A):Cf (Ar A vs) (Bf a) v=Ar (A++[a]) (vs++[v]):=by rw[L6 _ (EB h)];unfold Ar;rw[List.zipWith_append hl.symm];rfl
theorem EC{h:Nat}:p∈BO h↔p=(0,0)\/(p.1<h/\p.2<h/\p.1≠p.2):=by unfold BO;rw[dD,jB];refine or_congr Iff.rfl ⟨λz9=>?_,λ⟨h1,h2,h3⟩=>⟨p.1,dA.mpr h1,dG.mpr ⟨p.2,db.mpr ⟨dA.mpr h2,qH (Ne.symm h3)⟩,rfl⟩⟩⟩;obtain⟨n,hn,hp⟩:=z9;obtain⟨o,ho,rfl⟩:=dG.mp hp;obtain⟨h1,h2⟩:=db.mp ho;exact⟨dA.mp hn,dA.mp h1,Ne.symm (qN h2)⟩
theorem K4{h a b:Nat}(ha:a<h)(hb:b<h):F7 (a,b)∈BO h:=by
 rw[EC];unfold F7;split
 ·exact .inl rfl
 ·rename_i e
  exact .inr ⟨ha,hb,e⟩
theorem JO(h:Nat):∀n:Nat,((List.range n).flatMap (OA h)).Nodup
 |0=>fP
 |n+1=>by
  rw[d8,f7,eR,iQ,dU,eP];refine⟨JO h n,?_,λx hx y hy e=>?_⟩
  ·unfold OA;exact List.Pairwise.map _ (λa b e z=>e (Prod.mk.inj z).2) (List.nodup_range.filter _)
  ·obtain⟨k,hk,hx⟩:=jB.mp hx;obtain⟨_,_,e1⟩:=dG.mp hx;obtain⟨_,_,e2⟩:=dG.mp hy;have:=dA.mp hk;have a:=qP Prod.fst e1;have b:=qP Prod.fst e2;rw[e]at a;have a:k=y.1:=a;have b:n=y.1:=b;lia
theorem Cv(h:Nat):(BO h).Nodup:=by unfold BO;refine d7.mpr ⟨λe=>?_,JO h h⟩;obtain⟨n,_,hp⟩:=jB.mp e;obtain⟨o,ho,e1⟩:=dG.mp hp;have h2:=qN (db.mp ho).2;have a:=qP Prod.fst e1;have b:=qP Prod.snd e1;have a:n=0:=a;have b:o=0:=b;lia
theorem JP{a b:Nat}:(a,b)∈El dl↔a<0#0/\b<0#0/\a≠b/\dl.getD a 0=dl.getD b 0:=by
 unfold El;rw[jB];constructor
 ·rintro⟨n,hn,hp⟩;obtain⟨o,ho,e⟩:=dG.mp hp;obtain⟨h1,h2⟩:=db.mp ho;rw[eO]at h2;cases e;exact⟨dA.mp hn,dA.mp h1,Ne.symm (qN h2.2),(qN h2.1).symm⟩
 ·rintro⟨h1,h2,h3,h4⟩;exact⟨a,dA.mpr h1,dG.mpr ⟨b,db.mpr ⟨dA.mpr h2,by rw[eO];exact⟨qH h4.symm,qH (Ne.symm h3)⟩⟩,rfl⟩⟩
structure EI(K:qV)(H:Hp)(ls:List qR)(A:List (qX))(F:qX->List (qX)):Prop where
 n:ls.length=4#3
 nd:ls.Nodup
 e:∀(i:Nat) (a:qX) (l:qR),A[i]?=some a->ls[i]?=some l->∃ps:List qR,H l=some 7#1/\C8 K H ps (F a)
variable{ls:List qR}{F:qX->List (qX)}
theorem EI.same{K:qV}{A:List (qX)}(e:AG H H')(g:EI K H ls A F):EI K H' ls A F:=
 ⟨g.n,g.nd,λi a l h1 h2=>by obtain⟨ps,h3,h4⟩:=g.e i a l h1 h2;exact⟨ps,e _ _ h3,C8.same e h4⟩⟩
theorem EI.snoc{K:qV}{A:List (qX)}(g:EI K H ls A F){l:qR}{a:qX}(hl:l∉ls)(h:H l=some (.lst []))(hF:F a=[]):EI K H (ls++[l]) (A++[a]) F:=by
 refine⟨by rw[cg,cg,g.n];rfl,eP.mpr ⟨g.nd,d7.mpr ⟨cu,fP⟩,λx hx y hy e=>hl (by rw[<-ce.mp hy,<-e];exact hx)⟩,λi b k h1 h2=>?_⟩
 by_cases z:i<A.length
 ·rw[df z]at h1;rw[df (by rw[g.n];exact z)]at h2;exact g.e i b k h1 h2
 ·rw[dC (by lia)]at h1;rw[dC (by rw[g.n];lia),g.n]at h2;have z0:i-4#3=0:=by have:=(cW.mp h1).1;simp at this;lia
  rw[z0]at h1 h2;cases h1;cases h2;exact⟨[],h,by rw[hF];exact .nil⟩
noncomputable def Hs(G h:Nat)(W:List (qX))(p:qX):List (qX):=(W.filter λx=>decide (F7 (x.1/G,x.2/G)=p)).map λx=>F7 (x.1%h,x.2%h)
inductive PU(P:qT)(w:qU)(K:qV)(vs:List V)(H:Hp)(Q:VK)(z3_:XK):Prop
 |m (r:qR) (g lo:Int) (dl:qW) (m:Nat):vs=[.ref r]->AS H r g lo dl m->g^(m-1)<=9->(∀d H' ls,AG H H'->H d=none->(∀l∈ls,H l=none)->DW P w K H' d (Ar (BO (0#0/0#2)) 1#7)->EI K H' ls (BO (0#0/0#2)) (Hs g.toNat (0#0/0#2) (El dl))->Q 2#2 H')->PU P w K vs H Q z3_
section
variable{P:qT}{w:qU}{K:qV}
theorem DW.lst(z:DW P w K H d kvs){b:qR}(h:H b=some 3#6)(u:HO):AZ H d u b=some 3#6:=by obtain⟨bs,h1,_⟩:=z;rw[AI (Dk h h1 λy=>nomatch y)];exact h
theorem DW.prv(z:DW P w K H d kvs){ps:List qR}(h:C8 K H ps L)(u:HO):C8 K (AZ H d u) ps L:=by obtain⟨bs,h1,_⟩:=z;exact Paired.mapP h λ_ _ y=>y.upd' h1
theorem DW.grl(z:DW P w K H d kvs){A:List (qX)}(g:EI K H ls A F)(u:HO):EI K (AZ H d u) ls A F:=
 ⟨g.n,g.nd,λi a l h1 h2=>by obtain⟨ps,h3,h4⟩:=g.e i a l h1 h2;exact⟨ps,z.lst h3 u,z.prv h4 u⟩⟩
theorem EI.out{A:List (qX)}(g:EI K H ls A F){l:qR}(h:H l=none):l∉ls:=λz=>by
 obtain⟨i,hi⟩:=d4.mp z;have hlt:=(cW.mp hi).1;have hA:i<4#3:=by rw[<-g.n];exact hlt
 obtain⟨ps,h3,_⟩:=g.e i A[i] l (cX hA) hi;rw[h]at h3;cases h3
end
theorem GW{A:List (qX)}(nd:17#3){a:qX}(h:A[i]?=some a):a∉A.take i:=λz=>by
 obtain⟨j,hj⟩:=d4.mp z;rw[iY]at hj
 split at hj
 ·rename_i lt
  have a1:=cW.mp h;have a2:=cW.mp hj;have:=(gh (h₀:=a2.1) (h₁:=a1.1) nd).mp (by rw[a2.2,a1.2]);lia
 ·cases hj
section
variable{P:qT}{w:qU}{K:qV}
theorem DW.updL(z:DW P w K H d kvs){l:qR}(hl:H l=some 3#6)(u:HO):DW P w K (AZ H l u) d kvs:=by obtain⟨bs,h1,h3,h4⟩:=z;exact⟨bs,by rw[AI (Dk h1 hl λy=>nomatch y)];exact h1,h3,λp hp=>Ai.updL hl (h4 p hp)⟩
theorem EI.push{A:List (qX)}{F':qX->List (qX)}(g:EI K H ls A F)(nd:17#3){a:qX}{l:qR}{ps:List qR}{q:qR}{x:qX}(hj:A[j]?=some a)(hl:ls[j]?=some l)(h:H l=some 7#1)(hp:C8 K H ps (F a))(hq:Ai K H q (TD x))
  (hF:∀b,F' b=if a=b then F b++[x] else F b):EI K (AZ H l (.lst ((ps++[q]).map 20#2))) ls A F':=by
 refine⟨g.n,g.nd,λi b k h1 h2=>?_⟩
 by_cases e:i=j
 ·subst e;rw[hj]at h1;rw[hl]at h2;cases h1;cases h2;refine⟨_,AC,?_⟩;rw[hF,qF rfl];exact Paired.app (C8.upd h hp) (.cons (Ai.updL h hq) .nil)
 ·have nk:k≠l:=λz=>by
   have a1:=cW.mp h2;have a2:=cW.mp hl;exact e ((gh (h₀:=a1.1) (h₁:=a2.1) g.nd).mp (by rw[a1.2,a2.2,z]))
  have nb:¬a=b:=λz=>by have a1:=cW.mp h1;have a2:=cW.mp hj;exact e ((gh (h₀:=a1.1) (h₁:=a2.1) nd).mp (by rw[a1.2,a2.2,z]))
  obtain⟨ps',h3,h4⟩:=g.e i b k h1 h2;refine⟨ps',by rw[AI nk];exact h3,?_⟩;rw[hF,qE nb];exact C8.upd h h4
end
theorem TL{h:Nat}{W:List (qX)}{x:qX}(hx:W[i]?=some x)(b:qX):Hs G h (W.take (i+1)) b=if F7 (x.1/G,x.2/G)=b then Hs G h (W.take i) b++[F7 (x.1%h,x.2%h)] else Hs G h (W.take i) b:=by
 unfold Hs;rw[eJ,hx,fG,cq]
 by_cases e:F7 (x.1/G,x.2/G)=b
 ·rw[qF e,show (some x).toList=[x] from rfl,TK (p:=λx:Nat×Nat=>decide (F7 (x.1/G,x.2/G)=b)) (qH e)];rfl
 ·rw[qE e,show (some x).toList=[x] from rfl,PR (p:=λx:Nat×Nat=>decide (F7 (x.1/G,x.2/G)=b)) (qI e)];exact dU _
theorem K6(G h:Nat)(W:List (qX))(p:qX):(Hs G h W p).length<=W.length:=by unfold Hs;rw[cU];exact fT ..
structure PV(A:List (qX))(F:qX->List (qX))(A2:List (qX))(B:qX->List (qX)):Prop where
 nd:A2.Nodup
 all:∀p,p∈A2↔p∈A
 on:∀p q,q∈B p↔q∈A/\p∈F q
 len:∀p,(B p).length<=7000000
inductive PX(P:qT)(w:qU)(K:qV)(vs:List V)(H:Hp)(Q:VK)(z3_:XK):Prop
 |m (d:qR) (u:HO) (ls:List qR) (A:List (qX)) (F:qX->List (qX)):vs=[.ref d]->DR P w K H d u (Ar A 1#7)->EI K H ls A F->17#3->(∀a∈A,∀p∈F a,p∈A)->4#3<=100->(∀a∈A,(F a).length<=70000)->(∀u' H' d2 ls2 A2 B,AG 4#8 H'->DR P w K H' d u' (Ar A 1#7)->H d2=none->(∀l∈ls2,H l=none)->DW P w K H' d2 14#0->EI K H' ls2 A2 B->PV A F A2 B->Q 5#3 H')->PX P w K vs H Q z3_
variable{d2:qR}
section
variable{P:qT}{w:qU}{K:qV}{u:HO}
theorem DR.updL(z:DR P w K H d u kvs){l:qR}(hl:H l=some 3#6)(v:HO):DR P w K (AZ H l v) d u kvs:=by
 rcases z with⟨bs,h1,h2,h3,h4⟩
 have ne:d≠l:=by
  refine Dk h1 hl λy=>?_;rcases h2 with e|⟨o,e⟩
  ·rw[e]at y;cases y
  ·rw[e]at y;cases y
 exact⟨bs,by rw[AI ne];exact h1,h2,h3,λp hp=>Ai.updL hl (h4 p hp)⟩
theorem DR.updX(z:DR P w K H d u kvs){kvs2:List (List BW×V)}(x:DW P w K H d2 kvs2)(ne:d≠d2)(v:HO):DR P w K (AZ H d2 v) d u kvs:=by rcases z with⟨bs,h1,h2,h3,h4⟩;obtain⟨bs2,g1,_⟩:=x;exact⟨bs,by rw[AI ne];exact h1,h2,h3,λp hp=>(h4 p hp).upd' g1⟩
end
def WB(P:qT)(w:qU)(K:qV)(H HX:Hp)(d2:qR)(A2:List (qX))(B:qX->List (qX)):Prop:=∃ls2:List qR,(∀l∈ls2,H l=none)/\DW P w K HX d2 14#0/\EI K HX ls2 A2 B
variable{HX:Hp}{A2:List (qX)}{ls2:List qR}
theorem TM{P:qT}{w:qU}{K:qV}{B:qX->List (qX)}{l:qR}{k:qX}{u:HO}(ln:∀l∈ls2,H l=none)(w0:DW P w K HX d2 14#0)(g:EI K HX ls2 A2 B)(hl:HX l=some (.lst []))(nl:l∉ls2)(h0:H l=none)(hk:k∉A2)(hB:B k=[])
  (w1:DW P w K (AZ HX d2 u) d2 (Cf 14#0 (Bf k) 16#8)):(∀x∈ls2++[l],H x=none)/\DW P w K (AZ HX d2 u) d2 (Ar (A2++[k]) ((ls2++[l]).map 20#2))/\EI K (AZ HX d2 u) (ls2++[l]) (A2++[k]) B:=by
 rw[JN (by rw[cU];exact g.n) hk]at w1;refine⟨λx hx=>?_,by rw[cq];exact w1,(w0.grl g u).snoc nl (w0.lst hl u) hB⟩;rcases cZ.mp hx with z|z
 ·exact ln x z
 ·rw[ce.mp z];exact h0
theorem WB.put{P:qT}{w:qU}{K:qV}{B:qX->List (qX)}{l:qR}{k:qX}{u:HO}(ln:∀l∈ls2,H l=none)(w0:DW P w K HX d2 14#0)(g:EI K HX ls2 A2 B)(hl:HX l=some (.lst []))(nl:l∉ls2)(h0:H l=none)(hk:k∉A2)(hB:B k=[])
  (w1:DW P w K (AZ HX d2 u) d2 (Cf 14#0 (Bf k) 16#8)):WB P w K H (AZ HX d2 u) d2 (A2++[k]) B:=⟨_,TM ln w0 g hl nl h0 hk hB w1⟩
structure RL(A:List (qX))(F:qX->List (qX))(i:Nat)(D:(qX)->(qX)->Prop)(n:Nat)(A2:List (qX))(B:qX->List (qX)):Prop where
 nd:A2.Nodup
 sub:∀p∈A2,p∈A
 got:∀p∈A.take i,p∈A2
 no:∀p,p∉A2->B p=[]
 on:∀p q,q∈B p↔(q∈A.take i/\p∈F q)\/D p q
 len:∀p,(B p).length<=n
theorem RL.key{A:List (qX)}{n:Nat}{D:(qX)->(qX)->Prop}{B:qX->List (qX)}(t:RL A F i D n A2 B){k:qX}(hk:k∉A2)(hA:k∈A):RL A F i D n (A2++[k]) B where
 nd:=eP.mpr ⟨t.nd,d7.mpr ⟨cu,fP⟩,λx hx y hy e=>hk (by rw[<-ce.mp hy,<-e];exact hx)⟩
 sub:=λp hp=>(cZ.mp hp).elim (t.sub p) λz=>by rw[ce.mp z];exact hA
 got:=λp hp=>cZ.mpr (.inl (t.got p hp))
 no:=λp hp=>t.no p λz=>hp 19#4
 on:=t.on
 len:=t.len
section
variable{P:qT}{w:qU}{K:qV}{u:HO}
theorem DR.isX(z:DR P w K H d u kvs):∃φ,H d=some u/\(u=.ext φ\/∃o,u=.frz o (.ext φ)):=by rcases z with⟨bs,h1,h2,_⟩;exact⟨_,h1,h2⟩
theorem DR.sqt(z:DR P w K H d u kvs)(q:Ai K H a xs)(v:HO):Ai K (AZ H d v) a xs:=by
 obtain⟨φ,h1,h2⟩:=z.isX;have ne:∀{b:qR} {y:HO},H b=some y->y≠u->b≠d:=λ{b y} hb n e=>n (by rw[e,h1]at hb;exact (Option.some.inj hb).symm)
 rcases q with (y|⟨o,y⟩)|y
 ·exact .inl (.inl (by rw[AI (ne y (by rcases h2 with e|⟨o',e⟩<;>rw[e]<;>exact λt=>nomatch t))];exact y))
 ·exact .inl (.inr ⟨o,by rw[AI (ne y (by rcases h2 with e|⟨o',e⟩<;>rw[e]<;>intro t<;>cases t))];exact y⟩)
 ·exact .inr y
theorem DR.lst(z:DR P w K H d u kvs){b:qR}(h:H b=some 3#6)(v:HO):AZ H d v b=some 3#6:=by
 obtain⟨φ,h1,h2⟩:=z.isX
 have ne:b≠d:=λe=>by rw[e,h1]at h;have h:=Option.some.inj h;rcases h2 with t|⟨o,t⟩<;>rw[t]at h<;>cases h
 rw[AI ne];exact h
theorem DR.grl(z:DR P w K H d u kvs){A:List (qX)}(g:EI K H ls A F)(v:HO):EI K (AZ H d v) ls A F:=
 ⟨g.n,g.nd,λi a l h1 h2=>by obtain⟨ps,h3,h4⟩:=g.e i a l h1 h2;exact⟨ps,z.lst h3 v,Paired.mapP h4 λ_ _ y=>z.sqt y v⟩⟩
theorem EI.keep{A:List (qX)}(g:EI K H ls A F){l:qR}(hl:H l=some 3#6)(nl:l∉ls)(v:HO):EI K (AZ H l v) ls A F:=
 ⟨g.n,g.nd,λi a k h1 h2=>by obtain⟨ps,h3,h4⟩:=g.e i a k h1 h2;exact⟨ps,by rw[AI λe=>nl (by rw[<-e];exact cw h2)];exact h3,C8.upd hl h4⟩⟩
theorem AG.both{H0:Hp}(e:AG H H0)(d:qR)(v:HO):AG (AZ H d v) (AZ H0 d v):=λb y h=>by
 by_cases z:b=d
 ·subst z;rw[AC]at h⊢;exact h
 ·rw[AI z]at h⊢;exact e b y h
end
theorem K7{A:List (qX)}{k:List BW}{v:V}(h:(Ar A 1#7)[i]?=some (k,v)):∃a l,A[i]?=some a/\ls[i]?=some l/\k=Bf a/\v=.ref l:=by
 unfold Ar at h;rw[i6,cn]at h;cases ha:A[i]? with
 |none=>rw[ha]at h;simp at h
 |some a =>
  cases hl:ls[i]? with
  |none=>rw[ha,hl]at h;simp at h
  |some l =>
   rw[ha,hl]at h;simp at h;exact⟨a,l,rfl,rfl,h.1.symm,h.2.symm⟩
theorem RL.push{A:List (qX)}{n:Nat}{a p0:qX}{B:qX->List (qX)}(t:RL A F i (λp q=>q=a/\p∈L.take j) n A2 B)(hp:L[j]?=some p0)(m:p0∈A2):RL A F i (λp q=>q=a/\p∈L.take (j+1)) (n+1) A2 (λp=>if p0=p then B p++[a] else B p) where
 nd:=t.nd
 sub:=t.sub
 got:=t.got
 no:=λp h=>by rw[qE λe=>h (by rw[<-e];exact m)];exact t.no p h
 on:=λp q=>by
  rw[eJ,hp,show (some p0).toList=[p0] from rfl,cZ,ce]
  by_cases e:p0=p
  ·rw[qF e,cZ,ce,t.on];constructor
   ·rintro ((h|⟨h1,h2⟩)|h)
    ·exact .inl h
    ·exact .inr ⟨h1,.inl h2⟩
    ·exact .inr ⟨h,.inr e.symm⟩
   ·rintro (h|⟨h1,_⟩)
    ·exact .inl (.inl h)
    ·exact .inr h1
  ·rw[qE e,t.on];constructor
   ·rintro (h|⟨h1,h2⟩)
    ·exact .inl h
    ·exact .inr ⟨h1,.inl h2⟩
   ·rintro (h|⟨h1,h2|h2⟩)
    ·exact .inl h
    ·exact .inr ⟨h1,h2⟩
    ·exact qG h2.symm e
 len:=λp=>by
  have:=t.len p
  by_cases e:p0=p
  ·rw[qF e,cg,dB];lia
  ·rw[qE e];lia
structure PY(A:List (qX))(B:qX->List (qX))(M:List (qX))(f:qX->Nat):Prop where
 nd:M.Nodup
 sub:∀p∈M,p∈A
 low:∀p∈M,∀q∈B p,q∈M/\f q<f p
 top:∀p∈M,f p=0\/∃q∈B p,q∈M/\f p=f q+1
 rest:∀p∈A,p∉M->∃q∈B p,q∉M
 few:∀p∈M,f p<=4#3
inductive TN(P:qT)(w:qU)(K:qV)(vs:List V)(H:Hp)(Q:VK)(z3_:XK):Prop
 |m (d:qR) (u:HO) (ls:List qR) (A:List (qX)) (B:qX->List (qX)):vs=[.ref d]->DR P w K H d u (Ar A (ls.map V.ref))->EI K H ls A B->A.Nodup->(∀a∈A,∀p∈B a,p∈A)->A.length<=100->(∀a∈A,(B a).length<=7000000)->(∀u' H' d2 M f,AG (AZ H d u') H'->DR P w K H' d u' (Ar A (ls.map V.ref))->H d2=none->DW P w K H' d2 (Ar M (M.map λp=>V.int (f p:Int)))->PY A B M f->Q 5#3 H')->TN P w K vs H Q z3_
theorem OB{X:Cx}{K:qV}(h:X.K=K)(hc:19#9=true):Co X (.builtin "all") (λxs H Q=>∃(p:qR) (bs:List Bool),xs=[.ref p]/\Aa K H p (bs.map V.bl)/\Q (.bl (bs.all id)) H):=h▸L5 hc
theorem TQ{X:Cx}{K:qV}(h:X.K=K):Es X (binaryOp .Add) (Vs K):=h▸Ud
theorem VI{X:Cx}{K:qV}(h:X.K=K)(hu:7#2+64<cLine):Es X (compareOp .NotEq) (XE K):=h▸Nc hu
theorem TR{X:Cx}{K:qV}{l:Expr}(h:X.K=K)(hl:PE X l tl):PI X tg l (RQ K tl):=h▸OY hl
structure TU(A:List (qX))(B:qX->List (qX))(M:List (qX))(f:qX->Nat)(FL:List (qX))(n:Nat):Prop where
 nd:M.Nodup
 sub:∀p∈M,p∈A
 ndF:FL.Nodup
 on:∀p,p∈FL↔p∈A/\p∉M/\∀q∈B p,q∈M
 lt:∀p∈M,f p<n
 low:∀p∈M,∀q∈B p,q∈M/\f q<f p
 top:∀p∈M,f p=0\/∃q∈B p,q∈M/\f p=f q+1
 due:∀p∈FL,n=0\/∃q∈B p,q∈M/\n=f q+1
 le:n<=14#6
theorem TV{A:List (qX)}{B:qX->List (qX)}(nd:17#3)(f:qX->Nat):TU A B [] f (A.filter λp=>decide (B p=[])) 0 where
 nd:=fP
 sub:=λp hp=>qG hp cu
 ndF:=nd.filter _
 on:=λp=>by
  rw[db,decide_eq_true_eq];refine and_congr Iff.rfl ⟨λe=>⟨cu,λq hq=>?_⟩,λ⟨_,e⟩=>?_⟩
  ·rw[e]at hq;exact hq
  ·exact List.eq_nil_iff_forall_not_mem.mpr λq hq=>qG (e q hq) cu
 lt:=λp hp=>qG hp cu
 low:=λp hp=>qG hp cu
 top:=λp hp=>qG hp cu
 due:=λ_ _=>.inl rfl
 le:=cj _
noncomputable def XW(M:List (qX))(f:qX->Nat)(n:Nat):qX->Nat:=λp=>if p∈M then f p else n
variable{M:List (qX)}{f:qX->Nat}
theorem Ea{n:Nat}(h:p∈M):XW M f n p=f p:=qF h
theorem GX{n:Nat}(h:p∉M):XW M f n p=n:=qE h
theorem TU.step{A:List (qX)}{B:qX->List (qX)}{FL:List (qX)}{n:Nat}(m:TU A B M f FL n)(ndA:17#3)(h:FL≠[]):
  TU A B (M++FL) (XW M f n) (A.filter λp=>decide (p∉M++FL)&&decide (∀q∈B p,q∈M++FL)) (n+1):=by
 have out:∀p∈FL,p∉M:=λp hp=>((m.on p).mp hp).2.1
 refine⟨eP.mpr ⟨m.nd,m.ndF,λx hx y hy e=>out y hy (by rw[<-e];exact hx)⟩,λp hp=>?_,ndA.filter _,λp=>?_,λp hp=>?_,λp hp q hq=>?_,λp hp=>?_,λp hp=>?_,?_⟩
 ·rcases cZ.mp hp with z|z
  ·exact m.sub p z
  ·exact ((m.on p).mp z).1
 ·rw[db,eO,decide_eq_true_eq,decide_eq_true_eq]
 ·rcases cZ.mp hp with z|z
  ·rw[Ea z];have:=m.lt p z;lia
  ·rw[GX (out p z)];lia
 ·rcases cZ.mp hp with z|z
  ·obtain⟨h1,h2⟩:=m.low p z q hq;rw[Ea z,Ea h1];exact⟨cZ.mpr (.inl h1),h2⟩
  ·have h1:=((m.on p).mp z).2.2 q hq;rw[GX (out p z),Ea h1];exact⟨cZ.mpr (.inl h1),m.lt q h1⟩
 ·rcases cZ.mp hp with z|z
  ·rcases m.top p z with e|⟨q,hq,h1,e⟩
   ·rw[Ea z];exact .inl e
   ·exact .inr ⟨q,hq,cZ.mpr (.inl h1),by rw[Ea z,Ea h1];exact e⟩
  ·rw[GX (out p z)];rcases m.due p z with e|⟨q,hq,h1,e⟩
   ·exact .inl e
   ·exact .inr ⟨q,hq,cZ.mpr (.inl h1),by rw[Ea h1];exact e⟩
 ·rw[db,eO,decide_eq_true_eq,decide_eq_true_eq]at hp;obtain⟨pA,pn,pq⟩:=hp;refine .inr ?_
  by_cases all:∀q∈B p,q∈M
  ·exact qG (cZ.mpr (.inr ((m.on p).mpr ⟨pA,λz=>pn 19#4,all⟩))) pn
  ·obtain⟨q,hq⟩:=Classical.not_forall.mp all;obtain⟨hq,nq⟩:=Classical.not_imp.mp hq;exact⟨q,hq,pq q hq,by rw[GX nq]⟩
 ·have:0<FL.length:=iT.mpr h;have:=m.le;rw[cg];lia
theorem TU.few{A:List (qX)}{B:qX->List (qX)}{FL:List (qX)}{n:Nat}(m:TU A B M f FL n):14#6+FL.length<=4#3:=by
 rw[<-cg];refine (eP.mpr ⟨m.nd,m.ndF,λx hx y hy e=>((m.on y).mp hy).2.1 (by rw[<-e];exact hx)⟩).length_le_of_subset λp hp=>?_;rcases cZ.mp hp with z|z
 ·exact m.sub p z
 ·exact ((m.on p).mp z).1
theorem TU.done{A:List (qX)}{B:qX->List (qX)}{n:Nat}(m:TU A B M f [] n):PY A B M f where
 nd:=m.nd
 sub:=m.sub
 low:=m.low
 top:=m.top
 rest:=λp hp np=>by
  by_cases all:∀q∈B p,q∈M
  ·exact qG ((m.on p).mpr ⟨hp,np,all⟩) cu
  ·obtain⟨q,hq⟩:=Classical.not_forall.mp all;obtain⟨hq,nq⟩:=Classical.not_imp.mp hq;exact⟨q,hq,nq⟩
 few:=λp hp=>by have:=m.lt p hp;have:=m.le;have:=m.few;lia
def av(P:qT)(w:qU)(K:qV)(H:Hp)(d d2:qR)(ls:List qR)(A:List (qX))(B:qX->List (qX))(D:qR)(M:List (qX))(f:qX->Nat)(FL:List (qX))(HX:Hp):Prop:=
 ∃u' ps,AG 4#8 HX/\DR P w K HX d u' (Ar A 1#7)/\EI K HX ls A B/\H D=none/\HX D=some 7#1/\C8 K HX ps FL/\DW P w K HX d2 (Ar M (M.map λp=>V.int (f p:Int)))
theorem JQ:(Ba (Ar M (M.map λp=>V.int (f p:Int))) (Bf p)).isSome=decide (p∈M):=by
 by_cases h:p∈M
 ·obtain⟨i,hi⟩:=d4.mp h;rw[qH h]
  suffices ∀(M:List (qX)),p∈M->(Ba (Ar M (M.map λp=>V.int (f p:Int))) (Bf p)).isSome=true from this M h
  intro M
  induction M with
  |nil=>intro z;exact qG z cu
  |cons a M ih =>
   intro z;show (Ba ((Bf a,V.int (f a:Int))::Ar M (M.map λp=>V.int (f p:Int))) (Bf p)).isSome=true
   by_cases e:a=p
   ·rw[Da (show (Bf a,V.int (f a:Int)).1=Bf p by rw[e])];rfl
   ·rw[Ci (show ¬(Bf a,V.int (f a:Int)).1=Bf p from λy=>e (JM y))];exact ih ((dD.mp z).resolve_left λy=>e y.symm)
 ·rw[EB h,qI h];rfl
theorem KO{L:List α}{a:α}{p:α->Bool}(h:L[i]?=some a):(L.take (i+1)).filter p=(L.take i).filter p++(if p a=true then[a] else[]):=by
 rw[eJ,h,show (some a).toList=[a] from rfl,fG]
 by_cases e:p a=true
 ·rw[qF e,TK e]
 ·rw[qE e,PR (by cases z:p a;rfl;exact qG z e)]
end L2
namespace L2
open PySem PySem.Spec PyProof.Rows
variable{E Q:qQ->qS->Prop}{a:qR}{h':Heap}{i j:Nat}{s:qS}{us vs:List qQ}{α β:Type}
section
variable{prog:qT}{w:qU}{A:Around}{k:SortKind}{a₀:Array Keyed}{st:SortSt}
def Jq(prog:qT)(w:qU)(A:Around)(s:qS)(k:SortKind)(a₀:Array Keyed):Prop:=
 ∀x∈4#7,∀y∈4#7,∃b:Bool,∀(E:qQ->qS->Prop) (Q:Bool->qS->Prop),Q b s->wpAny 0#3 A (keyLt' k x.1 y.1) Q E s
end
theorem OC(b:Bool)(x y:qQ):keyLt' (tuples' b) x y=(do
  let xs <-Builtin.List.listItems x
  let ys <-Builtin.List.listItems y
  for ((p,q),i) in (xs.toList.zip ys.toList).zipIdx do
   if !(<-eqBool p q) then return <-oneLt' (b&&i==0) p q
  return decide (xs.size<ys.size)):=rfl
section
variable{prog:qT}{w:qU}{A:Around}
theorem OD(o:Bool){a b:Int}{t u:Tok}{Q:Bool->qS->Prop}(h:Q (decide (a<b)) s):wpAny 0#3 A (oneLt' o (.int a t) (.int b u)) Q E s:=by
 cases o with
 |true=>exact oneLt_int h
 |false =>
  rw[oneLt'_eq];simp only[Bool.false_eq_true,if_false];refine qC ((lt_int ?_:wpAny 0#3 A (compareOp .Lt (.int a t) (.int b u)) _ E s));exact wpAny_truthy_bool h
theorem Qu(b:Bool){x y:qR}{ws:List qQ}{ns ms:qW}(hx:IsTup s.heap x 4#5)(hy:IsTup s.heap y ws.toArray)(iv:IntsAre vs ns)(iw:IntsAre ws ms){Q:Bool->qS->Prop}(h:Q (HT.Dz ns ms) s):
  wpAny 0#3 A (keyLt' (tuples' b) 9#5 (.ref y)) Q E s:=by
 rcases hx with⟨ox,gx,_,nx,dx⟩;rcases hy with⟨oy,gy,_,ny,dy⟩;rw[OC];refine qC (listItems_at gx dx (qC (listItems_at gy dy ?_)));have l1:3#2=1#6:=iv.length;have l2:ws.length=ms.length:=iw.length
 refine qC (qM (wpAny_forIn_list _ (λrest c s'=>c=(none,())/\s'=s/\∃(k:Nat) (vs' ws':List qQ) (ns' ms':qW),rest=(vs'.zip ws').zipIdx k/\IntsAre vs' ns'/\IntsAre ws' ms'/\ns'.length+ms.length=ms'.length+1#6/\HT.Dz ns' ms'=HT.Dz ns ms)
  (λc s'=>s'=s/\(c=(some (HT.Dz ns ms),())\/(c=(none,())/\decide (1#6<ms.length)=HT.Dz ns ms))) ?_ ?_ _ _ ⟨rfl,rfl,0,vs,ws,ns,ms,by simp,iv,iw,Nat.add_comm ..,rfl⟩) ?_ λ_ _ e=>e)
 ·rintro⟨⟨p,q⟩,i⟩ rest c s' ⟨rfl,rfl,j,vs',ws',ns',ms',hz,hv,hw,hl,he⟩;cases hv with
  |nil=>simp at hz
  |cons a t hv' =>
   cases hw with
   |nil=>simp at hz
   |cons c u hw' =>
    rw[List.zip_cons_cons,List.zipIdx_cons]at hz
    injection hz with h1 h2
    injection h1 with h1 h3
    injection h1 with h4 h5
    subst h4 h5;rw[HT.NP]at he;refine qC (wpAny_eqBool_int ?_)
    by_cases e:a=c
    ·rw[qF e]at he;rw[show (a==c)=true by simp[e]];refine qD ⟨rfl,rfl,_,_,_,_,_,h2,hv',hw',?_,he⟩;simp only[List.length_cons]at hl;lia
    ·rw[qE e]at he;rw[show (a==c)=false by simp[e]];refine qC (OD _ (qD ⟨rfl,.inl ?_⟩));rw[he]
 ·intro c s' hRq;rcases hRq with⟨rfl,rfl,j,vs',ws',ns',ms',hz,hv,hw,hl,he⟩;refine⟨rfl,.inr ⟨rfl,?_⟩⟩;rw[<-he];cases hv with
  |nil =>
   cases hw with
   |nil =>
    simp only[List.length_nil]at hl;rw[HT.Ji,qI (by lia)]
   |cons c u hw' =>
    simp only[List.length_nil,List.length_cons]at hl;rw[HT.IS,qH (by lia)]
  |cons a t hv' =>
   cases hw with
   |nil =>
    simp only[List.length_nil,List.length_cons]at hl;rw[HT.IT,qI (by lia)]
   |cons c u hw'=>simp at hz
 ·rintro c s' ⟨rfl,z|⟨z,y⟩⟩
  ·subst z;exact qD h
  ·subst z;refine qD ?_;rw[show decide (vs.toArray.size<ws.toArray.size)=HT.Dz ns ms by rw[<-y,dR,dR,l1,l2]];exact h
theorem G1(v:qQ):firstOfTuple' v=(do
  if (<-typeOf v) != .type "tuple" then return none
  return (<-Builtin.List.listItems v)[0]?):=rfl
def Hg(h:Heap)(v:qQ):Prop:=∃(t:qR) (vs:List qQ) (ns:qW),v=.ref t/\IsTup h t 4#5/\IntsAre vs ns/\ns≠[]
theorem Qv{v:qQ}(h:Hg s.heap v){Q:Option qQ->qS->Prop}(q:∀n t,Q (some (.int n t)) s):wpAny 0#3 A (firstOfTuple' v) Q E s:=by
 rcases h with⟨t,vs,ns,rfl,⟨o,g,c,m,d⟩,i,ne⟩;rw[G1];refine qC (wpAny_typeOf (T:="tuple") ⟨o,g,c⟩ ?_);rw[qE (by simp)];refine qC (listItems_at g d (qD ?_));cases i with
 |nil=>exact qG rfl ne
 |cons n t i=>exact q n t
theorem JR{f:α->Sem β}{R:β->Prop}{Q:List β->qS->Prop}:∀(l:List α),(∀x∈l,∀Q':β->qS->Prop,(∀y,R y->Q' y s)->wpAny 0#3 A (f x) Q' E s)->(∀ys,10#9=7#6->(∀y∈ys,R y)->Q ys s)->wpAny 0#3 A (l.mapM f) Q E s
 |[],_,q=>by rw[List.mapM_nil];exact qD (q [] rfl λ_ z=>qG z cu)
 |x::l,h,q=>by
  rw[List.mapM_cons];refine qC (h x dH _ λy hy=>qC (JR l (λz hz=>h z (c8 _ hz)) λys hl hys=>qD (q (y::ys) (by rw[d5,d5,hl]) λz hz=>?_)));rcases dD.mp hz with e|e
  ·rw[e];exact hy
  ·exact hys z e
theorem TW{v₁ v₂:qQ}(h:∀v∈v₁::v₂::vs,Hg s.heap v){Q:SortKind->qS->Prop}(q:∀b,Q (tuples' b) s):wpAny 0#3 A (keyKind' (v₁::v₂::vs).toArray) Q E s:=by
 rw[keyKind'_eq,List.mapM_toArray];refine qC (wpAny_map ?_);refine JR (R:=λy=>∃n t,y=some (.int n t)) (v₁::v₂::vs) (λv hv Q' q'=>Qv (h v hv) λn t=>q' _ ⟨n,t,rfl⟩) λys hl hys=>?_
 have al:(ys.toArray.all λx=>x.isSome)=true:=by rw[List.all_toArray,i8];intro y hy;obtain⟨n,t,e⟩:=hys y hy;rw[e];rfl
 rw[qF al];refine qC (wpAny_rule (qC ?_));rw[oneTypeOnly'_eq,List.filterMap_toArray,List.mapM_toArray];refine qC (wpAny_map (JR (R:=λ_=>True) _ (λv hv Q' q'=>?_) λts _ _=>?_))
 ·obtain⟨y,hy,e⟩:=iU.mp hv;obtain⟨n,t,e2⟩:=hys y hy;rw[e2]at e;have e:v=.int n t:=(Option.some.inj e).symm;rw[e];exact wpAny_typeOf (typeIs_int s n t) (q' _ 6#9)
 ·split
  ·exact qD (qD (q _))
  ·exact qD (qD (q _))
theorem Hg.at{h:Heap}{v:qQ}(x:Hg h v)(k:∀t o,h.get? t=some o->o.cls=.type "tuple"->h'.get? t=some o):Hg h' v:=by obtain⟨t,vs,ns,e,⟨o,g,c,d⟩,i,ne⟩:=x;exact⟨t,vs,ns,e,⟨o,k t o g c,c,d⟩,i,ne⟩
end
theorem Qw{ws:List qQ}(p:us.Perm ws):∀{xs:List V},Av xs ws->∃zs,zs.Perm xs/\Av zs us:=by
 induction p with
 |nil=>intro xs h;exact⟨xs,.refl _,h⟩
 |cons a _ ih =>
  intro xs h;cases h with
  |cons r h =>
   obtain⟨zs,p1,v1⟩:=ih h;exact⟨_::zs,p1.cons _,.cons r v1⟩
 |swap a b l =>
  intro xs h;cases h with
  |cons r h =>
   cases h with
   |cons r2 h=>exact⟨_,.swap ..,.cons r2 (.cons r h)⟩
 |trans _ _ ih1 ih2 =>
  intro xs h;obtain⟨zs,p2,v2⟩:=ih2 h;obtain⟨ys,p1,v1⟩:=ih1 v2;exact⟨ys,p1.trans p2,v1⟩
theorem GY:∀{ns:qW} {us:List qQ},Av 1#8 us->IntsAre us ns:=by
 intro ns
 induction ns with
 |nil=>intro us h;cases h;exact .nil
 |cons n ns ih =>
  intro us h;cases h with
  |cons a b=>obtain⟨t,e⟩:=a;subst e;exact .cons n t (ih b)
noncomputable def VJ:Bool->Keyed->Array Keyed->Nat->Nat->Nat->StateT SortSt Sem (Option Nat):=sortPriv% PySem.Builtin.gallop
noncomputable def TY:Array Keyed->Array Keyed->StateT SortSt Sem (Array Keyed):=sortPriv% PySem.Builtin.mergeLo
noncomputable def TZ:Array Keyed->Array Keyed->StateT SortSt Sem (Array Keyed):=sortPriv% PySem.Builtin.mergeHi
noncomputable def VL:Nat->StateT SortSt Sem Unit:=sortPriv% PySem.Builtin.setMinGallop
structure SX(k:SortKind)(xs:Array Keyed)(p:Array (Nat×Nat×Nat))(st:SortSt):Prop where
 kd:kindOf st=k
 ar:arrOf st=xs
 pd:pendingOf st=p
 fl:failedOf st=none
structure SZ(k:SortKind)(a₀:Array Keyed)(p:Array (Nat×Nat×Nat))(st:SortSt):Prop where
 kd:kindOf st=k
 pm:(arrOf st).toList.Perm 4#7
 pd:pendingOf st=p
 fl:failedOf st=none
section
variable{prog:qT}{w:qU}{A:Around}{k:SortKind}{a₀ xs:Array Keyed}{p:Array (Nat×Nat×Nat)}{st:SortSt}
theorem SZ.x(Z:SZ k a₀ p st):SX k (arrOf st) p st:=⟨Z.kd,rfl,Z.pd,Z.fl⟩
theorem SZ.n(Z:SZ k a₀ p st):(arrOf st).size=7#9:=by have z:=Z.pm.length_eq;simpa using z
theorem Ac{c:Prop}[Decidable c]{m n:StateT SortSt Sem α}{Q:α->SortSt->Prop}(h1:c->wpS 0#3 A E s m Q st)(h2:¬c->wpS 0#3 A E s n Q st):wpS 0#3 A E s (if c then m else n) Q st:=by
 split
 ·exact h1 ‹_›
 ·exact h2 ‹_›
theorem Cw{m n:Nat}(h:¬(m==n)=true):m≠n:=λe=>h (by simp[e])
theorem PZ{c:Prop}[Decidable c]{f:β->StateT SortSt Sem α}{x y:β}{Q:α->SortSt->Prop}(J:∀g,wpS 0#3 A E s (f g) Q st):wpS 0#3 A E s (if c then f x else f y) Q st:=by
 split
 ·exact J _
 ·exact J _
theorem IK{γ:Type}{f:β->γ->StateT SortSt Sem α}{m:StateT SortSt Sem α}{Q:α->SortSt->Prop}(R:β->γ->Prop)(J:∀x y,R x y->wpS 0#3 A E s (f x y) Q st)(h:(∀x y,R x y->wpS 0#3 A E s (f x y) Q st)->wpS 0#3 A E s m Q st):wpS 0#3 A E s m Q st:=h J
theorem Ta{f:β->StateT SortSt Sem α}{m:StateT SortSt Sem α}{Q:α->SortSt->Prop}(R:β->SortSt->Prop)(J:∀x t,R x t->wpS 0#3 A E s (f x) Q t)(h:(∀x t,R x t->wpS 0#3 A E s (f x) Q t)->wpS 0#3 A E s m Q st):wpS 0#3 A E s m Q st:=h J
theorem VM{t:SortSt}{Q:PUnit->SortSt->Prop}(h:Q ⟨⟩ t):wpS 0#3 A E s (set t:StateT SortSt Sem PUnit) Q st:=by unfold wpS;rw[StateT.run_set];exact qD ⟨rfl,h⟩
theorem Bd{arr:Array Keyed}(h:i<arr.size){Q:Keyed->SortSt->Prop}(q:Q arr[i] st):wpS 0#3 A E s (elem' arr i) Q st:=by rw[elem'_eq,getElem?_pos arr i h];exact qK q
theorem MS(hc:Jq prog w A s k a₀)(hk:kindOf st=k){x y:Keyed}(mx:x∈4#7)(my:y∈4#7){Q:Option Bool->SortSt->Prop}(h:∀b,Q (some b) st):wpS 0#3 A E s (lt' x y) Q st:=by obtain⟨b,hb⟩:=hc x mx y my;rw[lt'_eq];refine qJ (wpS_get ?_);rw[hk];exact qJ (wpS_lift (wpAny_attempt (hb _ _ ⟨rfl,qK (h b)⟩)))
theorem IL(hc:Jq prog w A s k a₀)(Z:SZ k a₀ p st)(hi:i<7#9)(hj:j<7#9){Q:Option Bool->SortSt->Prop}(h:∀b,Q (some b) st):wpS 0#3 A E s (ltAt' i j) Q st:=by have n:=Z.n;rw[ltAt'_eq];refine qJ (wpS_get ?_);exact qJ (Bd (arr:=arrOf st) (by lia) (qJ (Bd (arr:=arrOf st) (by lia) (MS hc Z.kd (Z.pm.mem_iff.mp (by simp)) (Z.pm.mem_iff.mp (by simp)) h))))
theorem K8(Z:SZ k a₀ p st){Q:Unit->SortSt->Prop}(h:∀t,SZ k a₀ p t->Q () t):wpS 0#3 A E s (reverseSlice' i j) Q st:=by rw[reverseSlice'_eq];exact wpS_modify (h _ ⟨Z.kd,(Array.perm_iff_toList_perm.mp (mirror_perm ..)).trans Z.pm,Z.pd,Z.fl⟩)
theorem VN(Z:SZ k a₀ p st){Q:Unit->SortSt->Prop}(h:∀t,SZ k a₀ p t->Q () t):wpS 0#3 A E s (moveDown' i j) Q st:=by rw[moveDown'_eq];exact wpS_modify (h _ ⟨Z.kd,(Array.perm_iff_toList_perm.mp (bubble_perm ..)).trans Z.pm,Z.pd,Z.fl⟩)
theorem GZ(X:SX k xs p st){g:Nat}{Q:Unit->SortSt->Prop}(h:∀t,SX k xs p t->Q () t):wpS 0#3 A E s (VL g) Q st:=
 wpS_modify (h _ ⟨X.kd,X.ar,X.pd,X.fl⟩)
theorem DS(hc:Jq prog w A s k a₀)(hk:kindOf st=k){left:Bool}{key:Keyed}{arr:Array Keyed}{base n hint:Nat}(mk:key∈4#7)(ma:∀x∈arr.toList,x∈4#7)(hb:base+n<=arr.size)(hh:hint<n)
  {Q:Option Nat->SortSt->Prop} (h:∀r,r<=n->Q (some r) st):wpS 0#3 A E s (VJ left key arr base n hint) Q st:=by
 obtain⟨B,hB⟩:∃B:Nat->StateT SortSt Sem (Option Bool),B=(λi=>do
   let x <-elem' arr (base+i)
   if left=true then lt' x key else do
    let r <-lt' key x
    pure (Option.map (λx=>!x) r)):=⟨_,rfl⟩
 have bey:∀{i:Nat} {Q:Option Bool->SortSt->Prop},i<n->(∀b,Q (some b) st)->wpS 0#3 A E s (B i) Q st:=λ{i Q} hi q=>by
  rw[hB];refine qJ (Bd (by lia) ?_);have mx:=ma (arr[base+i]'(by lia)) (by simp);cases left
  ·exact qJ (MS hc hk mk mx λb=>qK (q _))
  ·exact MS hc hk mx mk q
 have half:∀{lo hi:Nat},hi<=n->∀{Q':Option (Option Nat)×Nat×Nat->SortSt->Prop},(∀l r,r<=n->Q' (none,l,r) st)->wpS 0#3 A E s (forIn [:n] ((none,lo,hi):Option (Option Nat)×Nat×Nat) λ_ c=>if c.2.1≥c.2.2 then pure (ForInStep.done (none,c.2.1,c.2.2)) else do
   let m <-B (c.2.1+(c.2.2-c.2.1)/2)
   match m with
   |some more=>if more=true then pure (ForInStep.yield (none,c.2.1+(c.2.2-c.2.1)/2+1,c.2.2)) else pure (ForInStep.yield (none,c.2.1,c.2.1+(c.2.2-c.2.1)/2))
   |_=>pure (ForInStep.done (some none,c.2.1,c.2.2))) Q' st:=λ{lo hi} h2 {Q'} q=>by
  refine qL (I:=λ_ c t=>t=st/\∃lo hi,c=(none,lo,hi)/\hi<=n) ?_ ?_ ⟨rfl,lo,hi,rfl,h2⟩
  ·rintro i c t _ _ ⟨rfl,lo,hi,rfl,a⟩;dsimp only;refine Ac (λz=>qK (q lo hi a)) λz=>qJ (bey (by lia) λb=>?_)
   dsimp only;exact Ac (λ_=>qK ⟨rfl,_,_,rfl,a⟩) λ_=>qK ⟨rfl,_,_,rfl,by lia⟩
  ·rintro c t ⟨rfl,lo,hi,rfl,a⟩;exact q lo hi a
 subst hB;refine qJ (bey hh λb=>?_);dsimp only;refine Ac (λ_=>?_) λ_=>?_
 ·refine qJ (wpS_mono (qL (I:=λ_ c t=>t=st/\∃la fo,c=(none,la,fo)) (Q:=λc t=>t=st/\∃la fo,c=(none,la,fo)) ?_ (λ_ _ z=>z) ⟨rfl,0,1,rfl⟩) ?_)
  ·rintro i c t _ hi ⟨rfl,la,fo,rfl⟩;dsimp only;refine Ac (λ_=>qK ⟨rfl,_,_,rfl⟩) λz=>qJ (bey (by lia) λb=>?_)
   dsimp only;exact Ac (λ_=>qK ⟨rfl,_,_,rfl⟩) λ_=>qK ⟨rfl,_,_,rfl⟩
  ·rintro c t ⟨rfl,la,fo,rfl⟩;dsimp only;exact qJ (half (by lia) λl r hr=>qK (h r hr))
 ·refine qJ (wpS_mono (qL (I:=λ_ c t=>t=st/\∃la fo,c=(none,la,fo)) (Q:=λc t=>t=st/\∃la fo,c=(none,la,fo)) ?_ (λ_ _ z=>z) ⟨rfl,0,1,rfl⟩) ?_)
  ·rintro i c t _ hi ⟨rfl,la,fo,rfl⟩;dsimp only;refine Ac (λ_=>qK ⟨rfl,_,_,rfl⟩) λz=>qJ (bey (by lia) λb=>?_)
   dsimp only;exact Ac (λ_=>qK ⟨rfl,_,_,rfl⟩) λ_=>qK ⟨rfl,_,_,rfl⟩
  ·rintro c t ⟨rfl,la,fo,rfl⟩;dsimp only;exact qJ (half (by lia) λl r hr=>qK (h r hr))
end
def MP(a b:Array Keyed)(out:Array Keyed)(L R:List Keyed):Prop:=(14#3++(L++R)).Perm (13#5++13#4)
section
variable{a b out:Array Keyed}{L R:List Keyed}
theorem MP.l{o:Array Keyed}{x L':List Keyed}(M:MP a b out L R)(ho:o.toList.Perm (14#3++x))(h:L.Perm (x++L')):MP a b o L' R:=by refine ((ho.append_right _).trans ?_).trans M;rw[de,<-de x];exact (h.symm.append_right R).append_left _
theorem MP.r{o:Array Keyed}{x R':List Keyed}(M:MP a b out L R)(ho:o.toList.Perm (14#3++x))(h:R.Perm (x++R')):MP a b o L R':=by refine ((ho.append_right _).trans ?_).trans M;rw[de];refine .append_left _ (List.Perm.trans ?_ (h.symm.append_left L));rw[<-de,<-de];exact List.perm_append_comm.append_right _
theorem MP.all{o:List Keyed}(M:MP a b out L R)(h:o.Perm (14#3++(L++R))):o.Perm (13#5++13#4):=h.trans M
theorem F8(a:Array Keyed)(i j:Nat):(a.extract i j).toList=(a.toList.take j).drop i:=by rw[Array.toList_extract,List.extract_eq_take_drop,gJ]
theorem E7(h:i<7#4):(a.toList.drop i).Perm ([a[i]]++a.toList.drop (i+1)):=by rw[List.drop_eq_getElem_cons (by simpa using h)];simp
theorem MT(a:Array Keyed)(i k:Nat):(a.toList.drop i).Perm ((a.extract i (i+k)).toList++a.toList.drop (i+k)):=by rw[F8,gJ,fq,iu i k,<-gv,gv,iu k i,<-gv,eI]
theorem E8(h:i<7#4):(a.toList.take (i+1)).Perm ([a[i]]++a.toList.take i):=by rw[List.take_add_one,List.getElem?_eq_getElem (by simpa using h)];simpa using (List.perm_append_comm (l₁:=a.toList.take i) (l₂:=[a[i]]))
theorem MU(h:i<=j):(a.toList.take j).Perm ((a.extract i j).toList++a.toList.take i):=by
 rw[F8];refine List.Perm.trans (.of_eq ?_) List.perm_append_comm
 conv=>lhs;rw[<-eI i (a.toList.take j)]
 rw[List.take_take,iC h]
theorem IM(a:Array Keyed)(i:Nat):(a.extract i 7#4).toList=a.toList.drop i:=by rw[F8,List.take_of_length_le (by simp)]
theorem Ga(a:Array Keyed)(i:Nat):(a.extract 0 i).toList=a.toList.take i:=by rw[F8,gI]
theorem E9{x:Keyed}:(out.push x).toList.Perm (14#3++[x]):=by rw[Array.toList_push]
theorem WC{x:Array Keyed}:(out++x).toList.Perm (14#3++x.toList):=by rw[eL]
theorem WD{x:Array Keyed}:(out++x.reverse).toList.Perm (14#3++x.toList):=by rw[eL,gN];exact (iK _).append_left _
theorem MP.doneL(M:MP a b out (a.toList.drop i) (b.toList.drop j)):(out++a.extract i 7#4++b.extract j 16#7).toList.Perm (13#5++13#4):=M.all (by rw[eL,eL,IM,IM,de])
theorem MP.lastL(M:MP a b out (a.toList.drop i) (b.toList.drop j)):(out++b.extract j 16#7++a.extract i 7#4).toList.Perm (13#5++13#4):=M.all (by rw[eL,eL,IM,IM,de];exact List.perm_append_comm.append_left _)
theorem MP.doneH(M:MP a b out (a.toList.take i) (b.toList.take j)):(a.extract 0 i++b.extract 0 j++out.reverse).toList.Perm (13#5++13#4):=M.all (by rw[eL,eL,Ga,Ga,gN];exact List.perm_append_comm.trans ((iK _).append_right _))
theorem MP.lastH(M:MP a b out (a.toList.take i) (b.toList.take j)):(b.extract 0 j++a.extract 0 i++out.reverse).toList.Perm (13#5++13#4):=M.all (by rw[eL,eL,Ga,Ga,gN];exact List.perm_append_comm.trans (((iK _).append_right _).trans (List.perm_append_comm.append_left _)))
end
structure MV(a b:Array Keyed)(P:Nat)(out:Array Keyed)(ia ib:Nat):Prop where
 mi:MP a b out (a.toList.drop ia) (b.toList.drop ib)
 la:ia+1<7#4
 lb:ib<16#7
 ge:P<=ia+ib
structure WE(a b:Array Keyed)(P:Nat)(out:Array Keyed)(na nb:Nat):Prop where
 mi:MP a b out (a.toList.take na) (b.toList.take nb)
 la:1<=na
 lb:2<=nb
 za:na<=7#4
 zb:nb<=16#7
 ge:P+na+nb<=7#4+16#7
section
variable{prog:qT}{w:qU}{A:Around}{k:SortKind}{a₀ xs a b:Array Keyed}{p:Array (Nat×Nat×Nat)}{st:SortSt}
theorem OE(hc:Jq prog w A s k a₀)(X:SX k xs p st)(ma:∀x∈13#5,x∈4#7)(mb:∀x∈13#4,x∈4#7)(ha:0<7#4)(hb:0<16#7)
  {Q:Array Keyed->SortSt->Prop} (h:∀out t,SX k xs p t->out.toList.Perm (13#5++13#4)->Q out t):wpS 0#3 A E s (TY a b) Q st:=by
 have ga:∀{i:Nat} (hi:i<7#4),a[i]∈4#7:=λ{i} hi=>ma _ (by simp)
 have gb:∀{i:Nat} (hi:i<16#7),b[i]∈4#7:=λ{i} hi=>mb _ (by simp)
 refine qJ (wpS_lift (wpAny_rule ⟨rfl,?_⟩));refine qJ (Bd hb ?_);have M0:MP a b #[b[0]] (a.toList.drop 0) (b.toList.drop 1):=MP.r (out:=#[]) (x:=[b[0]]) (.refl _) (.refl _) (E7 hb);refine Ac (λ_=>qK (h _ _ X M0.doneL)) λe=>Ac (λ_=>qK (h _ _ X M0.lastL)) λe2=>?_
 have e:1≠16#7:=Cw e;have e2:0+1≠7#4:=Cw e2;refine qJ (wpS_get ?_);refine qJ (qL (I:=λi c t=>SX k xs p t/\∃out ia ib mg,c=(none,out,ia,ib,mg)/\MV a b (i+1) out ia ib) ?_ ?_ ⟨X,_,_,_,_,rfl,M0,by lia,by lia,by lia⟩)
 ·clear X;intro i c t _ hi hRq;rcases hRq with⟨X,out,ia,ib,mg,rfl,M⟩;refine qJ (wpS_mono (qL (I:=λ_ c t=>SX k xs p t/\∃out ia ib ac bc,c=(none,out,ia,ib,ac,bc)/\MV a b (i+1) out ia ib) (Q:=λc t=>SX k xs p t/\((∃r o,c=(some r,o)/\r.toList.Perm (13#5++13#4))\/∃out ia ib ac bc,c=(none,out,ia,ib,ac,bc)/\MV a b (i+1) out ia ib)) ?_ ?_ ⟨X,out,ia,ib,0,0,rfl,M⟩) ?_)
  ·clear M X;intro j c t _ hj hRq;rcases hRq with⟨X,out,ia,ib,ac,bc,rfl,M,la,lb,ge⟩;have la':ia<7#4:=Nat.lt_of_succ_lt la;refine qJ (Bd lb (qJ (Bd la' (qJ (MS hc X.kd (gb lb) (ga la') λ_=>Ac (λ_=>?_) λ_=>?_)))))
   ·have M2:=M.r (E9 (x:=b[ib])) (E7 lb);have M3:ib+1≠16#7->MV a b (i+1) (out.push b[ib]) ia (ib+1):=λq=>⟨M2,la,g6 lb q,Nat.le_succ_of_le ge⟩
    exact qJ (Bd lb (Ac (λ_=>qK ⟨X,.inl ⟨_,_,rfl,M2.doneL⟩⟩) λz=>Ac (λ_=>qK ⟨X,.inr ⟨_,_,_,_,_,rfl,M3 (Cw z)⟩⟩) λ_=>qK ⟨X,_,_,_,_,_,rfl,M3 (Cw z)⟩))
   ·have M2:=M.l (E9 (x:=a[ia])) (E7 la');have M3:ia+1+1≠7#4->MV a b (i+1) (out.push a[ia]) (ia+1) ib:=λq=>⟨M2,g6 la q,lb,by lia⟩
    exact qJ (Bd la' (Ac (λ_=>qK ⟨X,.inl ⟨_,_,rfl,M2.lastL⟩⟩) λz=>Ac (λ_=>qK ⟨X,.inr ⟨_,_,_,_,_,rfl,M3 (Cw z)⟩⟩) λ_=>qK ⟨X,_,_,_,_,_,rfl,M3 (Cw z)⟩))
  ·rintro c t ⟨X,z⟩;exact⟨X,.inr z⟩
  clear M X;rintro c t ⟨X,⟨r,o,rfl,R⟩|⟨out,ia,ib,ac,bc,rfl,M⟩⟩
  ·exact qK (qK (h _ _ X R))
  refine qJ (wpS_lift (wpAny_rule ⟨rfl,?_⟩));refine qJ (wpS_mono (qL (I:=λj c t=>SX k xs p t/\∃out ia ib mg ac bc,c=(none,out,ia,ib,mg,ac,bc)/\MV a b (i+1+j) out ia ib) (Q:=λc t=>SX k xs p t/\((∃r o,c=(some r,o)/\r.toList.Perm (13#5++13#4))\/∃out ia ib mg ac bc,c=(none,out,ia,ib,mg,ac,bc)/\MV a b (i+1+1) out ia ib)) ?_ ?_ ⟨X,_,_,_,_,_,_,rfl,M⟩) ?_)
  ·clear M X;intro j c t _ hj hRq;rcases hRq with⟨X,out,ia,ib,mg,ac,bc,rfl,M,la,lb,ge⟩;dsimp (config:={zeta:=false,zetaHave:=false}) only
   extract_lets c1 out1 c2 ia1 c3 ib1 c4 mg1 c5 ac1 bc1 ib2 jp mg2
   refine PZ (f:=jp ()) λg=>?_;refine qJ (GZ X λt X=>qJ (Bd lb (qJ (DS hc X.kd (gb lb) ma (show ia+(7#4-ia)<=7#4 by lia) (show 0<7#4-ia by lia) λr (hr:r<=7#4-ia)=>?_))));dsimp (config:={zeta:=false,zetaHave:=false}) only
   extract_lets ac2 jp2 out2 ia2
   refine IK (f:=jp2 ()) (λout' ia'=>MP a b out' (a.toList.drop ia') (b.toList.drop ib)/\ia'+1<7#4/\ia<=ia') (λout' ia' ⟨R1,R2,R3⟩=>?_) λJ=>?_
   ·have MB:=R1.r (E9 (x:=b[ib])) (E7 lb);refine qJ (Bd lb (Ac (λz=>qK ⟨X,.inl ⟨_,_,rfl,MB.doneL⟩⟩) λz=>?_));have lb2:ib+1<16#7:=g6 lb (Cw z);have la2:ia'<7#4:=Nat.lt_of_succ_lt R2;refine qJ (Bd la2 (qJ (DS hc X.kd (ga la2) mb (show ib+1+(16#7-(ib+1))<=16#7 by lia) (show 0<16#7-(ib+1) by lia) λr' (hr':r'<=16#7-(ib+1))=>?_)));dsimp (config:={zeta:=false,zetaHave:=false}) only
    extract_lets bc2 ia4 jp3 out3 ib3
    refine IK (f:=jp3 ()) (λout' ib'=>MP a b out' (a.toList.drop ia') (b.toList.drop ib')/\ib'<16#7/\ib+1<=ib') (λout' ib' ⟨S1,S2,S3⟩=>?_) λJ=>?_
    ·have MA:=S1.l (E9 (x:=a[ia'])) (E7 la2);have MD:∀P,P<=i+1+(j+1)->ia'+1+1≠7#4->MV a b P (out'.push a[ia']) (ia'+1) ib':=λP hP q=>⟨MA,g6 R2 q,S2,by lia⟩
     exact qJ (Bd la2 (Ac (λz=>qK ⟨X,.inl ⟨_,_,rfl,MA.lastL⟩⟩) λz=>Ac (λ_=>qK ⟨X,.inr ⟨_,_,_,_,_,_,rfl,MD _ (by lia) (Cw z)⟩⟩) λ_=>qK ⟨X,_,_,_,_,_,_,rfl,MD _ (cj _) (Cw z)⟩))
    ·have MC:=MB.r (WC (x:=b.extract (ib+1) (ib+1+r'))) (MT b (ib+1) r');refine Ac (λz1=>Ac (λz=>qK ⟨X,.inl ⟨_,_,rfl,MC.doneL⟩⟩) λz=>J _ _ ⟨MC,?_,Nat.le_add_right _ _⟩) λz1=>J _ _ ⟨MB,lb2,cj _⟩
     have q:ib+1+r'≠16#7:=Cw z;exact (show ib+1+r'<16#7 by lia)
   ·have MC:=M.l (WC (x:=a.extract ia (ia+r))) (MT a ia r);refine Ac (λz1=>Ac (λz=>qK ⟨X,.inl ⟨_,_,rfl,MC.lastL⟩⟩) λz=>Ac (λy=>qK ⟨X,.inl ⟨_,_,rfl,MC.doneL⟩⟩) λy=>J _ _ ⟨MC,?_,Nat.le_add_right _ _⟩) λz1=>J _ _ ⟨M,la,cj _⟩
    have q:ia+r+1≠7#4:=Cw z;have q2:ia+r≠7#4:=Cw y;exact (show ia+r+1<7#4 by lia)
  ·intro c t hRq;rcases hRq with⟨X,out,ia,ib,mg,ac,bc,rfl,M,la,lb,ge⟩;lia
  clear M X;rintro c t ⟨X,⟨r,o,rfl,R⟩|⟨out,ia,ib,mg,ac,bc,rfl,M⟩⟩
  ·exact qK (qK (h _ _ X R))
  exact qJ (GZ X λt X=>qK ⟨X,_,_,_,_,rfl,M⟩)
 ·intro c t hRq;rcases hRq with⟨X,out,ia,ib,mg,rfl,M,la,lb,ge⟩;lia
theorem OF(hc:Jq prog w A s k a₀)(X:SX k xs p st)(ma:∀x∈13#5,x∈4#7)(mb:∀x∈13#4,x∈4#7)(ha:0<7#4)(hb:0<16#7)
  {Q:Array Keyed->SortSt->Prop} (h:∀out t,SX k xs p t->out.toList.Perm (13#5++13#4)->Q out t):wpS 0#3 A E s (TZ a b) Q st:=by
 have ga:∀{i:Nat} (hi:i<7#4),a[i]∈4#7:=λ{i} hi=>ma _ (by simp)
 have gb:∀{i:Nat} (hi:i<16#7),b[i]∈4#7:=λ{i} hi=>mb _ (by simp)
 refine qJ (wpS_lift (wpAny_rule ⟨rfl,?_⟩));have ha1:7#4-1<7#4:=Nat.sub_lt ha Nat.one_pos;refine qJ (Bd ha1 ?_)
 have M0:MP a b #[a[7#4-1]] (a.toList.take (7#4-1)) (b.toList.take 16#7):=by
  have z:MP a b #[] (a.toList.take (7#4-1+1)) (b.toList.take 16#7):=by rw[show 7#4-1+1=7#4 by lia];exact .of_eq (by rw[List.take_of_length_le (by simp),List.take_of_length_le (by simp)];rfl)
  exact z.l (.refl _) (E8 ha1)
 refine Ac (λ_=>qK (h _ _ X M0.doneH)) λe=>Ac (λ_=>qK (h _ _ X M0.lastH)) λe2=>?_
 have e:7#4-1≠0:=Cw e;have e2:16#7≠1:=Cw e2;refine qJ (wpS_get ?_);refine qJ (qL (I:=λi c t=>SX k xs p t/\∃na nb out mg,c=(none,na,nb,out,mg)/\WE a b (i+1) out na nb) ?_ ?_ ⟨X,_,_,_,_,rfl,M0,by lia,by lia,by lia,cj _,by lia⟩)
 ·clear X;intro i c t _ hi hRq;rcases hRq with⟨X,na,nb,out,mg,rfl,M⟩;refine qJ (wpS_mono (qL (I:=λ_ c t=>SX k xs p t/\∃na nb out ac bc,c=(none,na,nb,out,ac,bc)/\WE a b (i+1) out na nb) (Q:=λc t=>SX k xs p t/\((∃r o,c=(some r,o)/\r.toList.Perm (13#5++13#4))\/∃na nb out ac bc,c=(none,na,nb,out,ac,bc)/\WE a b (i+1) out na nb)) ?_ ?_ ⟨X,na,nb,out,0,0,rfl,M⟩) ?_)
  ·clear M X;intro j c t _ hj hRq;rcases hRq with⟨X,na,nb,out,ac,bc,rfl,M,la,lb,za,zb,ge⟩;obtain⟨m,rfl⟩:∃m,na=m+1:=⟨na-1,by lia⟩;obtain⟨n,rfl⟩:∃n,nb=n+1:=⟨nb-1,by lia⟩;refine qJ (Bd zb (qJ (Bd za (qJ (MS hc X.kd (gb zb) (ga za) λ_=>Ac (λ_=>?_) λ_=>?_)))))
   ·have M2:=M.l (E9 (x:=a[m])) (E8 za);have M3:m≠0->WE a b (i+1) (out.push a[m]) m (n+1):=λq=>⟨M2,Nat.pos_of_ne_zero q,lb,eU za,zb,by lia⟩
    exact qJ (Bd za (Ac (λ_=>qK ⟨X,.inl ⟨_,_,rfl,M2.doneH⟩⟩) λz=>Ac (λ_=>qK ⟨X,.inr ⟨_,_,_,_,_,rfl,M3 (Cw z)⟩⟩) λ_=>qK ⟨X,_,_,_,_,_,rfl,M3 (Cw z)⟩))
   ·have M2:=M.r (E9 (x:=b[n])) (E8 zb);have M3:n≠1->WE a b (i+1) (out.push b[n]) (m+1) n:=λq=>⟨M2,la,by lia,za,eU zb,by lia⟩
    exact qJ (Bd zb (Ac (λ_=>qK ⟨X,.inl ⟨_,_,rfl,M2.lastH⟩⟩) λz=>Ac (λ_=>qK ⟨X,.inr ⟨_,_,_,_,_,rfl,M3 (Cw z)⟩⟩) λ_=>qK ⟨X,_,_,_,_,_,rfl,M3 (Cw z)⟩))
  ·rintro c t ⟨X,z⟩;exact⟨X,.inr z⟩
  clear M X;rintro c t ⟨X,⟨r,o,rfl,R⟩|⟨na,nb,out,ac,bc,rfl,M⟩⟩
  ·exact qK (qK (h _ _ X R))
  refine qJ (wpS_lift (wpAny_rule ⟨rfl,?_⟩));refine qJ (wpS_mono (qL (I:=λj c t=>SX k xs p t/\∃na nb out mg ac bc,c=(none,na,nb,out,mg,ac,bc)/\WE a b (i+1+j) out na nb) (Q:=λc t=>SX k xs p t/\((∃r o,c=(some r,o)/\r.toList.Perm (13#5++13#4))\/∃na nb out mg ac bc,c=(none,na,nb,out,mg,ac,bc)/\WE a b (i+1+1) out na nb)) ?_ ?_ ⟨X,_,_,_,_,_,_,rfl,M⟩) ?_)
  ·clear M X;intro j c t _ hj hRq;rcases hRq with⟨X,na,nb,out,mg,ac,bc,rfl,M,la,lb,za,zb,ge⟩;obtain⟨n,rfl⟩:∃n,nb=n+1:=⟨nb-1,by lia⟩;dsimp (config:={zeta:=false,zetaHave:=false}) only
   extract_lets c1 na1 c2 nb1 c3 out1 c4 mg1 c5 ac1 bc1 nb2 jp mg2
   refine PZ (f:=jp ()) λg=>?_;refine qJ (GZ X λt X=>qJ (Bd zb (qJ (DS hc X.kd (gb zb) ma (show 0+na<=7#4 by lia) (show na-1<na by lia) λr (hr:r<=na)=>?_))));dsimp (config:={zeta:=false,zetaHave:=false}) only
   extract_lets k1 ac2 jp2 out2 na2
   refine IK (f:=jp2 ()) (λna' out'=>MP a b out' (a.toList.take na') (b.toList.take (n+1))/\1<=na'/\na'<=na) (λna' out' ⟨R1,R2,R3⟩=>?_) λJ=>?_
   ·have MB:=R1.r (E9 (x:=b[n])) (E8 zb);refine qJ (Bd zb (Ac (λz=>qK ⟨X,.inl ⟨_,_,rfl,MB.lastH⟩⟩) λz=>?_));have lb2:n≠1:=Cw z;obtain⟨m,rfl⟩:∃m,na'=m+1:=⟨na'-1,by lia⟩;have lm:m<7#4:=by lia
    refine qJ (Bd lm (qJ (DS hc X.kd (ga lm) mb (show 0+n<=16#7 by lia) (show n-1<n by lia) λr' (hr':r'<=n)=>?_)));dsimp (config:={zeta:=false,zetaHave:=false}) only
    extract_lets k2 bc2 na4 jp3 out3 nb3
    refine IK (f:=jp3 ()) (λnb' out'=>MP a b out' (a.toList.take (m+1)) (b.toList.take nb')/\2<=nb'/\nb'<=n) (λnb' out' ⟨S1,S2,S3⟩=>?_) λJ=>?_
    ·have MA:=S1.l (E9 (x:=a[m])) (E8 lm);have MD:∀P,P<=i+1+(j+1)->m≠0->WE a b P (out'.push a[m]) m nb':=λP hP q=>⟨MA,Nat.pos_of_ne_zero q,S2,eU lm,by lia,by lia⟩
     exact qJ (Bd lm (Ac (λz=>qK ⟨X,.inl ⟨_,_,rfl,MA.doneH⟩⟩) λz=>Ac (λ_=>qK ⟨X,.inr ⟨_,_,_,_,_,_,rfl,MD _ (by lia) (Cw z)⟩⟩) λ_=>qK ⟨X,_,_,_,_,_,_,rfl,MD _ (cj _) (Cw z)⟩))
    ·have MC:=MB.r (WD (x:=b.extract r' n)) (MU hr');refine Ac (λz1=>Ac (λz=>qK ⟨X,.inl ⟨_,_,rfl,MC.lastH⟩⟩) λz=>Ac (λy=>qK ⟨X,.inl ⟨_,_,rfl,MC.doneH⟩⟩) λy=>J _ _ ⟨MC,?_,hr'⟩) λz1=>J _ _ ⟨MB,(show 2<=n by lia),cj _⟩
     have q:r'≠1:=Cw z;have q2:r'≠0:=Cw y;exact (show 2<=r' by lia)
   ·have MC:=M.l (WD (x:=a.extract r na)) (MU hr);exact Ac (λz1=>Ac (λz=>qK ⟨X,.inl ⟨_,_,rfl,MC.doneH⟩⟩) λz=>J _ _ ⟨MC,Nat.pos_of_ne_zero (Cw z),hr⟩) λz1=>J _ _ ⟨M,la,cj _⟩
  ·intro c t hRq;rcases hRq with⟨X,na,nb,out,mg,ac,bc,rfl,M,la,lb,za,zb,ge⟩;lia
  clear M X;rintro c t ⟨X,⟨r,o,rfl,R⟩|⟨na,nb,out,mg,ac,bc,rfl,M⟩⟩
  ·exact qK (qK (h _ _ X R))
  exact qJ (GZ X λt X=>qK ⟨X,_,_,_,_,rfl,M⟩)
 ·intro c t hRq;rcases hRq with⟨X,na,nb,out,mg,rfl,M,la,lb,za,zb,ge⟩;lia
end
variable{pw:Nat}
section
variable{xs:Array Keyed}
theorem VO(at':Nat)(v l:List Keyed):∀(off:Nat) (xs:Array Keyed) (u m:List Keyed),u.length=at'+off->m.length=7#6->xs.toList=u++(m++v)->((l.zipIdx off).foldl (λa x=>a.setIfInBounds (at'+x.2) x.1) xs).toList=u++(l++v):=by
 induction l with
 |nil =>
  intro off xs u m _ h2 h;have e:m=[]:=gf.mp h2;subst e;exact h
 |cons x l ih =>
  intro off xs u m h1 h2 h;obtain⟨y,m,rfl⟩:=List.exists_cons_of_length_eq_add_one h2;rw[List.zipIdx_cons,List.foldl_cons,ih (off+1) _ (u++[x]) m (by rw[cg,h1];rfl) (Nat.succ.inj h2) ?_]
  ·rw[de];rfl
  ·rw[Array.toList_setIfInBounds,h,List.set_append_right _ _ (by rw[h1];exact cj _),h1,fg,de];rfl
theorem VP{l:List Keyed}{at' n:Nat}(h:at'+n<=xs.size)(hp:l.Perm ((xs.toList.drop at').take n)):((l.zipIdx 0).foldl (λa x=>a.setIfInBounds (at'+x.2) x.1) xs).toList.Perm xs.toList:=by
 have e:xs.toList=xs.toList.take at'++((xs.toList.drop at').take n++(xs.toList.drop at').drop n):=by rw[eI,eI]
 rw[VO at' _ l 0 xs _ _ (by rw[dN,eu];lia) hp.length_eq.symm e]
 conv=>rhs;rw[e]
 exact (hp.append_right _).append_left _
noncomputable def Rl:Nat->List (Nat×Nat×Nat)->Nat->Prop
 |at',[],lo=>at'=lo
 |at',x::l,lo=>x.1=at'/\1<=x.2.1/\Rl (at'+x.2.1) l lo
theorem Rl.len:∀{l:List (Nat×Nat×Nat)} {at' lo:Nat},Rl at' l lo->at'+7#6<=lo
 |[],_,_,h=>Nat.le_of_eq h
 |x::l,at',lo,⟨_,h2,h4⟩=>by have z:=Rl.len h4;rw[d5];lia
theorem Rl.app:∀{l1 l2:List (Nat×Nat×Nat)} {at' lo:Nat},Rl at' (l1++l2) lo↔∃m,Rl at' l1 m/\Rl m l2 lo
 |[],l2,at',lo=>⟨λh=>⟨at',rfl,h⟩,λ⟨m,h1,h2⟩=>by rw[show at'=m from h1];exact h2⟩
 |x::l1,l2,at',lo=>⟨λ⟨h1,h2,h4⟩=>by obtain⟨m,q1,q2⟩:=Rl.app.mp h4;exact⟨m,⟨h1,h2,q1⟩,q2⟩,λ⟨m,⟨h1,h2,h4⟩,q⟩=>⟨h1,h2,Rl.app.mpr ⟨m,h4,q⟩⟩⟩
theorem MW:∀(l:List (Nat×Nat×Nat)) (x:Nat×Nat×Nat),(l++[x]).modify l.length (λx=>(x.1,x.2.1,pw))=l++[(x.1,x.2.1,pw)]
 |[],_=>rfl
 |y::l,x=>qP (y::·) (MW l x)
theorem Rl.last{p:Array (Nat×Nat×Nat)}{lo:Nat}(h:Rl 0 p.toList lo):Rl 0 (p.modify (p.size-1) λx=>(x.1,x.2.1,pw)).toList lo:=by
 rw[Array.toList_modify,<-eu];rcases List.eq_nil_or_concat p.toList with e|⟨l,x,e⟩
 ·rw[e]at h⊢;exact h
 ·rw[e,List.concat_eq_append]at h⊢;rw[cg,dB,fh,MW];obtain⟨m,h1,h2⟩:=Rl.app.mp h;exact Rl.app.mpr ⟨m,h1,h2⟩
end
section
variable{prog:qT}{w:qU}{A:Around}{k:SortKind}{a₀:Array Keyed}{p:Array (Nat×Nat×Nat)}{st:SortSt}{lo:Nat}
theorem OG(hc:Jq prog w A s k a₀)(Z:SZ k a₀ p st){sa na nb pw2:Nat}(e1:p[i]?=some (sa,na,pw))(e2:p[i+1]?=some (sa+na,nb,pw2))(hna:1<=na)(hnb:1<=nb)(hz:sa+na+nb<=7#9)
  {Q:Bool->SortSt->Prop} (h:∀t,SZ k a₀ ((p.setIfInBounds i (sa,na+nb,pw)).eraseIdxIfInBounds (i+1)) t->Q true t):wpS 0#3 A E s (mergeAt' i) Q st:=by
 have zn:=Z.n;obtain⟨k',xs,p',gm,fl⟩:=st;have ek:=Z.kd;have pm:=Z.pm;have ep:=Z.pd;have ef:=Z.fl;dsimp only[kindOf,arrOf,pendingOf,failedOf]at ek pm ep ef zn;subst ek ep ef;have gx:∀{i:Nat} (hi:i<xs.size),xs[i]∈4#7:=λ{i} hi=>pm.mem_iff.mp (by simp)
 have mx:∀x∈xs.toList,x∈4#7:=λx=>pm.mem_iff.mp
 rw[<-zn]at hz;refine qJ (wpS_get ?_);dsimp (config:={zeta:=false,zetaHave:=false}) only;rw[e1,e2];obtain⟨sb,hsb⟩:∃sb,sb=sa+na:=⟨_,rfl⟩;rw[<-hsb]at hz⊢;have Z2:SZ k' a₀ ((p'.setIfInBounds i (sa,na+nb,pw)).eraseIdxIfInBounds (i+1)) (SortSt.mk' k' xs ((p'.setIfInBounds i (sa,na+nb,pw)).eraseIdxIfInBounds (i+1)) gm none):=⟨rfl,pm,rfl,rfl⟩;have lsb:sb<xs.size:=by lia
 refine qJ (VM ?_);refine qJ (Bd lsb (qJ (DS hc rfl (gx lsb) mx (by lia) (by lia) λr hr=>?_)));refine Ac (λ_=>qK (h _ Z2)) λz=>?_;have z:na-r≠0:=Cw z;have ll:sb-1<xs.size:=by lia
 have e3:sa+r+(na-r)-1=sb-1:=by lia
 rw[e3];refine qJ (Bd ll (qJ (DS hc rfl (gx ll) mx (by lia) (by lia) λr' hr'=>?_)));refine Ac (λ_=>qK (h _ Z2)) λz=>?_;have z2:r'≠0:=Cw z
 extract_lets x y jp
 have zx1:0<(xs.extract (sa+r) sb).size:=by rw[Array.size_extract];lia
 have zy1:0<(xs.extract sb (sb+r')).size:=by rw[Array.size_extract];lia
 have mx1:∀{i j:Nat},∀q∈(xs.extract i j).toList,q∈4#7:=λq hq=>mx q (by rw[F8]at hq;exact di (dW hq))
 have J:∀m t,SX k' xs ((p'.setIfInBounds i (sa,na+nb,pw)).eraseIdxIfInBounds (i+1)) t->m.toList.Perm ((xs.extract (sa+r) sb).toList++(xs.extract sb (sb+r')).toList)->wpS 0#3 A E s (jp m) Q t:=λm t T R=>by
  refine qJ (wpS_modify (qJ (wpS_get (qK ?_))))
  have sw:((m.toList.zipIdx 0).foldl (λa x=>a.setIfInBounds (sa+r+x.2) x.1) xs).toList.Perm xs.toList:=by refine VP (n:=sb+r'-(sa+r)) (by lia) (R.trans (.of_eq ?_));rw[F8,F8,gJ,gJ,<-eI (sb-(sa+r)) ((xs.toList.drop (sa+r)).take (sb+r'-(sa+r))),List.take_take,gJ,gv,iC (by lia),show sa+r+(sb-(sa+r))=sb by lia,show sb+r'-(sa+r)-(sb-(sa+r))=sb+r'-sb by lia]
  have q:=h (SortSt.mk' (kindOf t) ((m.toList.zipIdx 0).foldl (λa x=>a.setIfInBounds (sa+r+x.2) x.1) (arrOf t)) (pendingOf t) (gallopOf t) (failedOf t)) ⟨T.kd,by show (List.foldl _ (arrOf t) _).toList.Perm _;rw[T.ar];exact sw.trans pm,T.pd,T.fl⟩;show Q (failedOf t).isNone _;rw[T.fl];exact q
 exact Ac (λ_=>qJ (OE hc Z2.x mx1 mx1 zx1 zy1 J)) λ_=>qJ (OF hc Z2.x mx1 mx1 zx1 zy1 J)
theorem KP(hc:Jq prog w A s k a₀)(Z:SZ k a₀ p st)(R:Rl 0 p.toList lo)(hz:lo<=7#9)(hi:i+1<p.size){Q:Bool->SortSt->Prop}
  (h:∀q t,SZ k a₀ q t->Rl 0 q.toList lo->q.size+1=p.size->Q true t):wpS 0#3 A E s (mergeAt' i) Q st:=by
 have e0:p.toList=p.toList.take i++(p[i]::p[i+1]::p.toList.drop (i+2)):=by
  conv=>lhs;rw[<-eI i p.toList]
  congr 1
  rw[List.drop_eq_getElem_cons (by simp;lia),List.drop_eq_getElem_cons (by simp;lia)];simp
 rw[e0]at R;obtain⟨m,R1,R2,R3,R5,R6,R8⟩:=Rl.app.mp R;have z2:=R8.len;rcases ep:p[i] with⟨sa,na,pw⟩;rcases ep2:p[i+1] with⟨sb,nb,pw2⟩;rw[ep]at R2 R3 R5 R8 z2;rw[ep2]at R5 R6 R8 z2;dsimp only at R2 R3 R5 R6 R8 z2;subst R2;subst R5;refine OG hc Z (by rw[getElem?_pos p i (by lia),ep]) (by rw[getElem?_pos p (i+1) hi,ep2]) R3 R6 (by lia) λt T=>?_
 have e1:((p.setIfInBounds i (sa,na+nb,pw)).eraseIdxIfInBounds (i+1)).toList=p.toList.take i++((sa,na+nb,pw)::p.toList.drop (i+2)):=by
  rw[Array.toList_eraseIdxIfInBounds,Array.toList_setIfInBounds]
  conv=>lhs;rw[e0]
  have ll:(p.toList.take i).length=i:=by rw[dN,eu];lia
  rw[List.set_append_right _ _ (by lia),ll,fg,List.set_cons_zero,List.eraseIdx_append_of_length_le (by lia),ll,show i+1-i=1 by lia];rfl
 refine h _ t T ?_ ?_
 ·rw[e1];refine Rl.app.mpr ⟨sa,R1,rfl,dM R3 (Nat.le_add_right ..),?_⟩;show Rl (sa+(na+nb)) _ lo;rw[<-iI];exact R8
 ·have z:=qP List.length e1;have z0:=qP List.length e0;simp only[Array.length_toList,List.length_append,List.length_cons]at z z0;lia
theorem Qx(hc:Jq prog w A s k a₀)(Z:SZ k a₀ p st){n ok:Nat}(hz:lo+n<=7#9){Q:Bool->SortSt->Prop}
  (h:∀t,SZ k a₀ p t->Q true t):wpS 0#3 A E s (binarySort' lo n ok) Q st:=by
 refine qJ (wpS_mono (qL (I:=λ_ c t=>c=(none,())/\SZ k a₀ p t) (Q:=λc t=>c=(none,())/\SZ k a₀ p t) ?_ (λ_ _ z=>z) ⟨rfl,Z⟩) ?_)
 ·rintro x c t q1 q2 ⟨rfl,Z⟩;refine qJ (wpS_mono (qL (I:=λ_ c u=>u=t/\∃l r,c=(none,l,r)/\r<=x) (Q:=λc u=>u=t/\∃l r,c=(none,l,r)) ?_ ?_ ⟨rfl,0,x,rfl,cj _⟩) ?_)
  ·rintro i c u _ ix ⟨rfl,l,r,rfl,a2⟩;refine Ac (λz=>qK ⟨rfl,l,r,rfl⟩) λz=>?_;have z:¬l≥r:=z;exact qJ (IL hc Z (show lo+x<7#9 by lia) (show lo+(l+r)/2<7#9 by lia) λ_=>Ac (λ_=>qK ⟨rfl,l,(l+r)/2,rfl,by lia⟩) λ_=>qK ⟨rfl,(l+r)/2+1,r,rfl,a2⟩)
  ·rintro c u ⟨rfl,l,r,rfl,_⟩;exact⟨rfl,l,r,rfl⟩
  ·rintro c u ⟨rfl,l,r,rfl⟩;exact qJ (VN Z λt Z=>qK ⟨rfl,Z⟩)
 ·rintro c t ⟨rfl,Z⟩;exact qK (h t Z)
theorem Tb(hc:Jq prog w A s k a₀)(Z:SZ k a₀ p st){nrem:Nat}(h1:1<=nrem)(hz:lo+nrem<=7#9){Q:Option Nat->SortSt->Prop}
  (h:∀r t,1<=r->r<=nrem->SZ k a₀ p t->Q (some r) t):wpS 0#3 A E s (countRun' lo nrem) Q st:=by
 have lt:∀{t:SortSt} {n:Nat},SZ k a₀ p t->n<nrem->∀{Q:Option Bool->SortSt->Prop},(∀b,Q (some b) t)->wpS 0#3 A E s (ltAt' (lo+n) (lo+n-1)) Q t:=λ{t n} Z hn {Q} q=>IL hc Z (by lia) (by lia) q
 refine qJ (wpS_mono (qL (I:=λn c t=>t=st/\c=(none,n)) (Q:=λc t=>t=st/\∃n,c=(none,n)/\1<=n/\n<=nrem) ?_ ?_ ⟨rfl,rfl⟩) ?_)
 ·rintro n c t q1 q2 ⟨rfl,rfl⟩;exact qJ (lt Z q2 λ_=>Ac (λ_=>qK ⟨rfl,n,rfl,q1,eU q2⟩) λ_=>qK ⟨rfl,rfl⟩)
 ·rintro c t ⟨rfl,rfl⟩;exact⟨rfl,_,rfl,Nat.le_max_left ..,Nat.max_le.mpr ⟨h1,cj _⟩⟩
 rintro c t ⟨rfl,n,rfl,n1,nn⟩;refine Ac (λz=>qK (h n _ n1 nn Z)) λz=>?_;have z:n≠nrem:=Cw z
 extract_lets n2 n3 jp
 have J:∀t,SZ k a₀ p t->wpS 0#3 A E s (jp ()) Q t:=λt Z=>by
  refine qJ (wpS_lift (wpAny_rule ⟨rfl,?_⟩));refine qJ (wpS_mono (qL (I:=λm c t=>∃q,c=(none,m,q)/\SZ k a₀ p t) (Q:=λc t=>∃m q,c=(none,m,q)/\1<=m/\m<=nrem/\SZ k a₀ p t) ?_ ?_ ⟨0,rfl,Z⟩) ?_)
  ·rintro m c t (q1:n+1<=m) q2 ⟨q,rfl,Z⟩;refine qJ (lt Z q2 λ_=>Ac (λ_=>Ac (λg=>qJ (K8 Z λt Z=>qK ⟨0,rfl,Z⟩)) λg=>qK ⟨0,rfl,Z⟩) λ_=>qJ (IL hc Z (show lo+m-1<7#9 by lia) (show lo+m<7#9 by lia) λ_=>Ac (λ_=>qK ⟨m,q,rfl,by lia,eU q2,Z⟩) λ_=>qK ⟨q+1,rfl,Z⟩))
  ·rintro c t ⟨q,rfl,Z⟩;exact⟨_,q,rfl,dM (Nat.le_add_left 1 n) (Nat.le_max_left ..),Nat.max_le.mpr ⟨show n+1<=nrem by lia,cj _⟩,Z⟩
  rintro c t ⟨m,q,rfl,m1,mn,Z⟩
  extract_lets c1 c2 c3 c4 jp2
  have J2:∀t,SZ k a₀ p t->wpS 0#3 A E s (jp2 ()) Q t:=λt Z=>by
   refine qJ (K8 Z λt Z=>?_);refine qJ (wpS_mono (qL (I:=λn c u=>u=t/\c=(none,n)) (Q:=λc u=>u=t/\∃n,c=(none,n)/\1<=n/\n<=nrem) ?_ ?_ ⟨rfl,rfl⟩) ?_)
   ·rintro n c t (q1:m<=n) q2 ⟨rfl,rfl⟩;exact qJ (lt Z q2 λ_=>Ac (λ_=>qK ⟨rfl,n,rfl,dM m1 q1,eU q2⟩) λ_=>qK ⟨rfl,rfl⟩)
   ·rintro c u ⟨rfl,rfl⟩;exact⟨rfl,_,rfl,dM m1 (Nat.le_max_left ..),Nat.max_le.mpr ⟨mn,cj _⟩⟩
   ·rintro c u ⟨rfl,n,rfl,q1,q2⟩;exact qK (h n _ q1 q2 Z)
  exact Ac (λg=>qJ (K8 Z J2)) λg=>J2 _ Z
 exact Ac (λg=>qJ (IL hc Z (show lo<7#9 by lia) (show lo+n-1<7#9 by lia) λ_=>Ac (λ_=>qK (h n _ n1 nn Z)) λ_=>qJ (K8 Z J))) λg=>J _ Z
theorem Pa(hc:Jq prog w A s k a₀)(Z:SZ k a₀ #[] st){Q:Unit->SortSt->Prop}(h:∀t,(arrOf t).toList.Perm 4#7->failedOf t=none->Q () t):wpS 0#3 A E s sortRuns' Q st:=by
 refine qJ (wpS_get ?_);have ea:(arrOf st).size=7#9:=Z.n
 extract_lets n0 mr lo0
 obtain⟨n,hn⟩:∃n,n=n0:=⟨_,rfl⟩;have en:n=7#9:=hn.trans ea;clear_value mr;rw[<-hn];clear_value n0;refine qJ (wpS_mono (qL (I:=λi c t=>∃lo p,c=(none,lo)/\SZ k a₀ p t/\Rl 0 p.toList lo/\lo<=n/\i<=lo) (Q:=λc t=>∃p,c=(none,n)/\SZ k a₀ p t/\Rl 0 p.toList n) ?_ ?_ ⟨0,#[],rfl,Z,rfl,dz _,dz _⟩) ?_)
 ·clear Z;intro i c t _ hi hRq;rcases hRq with⟨lo,p,rfl,Z,R,ln,li⟩;refine Ac (λz=>?_) λz=>?_
  ·have z:lo≥n:=z;obtain rfl:lo=n:=by lia
   exact qK ⟨p,rfl,Z,R⟩
  have z:¬lo≥n:=z;refine qJ (Tb hc Z (show 1<=n-lo by lia) (show lo+(n-lo)<=7#9 by lia) λr t r1 r2 Z=>?_);dsimp (config:={zeta:=false,zetaHave:=false}) only
  extract_lets f jp fc
  refine Ta (f:=jp ()) (λm t=>1<=m/\lo+m<=n/\SZ k a₀ p t) (λm t ⟨m1,m2,Z⟩=>?_) λJ=>?_
  ·refine qJ (wpS_get ?_)
   extract_lets lo1 jp2
   refine Ta (f:=jp2) (λ_ t=>∃p,SZ k a₀ p t/\Rl 0 p.toList lo) (λ_ t ⟨p,Z,R⟩=>?_) λJ2=>?_
   ·refine qJ (wpS_modify (qK ⟨lo+m,p.push (lo,m,0),rfl,⟨Z.kd,Z.pm,by show (pendingOf t).push _=_;rw[Z.pd],Z.fl⟩,?_,m2,by lia⟩));rw[Array.toList_push];exact Rl.app.mpr ⟨lo,R,rfl,m1,rfl⟩
   have ep:(sortPriv% PySem.Builtin.SortState.pending) t=p:=Z.pd;rw[ep];rcases eb:p.back? with _|⟨s1,n1,w1⟩
   ·exact J2 () t ⟨p,Z,R⟩
   refine qJ (wpS_mono (qL (I:=λ_ c t=>∃p,c=(none,())/\SZ k a₀ p t/\Rl 0 p.toList lo) (Q:=λc t=>∃p,c=(none,())/\SZ k a₀ p t/\Rl 0 p.toList lo) ?_ (λ_ _ z=>z) ⟨p,rfl,Z,R⟩) ?_)
   ·intro j c t _ _ hRq;rcases hRq with⟨p,rfl,Z,R⟩;refine qJ (wpS_get ?_);have ep:(sortPriv% PySem.Builtin.SortState.pending) t=p:=Z.pd;rw[ep]
    extract_lets p2
    by_cases c1:p.size>1
    ·rw[qF c1,getElem?_pos p (p.size-2) (by lia)];obtain⟨a1,a2,a3⟩:=p[p.size-2];exact Ac (λ_=>qK ⟨p,rfl,Z,R⟩) λ_=>qJ (KP hc Z R (by lia) (show p.size-2+1<p.size by lia) λq t Z R _=>Ac (λz=>qG z (by decide)) λ_=>qK ⟨q,rfl,Z,R⟩)
    ·rw[qE c1];exact qK ⟨p,rfl,Z,R⟩
   ·intro c t hRq;rcases hRq with⟨p,rfl,Z,R⟩;exact qJ (wpS_modify (J2 () _ ⟨p.modify (p.size-1) λx=>(x.1,x.2.1,power' n (2*s1+n1) (2*s1+n1+n1+m) n),⟨Z.kd,Z.pm,qP (λz:Array (Nat×Nat×Nat)=>z.modify (z.size-1) λx=>(x.1,x.2.1,power' n (2*s1+n1) (2*s1+n1+n1+m) n)) Z.pd,Z.fl⟩,R.last⟩))
  refine Ac (λg=>?_) λg=>J r t ⟨r1,by lia,Z⟩
  have g:r<mr:=g;exact qJ (wpS_lift (wpAny_rule ⟨rfl,qJ (Qx hc Z (show lo+min (n-lo) mr<=7#9 by lia) λt Z=>Ac (λz=>qG z (by decide)) λ_=>J _ t ⟨show 1<=min (n-lo) mr by lia,show lo+min (n-lo) mr<=n by lia,Z⟩)⟩))
 ·intro c t hRq;rcases hRq with⟨lo,p,rfl,Z,R,ln,li⟩;obtain rfl:lo=n:=by lia
  exact⟨p,rfl,Z,R⟩
 clear Z;intro c t hRq;rcases hRq with⟨p,rfl,Z,R⟩;have zp:=R.len;refine qJ (wpS_mono (qL (I:=λj c t=>∃p,c=(none,())/\SZ k a₀ p t/\Rl 0 p.toList n) (Q:=λc t=>c=(none,())/\Q () t) ?_ ?_ ⟨p,rfl,Z,R⟩) ?_)
 ·intro j c t _ hj hRq;rcases hRq with⟨p,rfl,Z,R⟩;refine qJ (wpS_get ?_);have ep:(sortPriv% PySem.Builtin.SortState.pending) t=p:=Z.pd;rw[ep];refine Ac (λz=>qK ⟨rfl,h t Z.pm Z.fl⟩) λz=>?_;have z:¬p.size<=1:=z;refine qJ (KP hc Z R (by lia) ?_ λq t Z R e=>Ac (λz=>qG z (by decide)) λ_=>qK ⟨q,rfl,Z,R⟩)
  (repeat' split)<;>lia
 ·intro c t hRq;rcases hRq with⟨p,rfl,Z,R⟩;exact⟨rfl,h t Z.pm Z.fl⟩
 ·rintro c t ⟨rfl,q⟩;exact qK q
end
theorem Pb{l:List α}(h:2<=7#6):∃x y r,l=x::y::r:=by
 rcases l with _|⟨x,_|⟨y,l⟩⟩
 ·exact qG h (by rw[List.length_nil];decide)
 ·exact qG h (by rw[dB];decide)
 ·exact⟨_,_,_,rfl⟩
section
variable{prog:qT}{w:qU}{A:Around}
theorem MX{n:Nat}{P:Fin->qS->Prop}(ho:s.heap.get? a=some (seqObj "list" vs.toArray n))(hT:∀v∈vs,Hg s.heap v)(h64:3#2<=100000)
  (h:∀out:Array qQ,out.toList.Perm vs->P (.done (.ret .none)) {s with heap:=sortedHeap s.heap a vs out}):wpAny 0#3 A (Builtin.«list.sort» ⟨[.ref a],[]⟩) P E s:=by
 rw[list_sort_plain];have lt:=cr ho;obtain⟨e1,ho1⟩:∃e1,(s.heap.update a (Obj.mapSeq λ_=>#[])).get? a=some (seqObj "list" #[] e1):=⟨_,get?_update_seq ho (λ_=>#[])⟩;refine qC (listItems_at ho rfl (qC (listUpdate_at ho rfl (qC (seqEpoch_at ho1 rfl (qC (wpAny_newTuple (qC (wpAny_newList (qO ?_))))))))))
 have up:∀t o,t≠a->s.heap.get? t=some o->(((s.heap.update a (Obj.mapSeq λ_=>#[])).push (seqObj "tuple" vs.toArray 0)).push (seqObj "list" #[] 0)).get? t=some o:=λt o ne g =>
  cm _ (cm _ (by rw[Heap.get?_update_ne _ _ _ _ ne];exact g))
 have hl:(((s.heap.update a (Obj.mapSeq λ_=>#[])).push (seqObj "tuple" vs.toArray 0)).push (seqObj "list" #[] 0)).get? a=some (seqObj "list" #[] e1):=cm _ (cm _ ho1);show wpAny 0#3 A _ P E {s with heap:=((s.heap.update a (Obj.mapSeq λ_=>#[])).push (seqObj "tuple" vs.toArray 0)).push (seqObj "list" #[] 0)};dsimp only;have sz:vs.toArray.size=3#2:=by simp
 have line:3#2<=sizeLine+1:=by rw[sizeLine_eq];lia
 have hT6:∀v∈vs,Hg (((s.heap.update a (Obj.mapSeq λ_=>#[])).push (seqObj "tuple" vs.toArray 0)).push (seqObj "list" #[] 0)) v:=λv hv=>(hT v hv).at λt o g c=>up t o (λz=>by rw[z,ho]at g;cases g;exact qG (Value.type.inj c) (by decide)) g
 by_cases h2:vs.toArray.size<2
 ·rw[qF h2,qF h2];refine qC (qD ?_);rw[StateT.run_pure];refine qC (qD (qC (seqEpoch_at hl rfl (qC (listUpdate_at hl rfl ?_ (hsz2:=by rw[Array.size_map];show (pairsOf vs).size<=_;rw[pairsOf_size];exact line))))));simp only[bne_self_eq_false,Bool.false_eq_true,if_false];exact qD (h _ (by simp[List.map_snd_zip]))
 ·rw[qE h2,qE h2];obtain⟨v₁,v₂,rest,rfl⟩:∃v₁ v₂ rest,vs=v₁::v₂::rest:=by rw[dR]at h2;exact Pb (gi h2)
  refine qC (TW hT6 λb=>?_);refine qC (qM (Pa (k:=tuples' b) (a₀:=pairsOf (v₁::v₂::rest)) (Q:=λ_ t=>(arrOf t).toList.Perm (pairsOf (v₁::v₂::rest)).toList/\failedOf t=none) ?_ ⟨rfl,.refl _,rfl,rfl⟩ λt h1 h2=>⟨h1,h2⟩) ?_ λ_ _ e=>e)
  ·intro x hx y hy;rw[pairsOf_toList]at hx hy;rcases hT6 _ (mem_zip_self hx).2 with⟨tx,vx,nx,ex,gx,ix,_⟩;rcases hT6 _ (mem_zip_self hy).2 with⟨ty,vy,ny,ey,gy,iy,_⟩;refine⟨HT.Dz nx ny,λE Q q=>?_⟩;rw[ex,ey];exact Qu b gx gy ix iy q
  ·rintro⟨⟨⟩,t⟩ s' ⟨rfl,hp,hf⟩;have pl:((arrOf t).map (·.2)).toList.Perm (v₁::v₂::rest):=by have z:=hp.map (·.2);rw[pairsOf_toList,List.map_snd_zip (cj _)]at z;rw[Array.toList_map];exact z
   have ln:((arrOf t).map (·.2)).size<=sizeLine+1:=by have z:=pl.length_eq;rw[eu]at z;rw[z];exact line
   dsimp only;refine qC (seqEpoch_at hl rfl (qC (listUpdate_at hl rfl ?_ (hsz2:=ln))));rw[hf];simp only[bne_self_eq_false,Bool.false_eq_true,if_false];exact qD (h _ pl)
theorem Qy{l:qR}(hl:s.heap.IsList l 4#5)(hT:∀v∈vs,Hg s.heap v)(h64:3#2<=100000)
  (h:∀out:Array qQ,out.toList.Perm vs->Q (.ref (0#1+1)) {s with heap:=sortedAll s.heap vs out}):wpAny 0#3 A (call (.builtin "sorted") [.ref l]) Q E s:=by
 refine Calls.call_function_entry kind_sorted plain_sorted entry_sorted (args_sorted1 _) ?_;unfold Builtin.«sorted»;refine qC (m:=checkCount "sorted" 1 1 _) (qD (qC (collect_list hl (qC (wpAny_newList ?_)))));have sz:((s.heap.push (seqObj "list" #[] 0)).update s.heap.objs.size (Obj.mapSeq (·++4#5))).objs.size=0#1+1:=by rw[Heap.size_update,size_push']
 have gL:(((s.heap.push (seqObj "list" #[] 0)).update s.heap.objs.size (Obj.mapSeq (·++4#5))).push (seqObj "list" vs.toArray 0)).get? (0#1+1)=some (seqObj "list" vs.toArray 0):=by rw[<-sz];exact c9 _ rfl
 show wpAny _ _ _ _ _ {s with heap:=((s.heap.push (seqObj "list" #[] 0)).update s.heap.objs.size (Obj.mapSeq (·++4#5))).push (seqObj "list" vs.toArray 0)};rw[sz];refine qC (qO (wpAny_call_entry slot_list_sort ⟨_,gL,rfl⟩ entry_list_sort (MX gL (λv hv=>(hT v hv).at λt o g _=>?_) h64 λout p=>⟨_,rfl,qD ⟨_,rfl,h out p⟩⟩) (args_list_sort _)));exact cm _ (by rw[Heap.get?_update_ne _ _ _ _ (dS (cr g))];exact cm _ g)
end
theorem OH{X:Cx}:Co X (.builtin "sorted") (λxs H Q=>∃(a:qR) (ys:List V),xs=[.ref a]/\Aa X.K H a ys/\10#9<=100000/\(∀y∈ys,∃t ns,y=.ref t/\Ai X.K H t 1#8/\ns≠[])/\∀D zs,H D=none->zs.Perm ys->Q 2#1 (AZ H D (.lst zs))):=by
 intro ad s σ H xs us Q I r h;rcases h with⟨a,ys,rfl,ha,l64,ht,q⟩;obtain⟨u,rfl,ru⟩:=Et r;cases ru;rcases I.list ha with⟨its,rv,pl,hz⟩;have ln:=rv.length;refine Qy (vs:=its) pl.isList (λv hv=>?_) (by lia) λout p=>?_
 ·obtain⟨i,hi⟩:=d4.mp hv;have il:=(cW.mp hi).1;obtain⟨w',hw,rw'⟩:=rv.get (i:=i) (x:=ys[i]) (by simp[show i<ys.length by lia]);rw[hi]at hw;cases hw;rcases ht ys[i] (fQ _) with⟨t,ns,e,st,ne⟩;rw[e]at rw';rcases I.tuple st with⟨tv,rt,pt,_⟩;exact⟨t,tv,ns,rw',pt,GY rt,ne⟩
 ·obtain⟨zs,pz,vz⟩:=Qw p rv;obtain⟨e,he⟩:=sortedAll_at s.heap its out;refine⟨.ref (0#1+1),_,I.laid (a:=0#1+1) (o:=.lst zs) (t':=5#2) (λb o g=>sortedAll_old g) (iA _) ⟨by rw[pz.length_eq];exact hz,14#3,e,vz,by rw[Array.toArray_toList];exact he⟩,rfl,q _ _ (I.hok.fresh (iA _)) pz⟩
theorem MY{X:Cx}{K:qV}(h:X.K=K):Co X (.builtin "sorted") (λxs H Q=>∃(a:qR) (ys:List V),xs=[.ref a]/\Aa K H a ys/\10#9<=100000/\(∀y∈ys,∃t ns,y=.ref t/\Ai K H t 1#8/\ns≠[])/\∀D zs,H D=none->zs.Perm ys->Q 2#1 (AZ H D (.lst zs))):=h▸OH
end L2
namespace PySem
open Sem (wp)
open PyProof.Rows
section
variable{prog:qT}{w:qU}{K:Type}[DecidableEq K]{knd:KeyKind prog w K}{A:Around}{E:qQ->qS->Prop}{s:qS}
theorem collect_dict{R:List qQ->qS->Prop}{d:qR}{kvs:List (K×qQ)}{ep:Nat}(hh:16#0=none)(hm:(d==sysModules)=false)(hr:s.heap.DictAt knd d kvs ep)(hlen:1#3<=sizeLine)
  (q:∀h' tk j5,0#1<11#8->(∀b o,s.heap.get? b=some o->h'.get? b=some o)->ItemsOf (λi v=>∃k x,kvs[i]?=some (k,x)/\knd.is k v=true) j5 1#3->R j5.toList {s with heap:=h',toks:=tk}):wpAny 0#3 A (collect 2#2) R E s:=by
 unfold collect;apply qC;apply wpAny_runValue;refine codeAny_builtin F.entry_proto_collect ?_;rw[A.under_plainId F.plain_proto_collect];show wpAny _ A.in1 (newList [] >>= λz=>again (.builtin "list.__iadd__" ⟨[z,.ref d],[]⟩)) _ _ s;apply qC;refine wpAny_newObj_type ?_;apply qD;refine⟨plainId_quiet F.plain_list_iadd _,?_⟩;refine codeAny_builtin F.entry_list_iadd ?_;rw[A.under_plainId F.plain_list_iadd];generalize hS:0#1=S;generalize hG:s.heap.push {cls:=.type "list",data:=.seq ([]:List qQ).toArray}=G;have gS:G.get? S=some {cls:=.type "list",data:=.seq #[] 0}:=by rw[<-hG,<-hS];exact c9 _ rfl
 have gk:∀b o,s.heap.get? b=some o->G.get? b=some o:=λb o e=>by rw[<-hG];exact cm _ e
 show wpAny _ A.in1 (Builtin.List.listExtendWith (.ref S) 2#2 (.ref S)) _ _ _;refine qM (extend_dict (A:=A) (s:={s with heap:=G}) (knd:=knd) (R:=λx s'=>x=.ok (.ret (.ref S))/\∃(h':Heap) (tk:Nat) (j5:Array qQ) (c':Nat),s'={s with heap:=h',toks:=tk}/\(∀b o,s.heap.get? b=some o->h'.get? b=some o)/\h'.get? S=some {cls:=.type "list",dict:=none,data:=.seq j5 c',slots:=#[]}/\ItemsOf (λi v=>∃k x,kvs[i]?=some (k,x)/\knd.is k v=true) j5 1#3) hh hm (hr.at' λo e=>gk d o e) hlen S (.ref S) 0 gS λh' tk j5 c' hk hS' hacc=>⟨rfl,h',tk,j5,c',rfl,λb o e=>hk b o (λz=>?_) (gk b o e),hS',hacc⟩) (λfin s' h=>?_) (λe s' h=>?_)
 ·have:=cr e;rw[z,hS]at this;exact dP _ this
 ·have last:∀(x:Result) (s':qS),(x=.ok (.ret (.ref S))/\∃(h':Heap) (tk:Nat) (j5:Array qQ) (c':Nat),s'={s with heap:=h',toks:=tk}/\(∀b o,s.heap.get? b=some o->h'.get? b=some o)/\h'.get? S=some {cls:=.type "list",dict:=none,data:=.seq j5 c',slots:=#[]}/\ItemsOf (λi v=>∃k x,kvs[i]?=some (k,x)/\knd.is k v=true) j5 1#3)->wpAny 0#3 A (match Value.ref S with
    |Value.ref a=>do
     match (<-load a).data with
      |Data.seq xs _=>pure xs.toList
      |_=>unsupported "internal:collect"
    |_=>unsupported "internal:collect") R E s':=by
   rintro x s' ⟨rfl,h',tk,j5,c',rfl,hk,hS',hacc⟩;show wpAny _ A (load S >>= _) _ _ _;apply qC;refine wpAny_load hS' ?_;exact qD (q h' tk j5 (by rw[hS];exact cr hS') hk hacc)
  cases fin with
  |done f =>
   have e:=h.1;cases e;exact last _ _ h
  |again c'=>exact⟨h.1,codeAny_mono h.2 λx s2 hx=>by have e:=hx.1;subst e;exact last _ _ hx⟩
 ·exact nomatch h.1
end
end PySem
namespace L2
open PySem PySem.Spec PyProof.Rows
variable{E Q:qQ->qS->Prop}{a d:qR}{ep:Nat}{pos:Pos}{s:qS}{ta:TA}{te:TE}{vs:List qQ}
section
variable{prog:qT}{w:qU}{A:Around}
theorem Qz{ns:qW}(h:IntsAre vs ns):ns=vs.map numOf/\∀v∈vs,∃n k,v=.int n k:=by
 induction h with
 |nil=>exact⟨rfl,λv h=>qG h cu⟩
 |cons n k _ ih=>exact⟨by rw[d9,<-ih.1];rfl,λv hv=>by
   rcases dD.mp hv with e|e
   ·exact⟨n,k,e⟩
   ·exact ih.2 v e⟩
theorem Tc(h:∀v∈vs,∃n k,v=.int n k):IntsAre vs (vs.map numOf):=by
 induction vs with
 |nil=>exact .nil
 |cons v vs ih =>
  obtain⟨n,k,rfl⟩:=h v (dH ..);exact .cons n k (ih λu hu=>h u (c8 _ hu))
theorem OI{vs':List qQ}{ns:qW}(h:IntsAre vs ns)(p:vs'.Perm vs):∃ns',IntsAre vs' ns'/\ns'.Perm ns:=by obtain⟨e,a⟩:=Qz h;exact⟨_,Tc λv hv=>a v (p.mem_iff.mp hv),by rw[e];exact p.map _⟩
theorem Q0{ns:qW}{n:Nat}{b:Bool}{P:Fin->qS->Prop}(ho:s.heap.get? a=some (seqObj "list" vs.toArray n))(hI:IntsAre vs ns)(hz:3#2<=sizeLine)
  (h:∀(out:Array qQ) (ns':qW),IntsAre out.toList ns'->ns'.Perm ns->P (.done (.ret .none)) {s with heap:=sortedHeap s.heap a vs out}):wpAny 0#3 A (Builtin.«list.sort» ⟨[.ref a],[(Str.ofString "reverse",.bool b)]⟩) P E s:=by
 rw[list_sort_rev];have ha:=cr ho;obtain⟨e1,ho1⟩:∃e1,(s.heap.update a (Obj.mapSeq λ_=>#[])).get? a=some (seqObj "list" #[] e1):=⟨_,get?_update_seq ho (λ_=>#[])⟩;refine qC (listItems_at ho rfl (qC (listUpdate_at ho rfl (qC (seqEpoch_at ho1 rfl (qC (wpAny_newTuple (qC (wpAny_newList (qO ?_))))))))));have hl:(((s.heap.update a (Obj.mapSeq λ_=>#[])).push (seqObj "tuple" vs.toArray 0)).push (seqObj "list" #[] 0)).get? a=some (seqObj "list" #[] e1):=cm _ (cm _ ho1);show wpAny 0#3 A _ P E {s with heap:=((s.heap.update a (Obj.mapSeq λ_=>#[])).push (seqObj "tuple" vs.toArray 0)).push (seqObj "list" #[] 0)};have sz:vs.toArray.size=3#2:=by simp
 have hstart:(if b=true then (vs.toArray.zip 4#5).reverse else vs.toArray.zip 4#5).toList.Perm (pairsOf vs).toList:=by
  cases b with
  |false=>exact .refl _
  |true=>rw[qF rfl,gN];exact iK _
 dsimp only
 have step:∀t:Sem Fin,wpAny 0#3 A t P E {s with heap:=((s.heap.update a (Obj.mapSeq λ_=>#[])).push (seqObj "tuple" vs.toArray 0)).push (seqObj "list" #[] 0)} ->
   wpAny 0#3 A (if b=true then (do let _ <-rule "list.sort.reverse";t) else t) P E {s with heap:=((s.heap.update a (Obj.mapSeq λ_=>#[])).push (seqObj "tuple" vs.toArray 0)).push (seqObj "list" #[] 0)}:=λt ht=>by
  split
  ·exact qC (wpAny_rule ht)
  ·exact ht
 refine step _ ?_
 have low:∀xs:Array Keyed,xs.toList.Perm (pairsOf vs).toList->(if b=true then (xs.map (·.2)).reverse else xs.map (·.2)).size<=sizeLine+1:=λxs p=>by
  have z:=p.length_eq;rw[eu,eu,pairsOf_size]at z;split
  ·rw[Array.size_reverse,Array.size_map];lia
  ·rw[Array.size_map];lia
 have fin:∀xs:Array Keyed,xs.toList.Perm (pairsOf vs).toList->P (.done (.ret .none)) {s with heap:=sortedHeap s.heap a vs (if b then (xs.map (·.2)).reverse else xs.map (·.2))}:=λxs p=>by
  have z:=p.map (·.2);rw[pairsOf_toList,List.map_snd_zip (cj _)]at z
  obtain⟨ns',h1,h2⟩:=OI (vs':=(if b then (xs.map (·.2)).reverse else xs.map (·.2)).toList) hI (by
   split
   ·rw[gN,Array.toList_map];exact (iK _).trans z
   ·rw[Array.toList_map];exact z)
  exact h _ ns' h1 h2
 by_cases h2:vs.toArray.size<2
 ·rw[qF h2,qF h2];refine qC (qD ?_);rw[StateT.run_pure];refine qC (qD (qC (seqEpoch_at hl rfl (qC (listUpdate_at hl rfl ?_ (hsz2:=low _ hstart))))));simp only[bne_self_eq_false,Bool.false_eq_true,if_false];exact qD (fin _ hstart)
 ·rw[qE h2,qE h2];obtain⟨v₁,v₂,rest,rfl⟩:∃v₁ v₂ rest,vs=v₁::v₂::rest:=by rw[dR]at h2;exact Pb (gi h2)
  rw[keyKind_ints hI];refine qC (qD ?_);obtain⟨a₀,ea⟩:∃a₀,a₀=(if b=true then ((v₁::v₂::rest).toArray.zip (v₁::v₂::rest).toArray).reverse else (v₁::v₂::rest).toArray.zip (v₁::v₂::rest).toArray):=⟨_,rfl⟩;rw[<-ea]at hstart⊢;refine qC (qM (Pa (k:=oneType') (a₀:=a₀) (st:=SortSt.mk' oneType' a₀ #[] 7 none) (Q:=λ_ t=>(arrOf t).toList.Perm 4#7/\failedOf t=none) (λx hx y hy=>?_) ⟨rfl,.refl _,rfl,rfl⟩ λt h1 h2=>⟨h1,h2⟩) ?_ λ_ _ e=>e)
  ·obtain⟨n,k,e⟩:=hI.intKeys x (hstart.mem_iff.mp hx);obtain⟨m,u,e2⟩:=hI.intKeys y (hstart.mem_iff.mp hy);refine⟨decide (n<m),λE Q q=>?_⟩;rw[keyLt'_oneType,e,e2];exact oneLt_int q
  rintro⟨⟨⟩,t⟩ s' ⟨rfl,hp,hf⟩;dsimp only;refine qC (seqEpoch_at hl rfl (qC (listUpdate_at hl rfl ?_ (hsz2:=low _ (hp.trans hstart)))));rw[hf];simp only[bne_self_eq_false,Bool.false_eq_true,if_false];exact qD (fin (arrOf t) (hp.trans hstart))
theorem OJ{w:qU}{P:qT}{kvs:List (BW×qQ)}{A:qW}{j5:Array qQ}(hA:kvs.map (·.1)=A.map Sum.inl)(h:ItemsOf (λi v=>∃k x,kvs[i]?=some (k,x)/\(A5 P w).is k v=true) j5 1#3):IntsAre j5.toList A:=by
 have ln:4#3=1#3:=by have z:=qP List.length hA;simpa using z.symm
 have vl:Av (A.map 1#0) j5.toList:=by refine Kv (by have z:=h.1;rw[2#8,ln];simp only[Array.length_toList];lia) λi x u e1 e2=>?_;obtain⟨k,x',hk,is⟩:=h.2 i u (by simpa using e2);rw[cn]at e1;obtain⟨a,ha,rfl⟩:=dq.mp e1;have z:=qP (λl=>l[i]?) hA;simp only[List.getElem?_map,hk,ha,Option.map_some]at z;rw[show k=Sum.inl a from Option.some.inj z]at is;exact V5 is
 exact GY vl
theorem Gb:∀{vs:List qQ} {ns:qW},IntsAre vs ns->Av 1#8 vs
 |_,_,.nil=>.nil
 |_,_,.cons n t h=>.cons ⟨t,rfl⟩ (Gb h)
theorem Q3{kvs:List (BW×qQ)}{A':qW}{b:Bool}(hh:16#0=none)(hm:(d==sysModules)=false)(hr:s.heap.DictAt (A5 prog w) d kvs ep)(hA:kvs.map (·.1)=A'.map Sum.inl)(hlen:1#3<=sizeLine)
  (h:∀(D:qR) (h':Heap) (tk:Nat) (out:Array qQ) (ns:qW) (e:Nat),0#1<=D->(∀b o,s.heap.get? b=some o->h'.get? b=some o)->h'.get? D=some (seqObj "list" out e)->IntsAre out.toList ns->ns.Perm A'->Q 2#1 {s with heap:=h',toks:=tk}):wpAny 0#3 A (call (.builtin "sorted") [.ref d] [(Str.ofString "reverse",.bool b)]) Q E s:=by
 refine call_function_entry_kw kind_sorted plain_sorted entry_sorted (args_sorted_rev _ _) ?_;unfold Builtin.«sorted»;refine qC (m:=checkCount "sorted" 1 1 _) (qD (qC (collect_dict (A:=A.in1) hh hm hr hlen λh' tk j5 sl kp hacc=>?_)));have hI:=OJ hA hacc;have zl:j5.toList.length<=sizeLine:=by rw[eu,hacc.1];exact hlen
 refine qC (wpAny_newList ?_);have gL:(h'.push (seqObj "list" j5.toList.toArray 0)).get? 11#8=some (seqObj "list" j5.toList.toArray 0):=c9 _ rfl;show wpAny _ _ _ _ _ {s with heap:=h'.push (seqObj "list" j5.toList.toArray 0),toks:=tk};refine qC (qO (wpAny_call_entry_kw slot_list_sort ⟨_,gL,rfl⟩ entry_list_sort (Q0 gL hI zl λout ns' a1 a2=>⟨_,rfl,?_⟩) (args_list_sort_rev _ _)));obtain⟨e,he⟩:=sortedHeap_at (out:=out) gL;refine qD ⟨_,rfl,h _ _ _ out ns' e ?_ (λc o z=>?_) he a1 a2⟩
 ·exact eU sl
 ·have lt:=cr (kp c o z);rw[sortedHeap_old (dS lt) (by rw[size_push'];exact fX lt)];exact cm _ (kp c o z)
end
section
variable{X:Cx}{tv:TE}{e v:Expr}{p kpos:Pos}
def XX(ta tk:TA):TE:=λσ H Q=>ta σ H λvs H1=>tk σ H1 λws H2=>∃(d:qR) (kvs:List (BW×V)) (A:qW) (b:Bool),vs=[.ref d]/\ws=[.bl b]/\Rd H2 d 5#1/\kvs.map (·.1)=A.map Sum.inl/\∀(l:qR) (zs:qW),H2 l=none->zs.Perm A->Q 16#8 (AZ H2 l (.lst (zs.map 1#0)))
theorem Td{tk:TA}(hc:19#9=true)(hg:Gl X "sorted")(hm:X.mg "sorted"=none)(ha:PA X [e] ta)(hk:PK X [⟨some "reverse",v,kpos⟩] tk)(hs:backTo pos (starEach [e] 1#2)=(false,eval e 1#2)::backTo pos (starEach [] 1#2):=by rfl)(hs2:(backTo pos (starEach [e] 1#2)).any (·.1)=false:=by rfl)(hall:(backToKw pos (keywordEach [⟨some "reverse",v,kpos⟩] 1#2)).all (·.1.isSome)=true:=by rfl)(hks:(backToKw pos (keywordEach [⟨some "reverse",v,kpos⟩] 1#2)).filterMap (·.1)=[Str.ofString "reverse"]:=by rfl)
  (hkw:(backToKw pos (keywordEach [⟨some "reverse",v,kpos⟩] 1#2)).any (·.1.isNone)=false:=by rfl):PE X (.Call (.Name "sorted" p) [e] [⟨some "reverse",v,kpos⟩] pos) (XX ta tk):=by
 intro ad s σ H Q I h;refine wpAny_Call_Name_kw (Cq I hg hm PyProof.Rows.boot_sorted ?_);refine callWith_kw (BM (ha pos ad s σ H _ I h) λus s1 z9=>?_) hs hs2 hall hkw;obtain⟨vs,H1,I1,r1,q1⟩:=z9;refine BM (hk pos ad s1 σ H1 _ I1 q1) λws s2 z9=>?_;obtain⟨zs,H2,I2,rz,q2⟩:=z9;rw[hks];obtain⟨d,kvs,A,b,rfl,rfl,hd,hA,q⟩:=q2;obtain⟨u,rfl,ru⟩:=Et r1;cases ru;obtain⟨u2,rfl,ru2⟩:=Et rz;cases ru2;obtain⟨z,hd,vs,rel,dd⟩:=Ha I2.hok hd;obtain⟨ep,da⟩:=dd.dictAt;have hl:=rel.length;refine Q3 (A':=A) 6#3 hd da ?_ (by lia) λD h' tk out ns e hD kp he hI hp=>?_
 ·rw[<-hA];apply List.ext_getElem?;intro i;rw[cn,cn];rcases e1:kvs[i]? with _|⟨k,v'⟩
  ·have:vs[i]?=none:=by rw[List.getElem?_eq_none_iff]at e1⊢;lia
   rw[this];rfl
  ·obtain⟨y,hy,ry⟩:=Bc rel e1;rw[hy,Option.map_some,Option.map_some,show k=y.1 from ry.1]
 ·have ln:=hI.length;refine⟨.ref D,_,I2.laid (t':=tk) kp hD (show Aq X.prog X.w _ h' _ (.lst 1#8) from⟨?_,14#3,e,?_,by rw[Array.toArray_toList];exact he⟩),rfl,q D ns (I2.hok.fresh hD) hp⟩
  ·have y:=qP List.length hA;rw[cU,cU]at y;rw[cU,hp.length_eq,<-y];exact z
  ·exact Gb hI
end
end L2
namespace L2
open PySem PySem.Spec PyProof.Rows RW
variable{G i m' mf:Nat}{H:Hp}{M:List (qX)}{S:qX->qX->Prop}{a:qR}{c row dl tab' tf y:qW}{f:qX->Nat}{g lf lo lo':Int}{p:qX}{α:Type}
theorem Q4(hg:2<=g){m:Nat}(hl:(0#0:Int)=g^m)(m1:1<=m):0#0=0#0/0#2*0#2:=by
 have z:0#0%0#2=0:=by
  have e:g^m=g^(m-1)*g:=by rw[<-dj];congr 1;lia
  have:((0#0%0#2:Nat):Int)=0:=by rw[d6,hl,e,dE (by lia)];exact Int.mul_emod_left ..
  lia
 have:=Nat.div_add_mod dl.length 0#2;rw[z,i4,gD]at this;exact this.symm
structure Pd(h:Nat)(S:qX->qX->Prop)(M:List (qX))(f:qX->Nat):Prop where
 nd:M.Nodup
 sub:∀p∈M,p∈BO h
 low:∀p∈M,∀q,S q p->q∈M/\f q<f p
 top:∀p∈M,f p=0\/∃q,S q p/\q∈M/\f p=f q+1
 rest:∀p∈BO h,p∉M->∃q,S q p/\q∈BO h/\q∉M
 few:∀p∈M,f p<=100
theorem FC{h:Nat}(h9:h<=9):(BO h).length<=100:=by have a:=GV h h;have b:=f6 h9 h9;unfold BO;rw[d5];lia
theorem PY.rk{h:Nat}(h9:h<=9){A:List (qX)}{B:qX->List (qX)}(hA:∀p,p∈A↔p∈BO h)(nA:17#3)(hB:∀p∈BO h,∀q,q∈B p↔S q p)(hS:∀p q,S q p->q∈BO h)(m:PY A B M f):Pd h S M f where
 nd:=m.nd
 sub:=λp hp=>(hA p).mp (m.sub p hp)
 low:=λp hp q hq=>m.low p hp q ((hB p ((hA p).mp (m.sub p hp)) q).mpr hq)
 top:=λp hp=>(m.top p hp).imp id λ⟨q,h1,h2,h3⟩=>⟨q,(hB p ((hA p).mp (m.sub p hp)) q).mp h1,h2,h3⟩
 rest:=λp hp np=>by obtain⟨q,h1,h2⟩:=m.rest p ((hA p).mpr hp) np;have z:=(hB p hp q).mp h1;exact⟨q,z,hS p q z,h2⟩
 few:=λp hp=>by
  have a:=m.few p hp;have b:=nA.length_le_of_subset λq hq=>(hA q).mp hq
  have:=FC h9;lia
theorem Pd.all{h:Nat}(m:Pd h S M f){rk:qX->Nat}(hr:∀p q,S p q->rk p<rk q):∀p∈BO h,p∈M:=by
 suffices ∀(n:Nat) (p:qX),p∈BO h->rk p<=n->p∈M from λp hp=>this _ p hp (cj _)
 intro n
 induction n with
 |zero =>
  intro p hp hn
  by_cases z:p∈M
  ·exact z
  ·obtain⟨q,hq,_⟩:=m.rest p hp z;have:=hr q p hq;lia
 |succ n ih =>
  intro p hp hn
  by_cases z:p∈M
  ·exact z
  ·obtain⟨q,hq,qa,nq⟩:=m.rest p hp z;have:=hr q p hq;exact qG (ih q qa (by lia)) nq
theorem IN{h:Nat}(hl:0#0=h*G){q:qX}:q∈Hs G h (El dl) p↔GB G h dl p q:=by
 unfold Hs GB;rw[dG];constructor
 ·intro hRq;rcases hRq with⟨⟨a,b⟩,hx,rfl⟩;obtain⟨h1,h2⟩:=db.mp hx;rcases JP.mp h1 with⟨ha,hb,ne,e⟩;exact⟨a,b,by lia,by lia,ne,e,(qN h2).symm,rfl⟩
 ·intro hRq;rcases hRq with⟨a,b,ha,hb,ne,e,h1,h2⟩;exact⟨(a,b),db.mpr ⟨JP.mpr ⟨by lia,by lia,ne,e⟩,qH h1.symm⟩,h2.symm⟩
theorem C3{h:Nat}(h0:0<h){q:qX}(s:GB G h dl p q):p∈BO h/\q∈BO h:=by
 rcases s with⟨a,b,ha,hb,ne,e,h1,h2⟩;have c:∀{x:Nat},x<h*G->x/G<h:=λ{x} hx=>gO (by rw[gD];exact hx)
 rw[h1,h2];exact⟨K4 (c ha) (c hb),K4 (fM _ h0) (fM _ h0)⟩
variable{q:Nat->qX}
theorem Pd.way{h:Nat}(m:Pd h S M f){k:Nat}(hk:q k∈M)(hq:∀i,i<k->S (q i) (q (i+1))):k<=f (q k):=by
 induction k with
 |zero=>exact dz _
 |succ k ih =>
  obtain⟨h1,h2⟩:=m.low _ hk _ (hq k (gt k));have:=ih h1 λi hi=>hq i (by lia)
  lia
theorem OK[DecidableEq α]{M A:List α}(nM:M.Nodup)(sub:∀p∈M,p∈A)(le:4#3<=14#6):∀p∈A,p∈M:=λp hp=>by
 by_cases z:p∈M
 ·exact z
 ·have:=(d7.mpr ⟨z,nM⟩).length_le_of_subset (l₂:=A) λx hx=>(dD.mp hx).elim (λe=>by rw[e];exact hp) (sub x)
  rw[d5]at this;lia
theorem G4(nd:M.Nodup)(hp:p∈M):Ba (Ar M (M.map λp=>V.int (f p:Int))) (Bf p)=some (.int (f p:Int)):=by obtain⟨i,hi⟩:=d4.mp hp;exact CD nd hi (by rw[cn,hi];rfl)
theorem Te{k:List BW}{v:V}(h:(Ar M (M.map λp=>V.int (f p:Int)))[i]?=some (k,v)):∃a,M[i]?=some a/\k=Bf a/\v=.int (f a:Int):=by
 unfold Ar at h;rw[i6,cn]at h;cases ha:M[i]? with
 |none=>rw[ha]at h;simp at h
 |some a =>
  rw[ha]at h;simp at h;exact⟨a,rfl,h.1.symm,h.2.symm⟩
theorem Tf{K:qV}{ns:qW}(h:Ai K H a 1#8):EQ K H 2#6 (.tuple 8#0):=.tup h (Ic ns)
inductive MZ(P:qT)(w:qU)(K:qV)(vs:List V)(H:Hp)(Q:VK)(z3_:XK):Prop
 |m (r:qR) (g lo:Int) (dl:qW) (m:Nat):vs=[.ref r]->AS H r g lo dl m->g^(m-1)<=9->(∀d H' M f,AG H H'->H d=none->DW P w K H' d (Ar M (M.map λp=>V.int (f p:Int)))->Pd (0#0/0#2) (GB g.toNat (0#0/0#2) dl) M f->Q 2#2 H')->MZ P w K vs H Q z3_
theorem G5(hg:2<=g){m:Nat}(hl:(0#0:Int)=g^m)(hm:1<=m){w:qW}(h:w∈Di g dl m row):Ak g dl m w=row/\(∀x∈w,0<=x/\x<g)/\4#4=3#9+m-1:=by rw[<-D6 hg hl hm]at h;obtain⟨n,_,rfl⟩:=dG.mp (show w∈(List.range (g^(3#9+m-1)).toNat).map λn:Nat=>Aw g (n:Int) (3#9+m-1) from (db.mp h).1);exact⟨qN (db.mp h).2,B4 hg _ _,BS ..⟩
noncomputable def XY(g:Int)(dl:qW)(m j3 j4 n:Nat):Int:=((Di g dl m (Aw g (n:Int) j4)).getD 0 []).getD j3 0
noncomputable def Q5(g:Int)(dl:qW)(m j3 j4:Nat):qW:=(List.range (g^j4).toNat).map (XY g dl m j3 j4)
structure Dj(g:Int)(dl:qW)(m j3 left:Nat):Prop where
 ex:∃rk:qX->Nat,JH g.toNat (0#0/0#2) dl rk/\∃R,∀p,rk p<R
 e:∀(q:Nat->qX) (k:Nat),q k=(0,0)->(∀i,i<k->GB g.toNat (0#0/0#2) dl (q i) (q (i+1)))->k<=j3
 l:∀(q:Nat->qX) (k:Nat),q 0=(0,0)->(∀i,i<k->GB g.toNat (0#0/0#2) dl (q i) (q (i+1)))->k<=left
section
variable(hg:2<=g){m:Nat}(hl:(dl.length:Int)=g^m)(m2:2<=m)(hb:∀n∈dl,0<=n/\n<g){j3 left:Nat}(B:Dj g dl m j3 left)
include hg hl m2 hb B
theorem Dj.sign{z:qW}(hy:∀n∈y,0<=n/\n<g)(hz:∀n∈z,0<=n/\n<g)(ly:y.length=j3+left+1)(lz:z.length=j3+left+1)(e:Ak g dl m y=Ak g dl m z):y.getD j3 0=z.getD j3 0:=by obtain⟨rk,hr,R,hR⟩:=B.ex;exact Qt hg hl m2 hb hr hR B.e B.l hy hz ly lz e
theorem Dj.many:m<=j3+left+1:=by
 by_cases c:m<=j3+left+1
 ·exact c
 ·have z:∀x:Int,Ak g dl m (List.replicate (j3+left+1) x)=[]:=λx=>GO (by rw[eW];lia)
  have b:∀x:Int,0<=x/\x<g->∀n∈List.replicate (j3+left+1) x,0<=n/\n<g:=λx hx n hn=>by rw[(List.mem_replicate.mp hn).2];exact hx
  have s:=Dj.sign hg hl m2 hb B (y:=List.replicate (j3+left+1) 0) (z:=List.replicate (j3+left+1) 1) (b 0 ⟨by decide,by lia⟩) (b 1 ⟨by decide,by lia⟩) (eW ..) (eW ..) (by rw[z,z]);rw[cV,iW,qF (by lia),cV,iW,qF (by lia)]at s;cases s
theorem Dj.first{j4:Nat}(hc:∀n∈c,0<=n/\n<g):∃w,(Di g dl m c)[0]?=some w:=by
 obtain⟨rk,hr,_⟩:=B.ex;have hG:(0#2:Int)=g:=by lia
 have hd:=Ao hg hl (show 1<=m by lia);have hp:=RW.Ad hg (m-1);have z:=Hf (G:=0#2) (by lia) (by rw[hG];exact hb) hr (by lia) (c:=c) (by rw[hG];exact hc);rw[<-FV (g:=g) dl m c]at z;exact⟨_,cX (by lia)⟩
theorem Dj.at{j4:Nat}(em:j3+left+2=m+j4){v:qW}(hv:∀n∈v,0<=n/\n<g)(lv:14#2=m+j4-1):XY g dl m j3 j4 (An g 16#3).toNat=v.getD j3 0:=by
 have cb:=FQ hg hb m v;have cl:=Ag g dl m v;have nb:=BR hg cb;obtain⟨w,hw⟩:=Dj.first (j4:=j4) hg hl m2 hb B cb;obtain⟨w1,w2,w3⟩:=G5 hg hl (by lia) (cw hw)
 have e:Aw g (((An g 16#3).toNat:Nat):Int) j4=Ak g dl m v:=by have z:=DP hg cb;rw[cl,lv,Nat.sub_add_cancel (show 1<=m+j4 by lia),fq]at z;rw[show (((An g 16#3).toNat:Nat):Int)=An g 16#3 by lia];exact z
 unfold XY;rw[e,cV (l:=Di g dl m 16#3),hw];show w.getD j3 0=v.getD j3 0;exact Dj.sign hg hl m2 hb B w2 hv (by rw[w3,cl,lv,Nat.sub_add_cancel (show 1<=m+j4 by lia),fq];clear w3 cl lv;lia) (by rw[lv];clear w3 cl lv;lia) w1
end
theorem K9(hg:2<=g)(dl:qW)(m j3 j4:Nat):((Q5 g dl m j3 j4).length:Int)=g^j4:=by unfold Q5;rw[cU,dL,dE (fD (RW.Ad hg j4))]
theorem OL(hg:2<=g){m:Nat}(hl:(0#0:Int)=g^m)(hm:1<=m)(j3 j4:Nat):∀n∈Q5 g dl m j3 j4,0<=n/\n<g:=λn hn=>by
 unfold Q5 at hn;obtain⟨k,_,rfl⟩:=dG.mp hn;unfold XY;cases e:(Di g dl m (Aw g (k:Int) j4))[0]? with
 |none =>
  rw[cV (l:=Di g dl m (Aw g (k:Int) j4)),e];show 0<=(0:Int)/\(0:Int)<g;lia
 |some w =>
  rw[cV (l:=Di g dl m (Aw g (k:Int) j4)),e];exact Bn hg (G5 hg hl hm (cw e)).2.1 _
theorem Ze{m:Nat}(h0:0<0#0/0#2){M':List (qX)}{f':qX->Nat}(r:Pd (0#0/0#2) (GB g.toNat (0#0/0#2) dl) M f)(all:∀p∈BO (0#0/0#2),p∈M)(r':Pd (0#0/0#2) (λa b=>GB g.toNat (0#0/0#2) dl b a) M' f'):(∀p∈BO (0#0/0#2),p∈M')/\Dj g dl m (f (0,0)) (f' (0,0)):=by
 have al:∀p∈BO (0#0/0#2),p∈M':=r'.all (rk:=λp=>101-f p) λp q s=>by obtain⟨a,b⟩:=C3 h0 s;have:=(r.low p (all p b) q s).2;have:=r.few p (all p b);lia
 have ev:(0,0)∈BO (0#0/0#2):=EC.mpr 4#6;refine⟨al,⟨⟨λp=>if p∈M then f p else 0,λp q s=>?_,101,λp=>?_⟩,λq k hk hq=>?_,λq k hk hq=>?_⟩⟩
 ·obtain⟨a,b⟩:=C3 h0 s;show (if p∈M then f p else 0)<(if q∈M then f q else 0);rw[qF (all p a),qF (all q b)];exact (r.low q (all q b) p s).2
 ·show (if p∈M then f p else 0)<101
  by_cases c:p∈M
  ·rw[qF c];have:=r.few p c;lia
  ·rw[qE c]
   decide
 ·have:=r.way (q:=q) (k:=k) (by rw[hk];exact all _ ev) hq;rw[hk]at this;exact this
 ·have:=r'.way (q:=λi=>q (k-i)) (k:=k) (by rw[fg,hk];exact al _ ev) λi hi=>by
   have z:=hq (k-(i+1)) (by lia);rw[show k-(i+1)+1=k-i by lia]at z;exact z
  rw[fg,hk]at this;exact this
theorem A4.congr(hg:2<=g){m:Nat}(hl:(0#0:Int)=g^m){lo0:Int}{tab0:qW}{m0:Nat}(hl0:(tab0.length:Int)=g^m0)(al:BL g lo dl m lo0 tab0 m0)(fw:A4 g lo0 tab0 m0 lf tf mf):A4 g lo dl m lf tf mf:=by
 rcases fw with⟨low0,M0,n0,rfl,z⟩;obtain⟨low,M,n⟩:=E4 g lo dl m;obtain⟨rfl,rfl,e⟩:=Hb hg hl hl0 al n n0;refine⟨_,_,n,rfl,?_⟩;rcases z with⟨rfl,rfl,rfl⟩|⟨h2,rfl,rfl⟩
 ·exact .inl ⟨rfl,rfl,by rw[e]⟩
 ·exact .inr ⟨h2,rfl,e.symm⟩
theorem A4.again(hg:2<=g){m:Nat}(hl:(0#0:Int)=g^m)(fw:A4 g lo dl m lf tf mf):A4 g lf tf mf lf tf mf:=by obtain⟨al,tfl⟩:=fw.alike hg hl;exact A4.congr hg tfl hl al fw
noncomputable def De(G:Nat):Nat->(qW->Int)->Int
 |0,f=>f []
 |l+1,f=>Al G λs=>De G l λc=>f ((s:Int)::c)
theorem JS:∀{l:Nat} {f h:qW->Int},(∀c,(∀n∈c,0<=n/\n<(G:Int))->f c=h c)->De G l f=De G l h
 |0,_,_,e=>e [] λn hn=>by cases hn
 |l+1,f,h,e=>Ay λs hs=>JS λc hc=>e _ λn hn=>by
  rcases dD.mp hn with z|z
  ·rw[z];lia
  ·exact hc n z
theorem F9(G:Nat)(p:Int):∀l:Nat,De G l (λ_=>p)=((G^l:Nat):Int)*p
 |0=>by show p=((1:Nat):Int)*p;lia
 |l+1=>by show Al G (λ_=>De G l λ_=>p)=_;rw[BC,F9 G p l,jJ,gD,eS,Int.mul_assoc]
theorem FZ(n:Nat):∀{l:Nat} {f:Nat->qW->Int},De G l (λc=>Al n λj=>f j c)=Al n λj=>De G l (f j)
 |0,_=>rfl
 |l+1,f=>by
  show Al G (λs=>De G l λc=>Al n λj=>f j ((s:Int)::c))=Al n λj=>Al G λs=>De G l λc=>f j ((s:Int)::c)
  rw[DQ n G];exact Ay λs _=>FZ n (f:=λj c=>f j ((s:Int)::c))
theorem Ma(b:Bool):∀{l:Nat} {f:qW->Int},De G l (λc=>EH b (f c))=EH b (De G l f):=λ{l f}=>by
 cases b
 ·show De G l (λ_=>(0:Int))=0;rw[F9,iz]
 ·rfl
theorem Mb(G2:2<=G)(hb:∀n∈dl,0<=n/\n<(G:Int))(w:qW):∀(l u:Nat),De G l (λc=>DF G dl (c++w) u)=(Al (G^l) λe=>DF G dl w ((u*G^l+e)%(0#0/G)))\/l=0
 |0,u=>.inr rfl
 |l+1,u=>.inl (by
  have step:De G (l+1) (λc=>DF G dl (c++w) u)=Al G λj=>De G l λc=>DF G dl (c++w) ((u*G+j)%(0#0/G)):=by
   show Al G (λs=>De G l λc=>Al G λj=>EH (decide (dl.getD (u*G+j) 0=(s:Int))) (DF G dl (c++w) ((u*G+j)%(0#0/G))))=_
   rw[Ay (g:=λs=>Al G λj=>EH (decide (dl.getD (u*G+j) 0=(s:Int))) (De G l λc=>DF G dl (c++w) ((u*G+j)%(0#0/G)))) λs _=>by rw[FZ];exact Ay λj _=>Ma _]
   rw[DQ];refine Ay λj _=>?_;have b:0<=dl.getD (u*G+j) 0/\dl.getD (u*G+j) 0<(G:Int):=Bn (by lia) hb _;exact KC b.1 b.2 _
  rw[step];have md:∀a b N:Nat,(a%N*b)%N=(a*b)%N:=λa b N=>by rw[Nat.mul_mod,Nat.mod_mod,<-Nat.mul_mod]
  have e2:∀j,j<G->De G l (λc=>DF G dl (c++w) ((u*G+j)%(0#0/G)))=Al (G^l) λe=>DF G dl w ((u*G^(l+1)+(j*G^l+e))%(0#0/G)):=λj _=>by
   rcases Mb G2 hb w l ((u*G+j)%(dl.length/G)) with z|z
   ·rw[z];refine Ay λe _=>?_
    congr 1
    rw[Nat.add_mod,md,<-Nat.add_mod,jI,Nat.mul_assoc,jJ,gD G (G^l),iI]
   ·subst z;show DF G dl ([]++w) _=Al 1 λe=>DF G dl w ((u*G^1+(j*1+e))%_)
    rw[Au,Bs,dO,Nat.pow_one,Nat.mul_one,i4];rfl
  rw[Ay e2,jJ,gD (G^l) G,<-QZ G (G^l) (λn=>DF G dl w ((u*(G*G^l)+n)%(0#0/G)))])
theorem VQ(G2:2<=G)(hb:∀n∈dl,0<=n/\n<(G:Int)){l:Nat}(hN:0#0/G=G^l)(w:qW)(u:Nat)(hu:u<0#0/G):De G l (λc=>DF G dl (c++w) u)=Bj G dl w:=by
 rcases Mb G2 hb w l u with z|z
 ·rw[z];unfold Bj;rw[<-hN];refine Ay λe he=>?_;rw[gD,Nat.mul_add_mod,Nat.mod_eq_of_lt he]
 ·subst z;have e:0#0/G=1:=hN;unfold Bj;rw[e,Au,Bs,dO];obtain rfl:u=0:=by lia
  rfl
theorem Pe(G2:2<=G)(hb:∀n∈dl,0<=n/\n<(G:Int)){l:Nat}(hN:0#0/G=G^l)(w:qW):∀(r:qW) (u:Nat),u<0#0/G->De G l (λc=>DF G dl (r++(c++w)) u)=DF G dl r u*Bj G dl w
 |[],u,hu=>by rw[show DF G dl [] u=1 from rfl,fj];exact VQ G2 hb hN w u hu
 |s::r,u,hu=>by
  show De G l (λc=>Al G λj=>EH (decide (dl.getD (u*G+j) 0=s)) (DF G dl (r++(c++w)) ((u*G+j)%(0#0/G))))=(Al G λj=>EH (decide (dl.getD (u*G+j) 0=s)) (DF G dl r ((u*G+j)%(0#0/G))))*Bj G dl w;rw[FZ,<-GN];refine Ay λj _=>?_;rw[Ma,Pe G2 hb hN w r _ (fM _ (by lia))];unfold EH;split
  ·rfl
  ·rw[gH]
theorem VR(G2:2<=G)(hb:∀n∈dl,0<=n/\n<(G:Int)){l:Nat}(hN:0#0/G=G^l)(r w:qW):De G l (λc=>Bj G dl (r++(c++w)))=Bj G dl r*Bj G dl w:=by show De G l (λc=>Al (0#0/G) λu=>DF G dl (r++(c++w)) u)=_;rw[FZ];show _=Al (0#0/G) (DF G dl r)*_;rw[<-GN];exact Ay λu hu=>Pe G2 hb hN w r u hu
theorem Q6{n:Nat}{f:Nat->Int}{M:Int}(h:∀k,k<n->M<=f k)(e:Al n f=M*(n:Int)):∀k,k<n->f k=M:=by
 induction n with
 |zero=>intro k hk;lia
 |succ n ih =>
  rw[Au]at e
  have a:(n:Int)*M<=Al n f:=by
   have z:=Dq (n:=n) (f:=λk=>f k+(-M)) λk hk=>by have:=h k (by lia);lia
   rw[Lr,BC,Int.mul_neg]at z;lia
  have b:=h n (by lia);have c:M*((n+1:Nat):Int)=(n:Int)*M+M:=by rw[fK,Int.mul_add,ej];lia
  have d:M*(n:Int)=(n:Int)*M:=ej ..;intro k hk
  by_cases z:k=n
  ·subst z;lia
  ·exact ih (λk hk=>h k (by omega)) (by omega) k (by omega)
abbrev Sg(G:Nat)(r:qW):Prop:=∀n∈r,0<=n/\n<(G:Int)
theorem Sg.snoc{r:qW}(h:Sg G r){s:Nat}(hs:s<G):Sg G (r++[(s:Int)]):=λn hn=>by
 rcases cZ.mp hn with z|z
 ·exact h n z
 ·rw[ce.mp z];lia
theorem JT:∀n:Nat,∀w,Sg G w->Bj G dl w<=(n:Int)->∃w,Sg G w/\∀r,Sg G r->Bj G dl w<=Bj G dl r
 |0,w,hw,h=>⟨w,hw,λr _=>iE h (ES G dl r)⟩
 |n+1,w,hw,h=>by
  by_cases z:∃r,Sg G r/\Bj G dl r<=(n:Int)
  ·obtain⟨r,hr,q⟩:=z;exact JT n r hr q
  ·refine⟨w,hw,λr hr=>?_⟩;rcases Int.lt_or_le (Bj G dl r) (Bj G dl w) with y|y
   ·exact qG ⟨r,hr,by lia⟩ z
   ·exact y
theorem Tg(G2:2<=G)(hb:∀n∈dl,0<=n/\n<(G:Int)){l:Nat}(hN:0#0/G=G^l)(on:∀r,Sg G r->1<=Bj G dl r):∀r,Sg G r->Bj G dl r=((0#0/G:Nat):Int):=by
 obtain⟨w,hw,lw⟩:=JT (G:=G) (dl:=dl) (Bj G dl []).toNat [] (λn hn=>by cases hn) (by have:=ES G dl [];lia)
 have ext:∀(r c:qW),Sg G r->Sg G c->Bj G dl r=Bj G dl w->Bj G dl (r++c)=Bj G dl w:=by
  intro r c
  induction c generalizing r with
  |nil=>intro _ _ e;rw[dU];exact e
  |cons s c ih =>
   intro hr hc e;have hs:=hc s dH;have z:=Q6 (λk hk=>by rw[e];exact lw _ (hr.snoc hk)) (ET G2 hb r) s.toNat (by lia);rw[show ((s.toNat:Nat):Int)=s by lia]at z
   have hr2:Sg G (r++[s]):=λn hn=>by
    rcases cZ.mp hn with y|y
    ·exact hr n y
    ·rw[ce.mp y];exact hs
   have y:=ih (r++[s]) hr2 (λn hn=>hc n (c8 _ hn)) (z.trans e);rw[de]at y;exact y
 have g1:=VR G2 hb hN w w;rw[JS (h:=λ_=>Bj G dl w) λc hc=>ext w (c++w) hw (λn hn=>(cZ.mp hn).elim (hc n) (hw n)) rfl,F9,<-hN]at g1;have p1:=on w hw;have e1:((0#0/G:Nat):Int)=Bj G dl w:=Int.eq_of_mul_eq_mul_right (by lia) g1
 have all:∀(c r:qW),Sg G r->Sg G c->Bj G dl r=((0#0/G:Nat):Int)->Bj G dl (r++c)=((0#0/G:Nat):Int):=λc r hr hc e=>by rw[e1]at e⊢;exact ext r c hr hc e
 intro r hr
 have e0:Bj G dl []=((0#0/G:Nat):Int):=by show Al (0#0/G) (λ_=>(1:Int))=_;rw[BC,ig]
 exact all r [] (λn hn=>by cases hn) hr e0
theorem LA(x:Int->Int){k m n:Nat}(h:k+m<=n):BG x (lo+(k:Int)) m=((BG x lo n).drop k).take m:=by rw[<-Sa x (lo:=lo+(k:Int)) (low:=lo) (M:=n) (by lia) (by lia),show lo+(k:Int)-lo=(k:Int) by lia,Im (by rw[Ap];exact h)]
theorem B6(hg:2<=g)(lo:Int){m:Nat}(hl:(0#0:Int)=g^m)(hm:1<=m):1<=Bj g.toNat dl row↔∃x,F3 g x/\∀k:Nat,k<3#9->Bo g (lo+(k:Int)) dl m x=row.getD k 0:=by
 constructor
 ·intro h;have ne:Di g dl m row≠[]:=λz=>by rw[<-FV dl m row,z]at h;simp at h
  obtain⟨w,hw⟩:=List.exists_mem_of_ne_nil _ ne;rw[<-D6 hg hl hm]at hw;obtain⟨h1,h2⟩:=db.mp hw;have h2:=qN h2;obtain⟨wl,wb⟩:=(Qk hg).mp h1;refine⟨CH w lo,Cu hg wb lo,λk hk=>?_⟩;have hl2:=qP List.length h2;rw[Ag]at hl2;rw[<-h2];unfold Ak;rw[AT (by lia)];unfold Bo Gp
  congr 3
  rw[LA (CH w lo) (show k+m<=4#4 by lia),C6]
 ·rintro⟨x,hx,h⟩
  have e:Ak g dl m (BG x lo (3#9+m-1))=row:=by
   have ll:(Ak g dl m (BG x lo (3#9+m-1))).length=3#9:=by rw[Ag,Ap];lia
   refine List.ext_getElem ll λk h1 h2=>?_;have z:=h k h2;rw[cV,cX h2,Option.getD_some]at z;rw[<-z]
   have e2:(Ak g dl m (BG x lo (3#9+m-1))).getD k 0=Bo g (lo+(k:Int)) dl m x:=by unfold Ak;rw[AT (by rw[Ap];lia)];unfold Bo Gp;rw[LA x (show k+m<=3#9+m-1 by lia)]
   rw[cV,cX h1,Option.getD_some]at e2;exact e2
  rw[<-e];exact Uy hg hl hm (C1 hx _ _)
theorem Hh(hg:2<=g){m:Nat}(hl:(0#0:Int)=g^m)(hm:1<=m)(hl':(11#6:Int)=g^m')(hm':1<=m')(al:BL g lo dl m lo' tab' m')(h:1<=Bj g.toNat dl row):1<=Bj g.toNat tab' row:=by
 obtain⟨x,hx,q⟩:=(B6 hg lo hl hm).mp h;refine (B6 hg lo' hl' hm').mpr ⟨x,hx,λk hk=>?_⟩;rw[<-q k hk];have z:=al (λz=>x (z+(k:Int))) λz=>hx _
 have e:∀(lo:Int) (dl:qW) (m:Nat),Bo g lo dl m (λz=>x (z+(k:Int)))=Bo g (lo+(k:Int)) dl m x:=λlo dl m=>by
  unfold Bo BG
  congr 4
  funext j
  show x (lo+(j:Int)+(k:Int))=x (lo+(k:Int)+(j:Int))
  congr 1
  lia
 rw[e,e]at z;exact z.symm
end L2
namespace L2
open PySem PySem.Spec PyProof.Rows
variable{D:Ho}{E:qQ->qS->Prop}{H H' H1 H2:Hp}{a:qR}{an od:Option qR}{j6 doc oc:qQ}{es:List Expr}{name qual:Str}{o:Obj}{osl:Array (Option qQ)}{params:Arguments}{pos:Pos}{ps:List Str}{s:qS}{scope:Scope}{sp:Sp}{vs:List qQ}{α β:Type}{σ:St}
def FD(mg:Str->Option qQ)(h:Heap):Prop:=∃bm ob,mg "__builtins__"=some (.ref bm)/\bm≠builtinsNs/\h.get? bm=some ob/\ob.cls=.type "module"/\ob.dict=some builtinsNs/\ob.data=.plain
def WF(ts:List qR)(H:Hp):Prop:=(∀b,H b=none\/(∃o xs,H b=some (.frz o 3#6))\/(b∈ts/\H b=some (.tbl #[])))/\∀b∈ts,H b=some (.tbl #[])
def Th(K:qV)(cts:List (qR×qR)):Prop:=∀q∈cts,PySem.W.codeHdIn K q.1 q.2=true/\K.lookup q.2=none
theorem Q7{P:qT}{w:qU}{K:qV}{mg mb:Str->Option qQ}{CX:RJ}{k:Nat}{fa:qR}{fd:FuncData}{x:Str}{sp:Sp}{s₁:qS}{ns:qW}{cts:List (qR×qR)}
  (KX:K.In s₁.heap) (hns:s₁.heap.Ns mainGlobals mg) (hb:s₁.heap.Ns builtinsNs mb) (hbb:∀x:Str,x≠"__name__"->mb x=bootBuiltins x) (hlim:s₁.heap.NoLimit) (hbm:FD mg s₁.heap) (hg:s₁.gens=#[])
  (hT:Th K cts) (hT2:∀q∈cts,s₁.heap.get? q.2=some (PySem.W.tabObj #[]))
  (ha:s₁.heap.get? a=some {cls:=.type "list",data:=.seq 4#5}) (hi:IntsAre vs ns) (hl:1#6<=sizeLine) (hr:CM k callerA)
  (F:∀base:Heap,K.In base->base.Ns mainGlobals mg->FD mg base->Fu P w K mg base CX k fa fd [x] sp) (hbind:∀(s:qS) (u:qQ),BindsTo s fd ⟨[u],[]⟩ [(x,u)])
  (hsp:∀H:Hp,WF (cts.map (·.2)) H->Aa K H a 1#8->sp [.ref a] H (λv _=>v=.bl true) λ_ _ _=>False)
  (hCX:∀H e s',CX [] H s₁ (λ_ _ _=>False) e s'->False):
  codeAny 8#7 callerA (.call 19#2 ⟨[.ref a],[]⟩) (λr s'=>r=.ok (.ret 10#6)/\OldK s₁.heap 9#9/\s'.os=s₁.os/\AllBare s'.gens) s₁:=by
 have rv:=J4 hi;have lenV:=hi.length
 have atT:∀b∈cts.map (·.2),s₁.heap.get? b=some (PySem.W.tabObj #[])/\K.lookup b=none/\isCodeTable s₁.heap b:=λb hb=>by obtain⟨q,hq,rfl⟩:=dG.mp hb;exact⟨hT2 q hq,(hT q hq).2,((PySem.W.codeHd_of_K KX (hT q hq).1).tab (hT2 q hq)).isCodeTable⟩
 have aT:a∉cts.map (·.2):=λz=>by have e:=(atT a z).1;rw[ha]at e;cases e
 have core:∀H:Hp,WF (cts.map (·.2)) H->Aa K H a 1#8->Dx P w H s₁.heap->(∀b,H b≠none->b=a\/b∈cts.map (·.2))->(H a≠none->K.lookup a=none) ->
   codeAny 8#7 callerA (.call 19#2 ⟨[.ref a],[]⟩) (λr s'=>r=.ok (.ret 10#6)/\OldK s₁.heap 9#9/\s'.os=s₁.os/\AllBare s'.gens) s₁:=by
  intro H hO hS hok hA hK;have base_of:∀{b:qR} {o:Obj},s₁.heap.get? b=some o->H b=none->(Fp s₁.heap H).get? b=some o:=λe n=>LO e n
  have noA:∀{b:qR} {o:Obj},s₁.heap.get? b=some o->(∀xs n,9#1≠.seq xs n)->(∀xs,9#1≠.fields xs)->H b=none:=λ{b o} e d d2=>by
   cases q:H b with
   |none=>rfl
   |some u =>
    rcases hA b (by rw[q];simp) with e'|e'
    ·subst e';rw[ha]at e;cases e;exact (d _ _ rfl).elim
    ·rw[(atT b e').1]at e;cases e;exact (d2 _ rfl).elim
  have nsK:∀{b:qR} {m:Str->Option qQ},s₁.heap.Ns b m->(Fp s₁.heap H).Ns b m:=λ{b m} ⟨o,es,ep,e,d,r⟩=>⟨o,es,ep,base_of e (noA e (λ_ _ z=>by rw[d]at z;cases z) (λ_ z=>by rw[d]at z;cases z)),d,r⟩
  have hKb:K.In 9#8:=λb o e=>base_of (KX b o e) (by
   cases q:H b with
   |none=>rfl
   |some u =>
    rcases hA b (by rw[q];simp) with e'|e'
    ·subst e';rw[hK (by rw[q];simp)]at e;cases e
    ·rw[(atT b e').2.1]at e;cases e)
  have hM:Y5 K mg 9#8:=⟨hKb,nsK hns,⟨mb,nsK hb,hbb⟩,by obtain⟨mc,h1,h2⟩:=hlim;exact⟨mc,nsK h1,h2⟩⟩
  have hB:FD mg 9#8:=by rcases hbm with⟨bm,ob,b1,b2,b3,b4,b5,b6⟩;exact⟨bm,ob,b1,b2,base_of b3 (noA b3 (λ_ _ z=>by rw[b6]at z;cases z) (λ_ z=>by rw[b6]at z;cases z)),b4,b5,b6⟩
  have e0:QN P w K mg 9#8 callerA [] s₁ H:=⟨rfl,hM,λb o e=>OW e,Nat.le_of_eq (Jw _ _),trivial,λb hb=>qG (show b∈([]:List qR) from hb) (by simp),hok,.of_eq hg⟩;refine codeAny_mono ((F _ hKb (nsK hns) hB).run callerA [] s₁ H ⟨[.ref a],[]⟩ [.ref a] [.ref a] _ _ hr e0 (hbind s₁ 2#6) (.cons rfl .nil) (hsp H hO hS)) λr s' h=>?_;cases r with
  |error e=>exact (hCX H e s' h).elim
  |ok fl =>
   cases fl with
   |next=>exact False.elim h
   |brk=>exact False.elim h
   |cont=>exact False.elim h
   |ret u =>
    rcases h with⟨v,H',os,bare,un,hok',r',q⟩;have q':v=.bl true:=q;subst q';obtain rfl:u=Value.bool true:=r'
    have keep:∀b o,s₁.heap.get? b=some o->b∉cts.map (·.2)->s'.heap.get? b=some o:=λb o e nb=>by
     cases q:H b with
     |none=>exact un.keep b o e q (by intro z;exact qG (show b∈([]:List qR) from z) (by simp)) (by simp)
     |some u =>
      rcases hO.1 b with z|⟨ob,xs,z⟩|⟨z,_⟩
      ·rw[q]at z;cases z
      ·have z2:=un.frzs b ob _ z;obtain⟨e1,_⟩:=hok b _ z;obtain⟨e2,_⟩:=hok' b _ z2;rw[e]at e1;cases e1;exact e2
      ·exact qG z nb
    have tabs:∀b∈cts.map (·.2),∃more,s'.heap.get? b=some {cls:=.none,data:=.fields ((#[]:Array qQ)++more)}:=λb hb=>by obtain⟨more,z⟩:=un.tbls b #[] (hO.2 b hb);exact⟨more,hok' b _ z⟩
    refine⟨rfl,⟨λb o e=>?_,λb o e=>?_⟩,os,bare⟩
    ·by_cases hb:b∈cts.map (·.2)
     ·obtain⟨more,z⟩:=tabs b hb;have e1:=(atT b hb).1;rw[e]at e1;cases e1;exact .inr (.inl ⟨(atT b hb).2.2,rfl,#[],more,rfl,z⟩)
     ·exact .inl (keep b o e hb)
    ·by_cases hb:b∈cts.map (·.2)
     ·obtain⟨more,z⟩:=tabs b hb;exact⟨_,z⟩
     ·exact⟨o,keep b o e hb⟩
 cases hk:K.lookup a with
 |some o =>
  have e:=KX a o hk;rw[ha]at e;cases e;refine core (λb=>if b∈cts.map (·.2) then some (.tbl #[]) else none) ⟨λb=>?_,λb hb=>qF hb⟩ (.inr ⟨_,4#5,_,hk,rfl,rfl,rfl,by rw[6#2,lenV];exact hl,by simpa using rv⟩) (λb u z=>?_) (λb z=>?_) λz=>qG (qE aT) z
  ·by_cases hb:b∈cts.map (·.2)
   ·exact .inr (.inr ⟨hb,qF hb⟩)
   ·exact .inl (qE hb)
  ·by_cases hb:b∈cts.map (·.2)
   ·have z':=(qF hb).symm.trans z;cases z';exact (atT b hb).1
   ·have z':=(qE hb).symm.trans z;cases z'
  ·by_cases hb:b∈cts.map (·.2)
   ·exact .inr hb
   ·exact qG (qE hb) z
 |none =>
  have at1:∀b,b∉cts.map (·.2)->b=a->(if b∈cts.map (·.2) then some (HO.tbl #[]) else if b=a then some (.frz {cls:=.type "list",data:=.seq 4#5} (.lst 1#8)) else none)=some (.frz {cls:=.type "list",data:=.seq 4#5} (.lst 1#8)):=λb h1 h2=>by rw[qE h1,qF h2]
  have at2:∀b,b∉cts.map (·.2)->b≠a->(if b∈cts.map (·.2) then some (HO.tbl #[]) else if b=a then some (.frz {cls:=.type "list",data:=.seq 4#5} (.lst 1#8)) else none)=none:=λb h1 h2=>by rw[qE h1,qE h2]
  refine core (λb=>if b∈cts.map (·.2) then some (.tbl #[]) else if b=a then some (.frz {cls:=.type "list",data:=.seq 4#5} (.lst 1#8)) else none) ⟨λb=>?_,λb hb=>qF hb⟩ (.inl (.inr ⟨{cls:=.type "list",data:=.seq 4#5},at1 a aT rfl⟩)) (λb u z=>?_) (λb z=>?_) λ_=>hk
  ·by_cases hb:b∈cts.map (·.2)
   ·exact .inr (.inr ⟨hb,qF hb⟩)
   ·by_cases hba:b=a
    ·exact .inr (.inl ⟨_,_,at1 b hb hba⟩)
    ·exact .inl (at2 b hb hba)
  ·by_cases hb:b∈cts.map (·.2)
   ·have z':=(qF hb).symm.trans z;cases z';exact (atT b hb).1
   ·by_cases hba:b=a
    ·have z':=(at1 b hb hba).symm.trans z;cases z';subst hba;exact⟨ha,by rw[cU];exact hl,vs,_,rv,ha⟩
    ·have z':=(at2 b hb hba).symm.trans z;cases z'
  ·by_cases hb:b∈cts.map (·.2)
   ·exact .inr hb
   ·by_cases hba:b=a
    ·exact .inl hba
    ·exact qG (at2 b hb hba) z
abbrev Cm:HO:=.ext λ_=>True
theorem JU{P:qT}{w:qU}{h:Heap}(e:h.get? a=some o):Aq P w H h a (.frz o Cm):=⟨e,trivial,⟨o,e⟩,λ_ _ _ _=>trivial⟩
def Ti(oc:Obj)(q:Str):Prop:=∃vs t,oc.data=.fields vs/\vs[1]?=some (.str q t)
def Bl(pos:Pos)(q:Str)(P:qR)(H:Hp):Prop:=∃ps:Array qQ,H P=some (.tbl ps)/\TriplesOk ps.toList /\
 ∀cv,codeAmong pos ps.toList=some cv->∃c' oc,cv=.ref c'/\H c'=some (.frz oc Cm)/\Ti oc q
theorem Bl.same{q:Str}{P:qR}(t:Bl pos q P H)(e:AG H H'):Bl pos q P H':=by obtain⟨ps,h1,h2,h3⟩:=t;refine⟨ps,e _ _ h1,h2,λcv hc=>?_⟩;obtain⟨c',oc,h4,h5,h6⟩:=h3 cv hc;exact⟨c',oc,h4,e _ _ h5,h6⟩
theorem Bl.start{q:Str}{P:qR}(h:H P=some (.tbl #[])):Bl pos q P H:=⟨#[],h,trivial,λ_ z=>by cases z⟩
def CI(P:qR)(H H':Hp):Prop:=∀b o,b≠P->H b=some o->H' b=some o
theorem AG.t{P:qR}(e:AG H H'):CI P H H':=λb o _ h=>e b o h
theorem CI.trans{P:qR}(a:CI P H H1)(b:CI P H1 H2):CI P H H2:=λc o n h=>b c o n (a c o n h)
abbrev VS(q:Str)(params:Arguments)(body:Expr)(scope:Scope)(clos:List (Str×qR))(pm:qQ)(c':qR)(ctv:qQ):Obj:=PySem.W.kla_obj "<lambda>" q params body scope clos pm c' ctv
def KQ(q:Str)(params:Arguments)(body:Expr)(scope:Scope)(clos:List (Str×qR))(f:qR)(H:Hp):Prop:=
 ∃pm c' ctv oc,H f=some (.frz (VS q params body scope clos pm c' ctv) Cm)/\H c'=some (.frz oc Cm)/\Ti oc q
theorem KQ.same{q:Str}{body:Expr}{clos:List (Str×qR)}{f:qR}(l:KQ q params body scope clos f H)(e:AG H H'):KQ q params body scope clos f H':=by rcases l with⟨pm,c',ctv,oc,h1,h2,h3⟩;exact⟨pm,c',ctv,oc,e _ _ h1,e _ _ h2,h3⟩
def bS(P:qR)(pos:Pos)(q:Str)(params:Arguments)(body:Expr)(scope:Scope)(clos:List (Str×qR)):TE:=λ_ H Q=>Bl pos q P H /\
 ∀f H',CI P H H'->Bl pos q P H'->H f=none->KQ q params body scope clos f H'->Q 5#7 H'
theorem XZ{X:Cx}{c P:qR}{body:Expr}{clos:List (Str×qR)}(hB:FD X.mg X.base)(hcode:X.env.code=.ref c)(hc:PySem.W.codeHdIn X.K c P=true)
  (hcl:closureFor scope 1#2=pure clos) (hdef:defaultsOf params 1#2=([],[])):PE X (.Lambda params body scope pos) (bS P pos (X.env.qual++"<lambda>") params body scope clos):=by
 intro ad s σ H Q I h;rcases h with⟨⟨ps,hP,ht,hh⟩,hq⟩;refine PySem.W.kla_eval hdef ?_;have hPh:s.heap.get? P=some (PySem.W.tabObj ps):=I.hok P _ hP;have hPl:P<0#1:=cr hPh;have C:PySem.W.CodeHd s.heap c P:=PySem.W.codeHd_of_K I.kIn hc;have hgs:s.heap.Ns mainGlobals X.mg:=I.ok.mod.glob.keeps I.bk;rcases hB with⟨bm,ob,b1,b2,b3,b4,b5,b6⟩;have b3':=I.bk _ _ b3
 have hgP:mainGlobals≠P:=λq=>by rcases hgs with⟨o,es,ep,e,hd,_⟩;rw[q,hPh]at e;cases e;cases hd
 have hbP:bm≠P:=λq=>by rw[q,hPh]at b3';cases b3';cases b4
 have hbG:bm≠mainGlobals:=λq=>by rcases hgs with⟨o,es,ep,e,hd,_⟩;rw[q,e]at b3';cases b3';rw[hd]at b6;cases b6
 have BA:s.heap.BuiltinsAt X.mg P:=⟨bm,ob,b1,b2,hbG,hbP,b3',b4,b5,b6⟩;have nP:∀b,H b=none->b≠P:=λb e z=>by rw[z,hP]at e;cases e
 have fresh:∀b,0#1<=b->H b=none:=λb hb=>I.hok.fresh hb
 cases hca:codeAmong pos ps.toList with
 |none =>
  refine PySem.W.kla_makeFunction (mg:=X.mg) hcl I.ok.glob hgs hcode C hPh ht hca hgP BA λc' ctv h' tk hx hge hlt hrec htb=>?_;rcases hrec with⟨c₂,oc,vs,t,e2,hoc,hd,hv⟩;cases e2;have hsz:0#1<=11#8:=dM hge (eU hlt);obtain⟨f,hf⟩:∃f,f=11#8:=⟨_,rfl⟩;obtain⟨fo,hfo⟩:∃fo,fo=VS (X.env.qual++"<lambda>") params body scope clos ((X.mg "__name__").getD .none) c' ctv:=⟨_,rfl⟩;obtain⟨H',hH'⟩:∃H',H'=AZ (AZ (AZ H P (.tbl (ps++#[rawInt pos.line,rawInt pos.col,.ref c']))) c' (.frz oc Cm)) f 15#6:=⟨_,rfl⟩;have cf:c'≠f:=λz=>by rw[z,hf]at hlt;exact qG hlt (dP _)
  have Pc:P≠c':=λz=>qG (cy hPl hge) (by rw[<-z];exact dP _)
  have Pf:P≠f:=λz=>qG (cy hPl hsz) (by rw[<-hf,<-z];exact dP _)
  have nf:H f=none:=fresh f (by rw[hf];exact hsz);have nc:H c'=none:=fresh c' hge;have oth:∀b,b≠P->b≠c'->b≠f->H' b=H b:=λb h1 h2 h3=>by rw[hH',AI h3,AI h2,AI h1]
  have atP:H' P=some (.tbl (ps++#[rawInt pos.line,rawInt pos.col,.ref c'])):=by rw[hH',AI Pf,AI Pc];exact AC
  have atc:H' c'=some (.frz oc Cm):=by rw[hH',AI cf];exact AC
  have atf:H' f=some 15#6:=by rw[hH'];exact AC
  have keep:∀b o,b≠P->s.heap.get? b=some o->(h'.push fo).get? b=some o:=λb o hb e=>cm _ (hx b o hb e)
  have trk:∀b u,H b=some u->b≠c'/\b≠f:=λb u e=>⟨λz=>(by rw[z,nc]at e;cases e),λz=>(by rw[z,nf]at e;cases e)⟩
  have sm:CI P H H':=λb o hb e=>by rw[oth b hb (trk b o e).1 (trk b o e).2];exact e
  have un:Un 21#5 [] H H' s.heap (h'.push fo):=by
   refine⟨λb o e n _ _=>keep b o (nP b n) e,λb o e n _ _=>⟨o.slots,keep b o (nP b n) e⟩,λb o e n _=>?_,λb o e _=>?_,λb xs e=>?_,λb o u e=>?_,λb qs e=>?_⟩
   ·have hl:=cr e;rw[oth b (nP b n) (λz=>qG (cy hl hge) (by rw[z];exact dP _)) (λz=>qG (cy hl hsz) (by rw[z,hf];exact dP _))];exact n
   ·by_cases hb:b=P
    ·rw[hb];exact⟨_,cm _ htb⟩
    ·exact⟨o,keep b o hb e⟩
   ·exact sm b _ (λz=>by rw[z,hP]at e;cases e) e
   ·exact sm b _ (λz=>by rw[z,hP]at e;cases e) e
   ·by_cases hb:b=P
    ·subst hb;rw[hP]at e;cases e;exact⟨_,atP⟩
    ·exact⟨#[],by rw[Array.append_empty];exact sm b _ hb e⟩
  have hok:Dx X.prog X.w H' (h'.push fo):=λb u e=>by
   by_cases hbf:b=f
   ·subst hbf;rw[atf]at e;cases e;exact JU (by rw[hf];exact c9 _ (by rw[hfo];rfl))
   ·by_cases hbc:b=c'
    ·subst hbc;rw[atc]at e;cases e;exact JU (cm _ hoc)
    ·by_cases hb:b=P
     ·subst hb;rw[atP]at e;cases e;exact cm _ htb
     ·rw[oth b hb hbc hbf]at e;refine (I.hok b u e).stay (λd o hd q=>keep d o ?_ q) (λd q=>?_) λd xs q=>?_
      ·rcases hd with z|z
       ·rw[z];exact hb
       ·intro y;rw[y,hP]at z;cases z
      ·exact sm d _ (λy=>by rw[y,hP]at q;cases q) q
      ·exact sm d _ (λy=>by rw[y,hP]at q;cases q) q
  have I':AY X ad σ H' {s with heap:=h'.push fo,toks:=tk}:=I.call (g':=s.gens) (d':=s.drawn) (ch:=[]) un hok I.bare (λb z=>qG z (by simp));refine⟨.ref f,H',?_,by rw[hf];rfl,hq f H' sm ⟨_,atP,?_,λcv hcv=>?_⟩ nf ⟨(X.mg "__name__").getD .none,c',ctv,oc,by rw[atf,hfo],atc,vs,t,hd,hv⟩⟩
  ·subst hfo;exact I'
  ·rw[eL];exact TriplesOk_snoc _ _ _ _ ht
  ·rw[eL]at hcv;have e:=codeAmong_snoc (c:=.ref c') ps.toList ht hca;have hcv':codeAmong pos (ps.toList++[rawInt pos.line,rawInt pos.col,.ref c'])=some cv:=hcv;rw[e]at hcv';cases hcv';exact⟨c',oc,rfl,atc,vs,t,hd,hv⟩
 |some cv =>
  rcases hh cv hca with⟨c',oc,rfl,hc',co⟩;refine PySem.W.kla_makeFunctionHit (mg:=X.mg) hcl I.ok.glob hgs hcode C hPh ht hca BA λctv h' tk hk hsz=>?_;obtain⟨f,hf⟩:∃f,f=11#8:=⟨_,rfl⟩;obtain⟨fo,hfo⟩:∃fo,fo=VS (X.env.qual++"<lambda>") params body scope clos ((X.mg "__name__").getD .none) c' ctv:=⟨_,rfl⟩;have nf:H f=none:=fresh f (by rw[hf];exact hsz);have keep:∀b o,s.heap.get? b=some o->(h'.push fo).get? b=some o:=λb o e=>cm _ (hk b o e)
  have sm:AG H (AZ H f 15#6):=AG.new nf _;have hok:Dx X.prog X.w (AZ H f 15#6) (h'.push fo):=I.hok.laid keep (by rw[hf];exact hsz) (JU (by rw[hf];exact c9 _ (by rw[hfo];rfl)))
  have un:Un 21#5 [] H (AZ H f 15#6) s.heap (h'.push fo):=by refine⟨λb o e n _ _=>keep b o e,λb o e n _ _=>⟨o.slots,keep b o e⟩,λb o e n _=>?_,λb o e _=>⟨o,keep b o e⟩,λb xs e=>sm _ _ e,λb o u e=>sm _ _ e,λb qs e=>⟨#[],by rw[Array.append_empty];exact sm _ _ e⟩⟩;rw[AI (λz=>qG (cy 9#7 hsz) (by rw[z,hf];exact dP _))];exact n
  have I':AY X ad σ (AZ H f 15#6) {s with heap:=h'.push fo,toks:=tk}:=I.call (g':=s.gens) (d':=s.drawn) (ch:=[]) un hok I.bare (λb z=>qG z (by simp));refine⟨.ref f,AZ H f 15#6,?_,by rw[hf];rfl,hq f _ sm.t (Bl.same ⟨ps,hP,ht,hh⟩ sm) nf ⟨(X.mg "__name__").getD .none,c',ctv,oc,by rw[AC,hfo],sm _ _ hc',co⟩⟩;subst hfo;exact I'
abbrev Bv(cl:List (Str×qR)):List qR:=cl.map (·.2)
noncomputable def Jf(cl:List (Str×qR))(H:Hp):Hp:=λb=>if b∈Bv cl then none else H b
noncomputable def Zf(cl:List (Str×qR))(H H':Hp):Hp:=λb=>if b∈Bv cl then H b else H' b
def DC(cl:List (Str×qR))(vs:List V)(H:Hp):Prop:=Paired (λ(p:Str×qR) (v:V)=>∃u o,Az v u/\9#1=.cell 18#7/\H p.2=some (.frz o Cm)) cl vs
theorem Bz{cl:List (Str×qR)}{b:qR}(h:b∉Bv cl):Jf cl H b=H b:=qE h
theorem JV{cl:List (Str×qR)}{b:qR}(h:b∈Bv cl):Jf cl H b=none:=qF h
theorem DL{cl:List (Str×qR)}{b:qR}(h:b∉Bv cl):Zf cl H H' b=H' b:=qE h
theorem OM{cl:List (Str×qR)}{b:qR}(h:b∈Bv cl):Zf cl H H' b=H b:=qF h
theorem Paired.left{F:α->β->Prop}{l₁:List α}{l₂:List β}(p:Paired F l₁ l₂):∀a∈l₁,∃b,F a b:=by
 induction p with
 |nil=>intro _ h;cases h
 |cons r _ ih =>
  intro a h;rcases dD.mp h with rfl|h
  ·exact⟨_,r⟩
  ·exact ih a h
theorem Paired.at{F:α->β->Prop}{l₁:List α}{l₂:List β}(p:Paired F l₁ l₂):∀{i:Nat} {b:β},l₂[i]?=some b->∃a,l₁[i]?=some a/\F a b:=by
 induction p with
 |nil=>intro _ _ h;cases h
 |cons r _ ih =>
  intro i b h;cases i with
  |zero=>cases h;exact⟨_,rfl,r⟩
  |succ i=>exact ih h
theorem Paired.lens{F:α->β->Prop}{l₁:List α}{l₂:List β}(p:Paired F l₁ l₂):l₁.length=l₂.length:=by
 induction p with
 |nil=>rfl
 |cons _ _ ih=>exact qP Nat.succ ih
section
variable{cl:List (Str×qR)}{vs:List V}
theorem DC.at(c:DC cl vs H){b:qR}(h:b∈Bv cl):∃u o,9#1=.cell 18#7/\H b=some (.frz o Cm):=by obtain⟨p,hp,rfl⟩:=dG.mp h;obtain⟨v,u,o,_,h1,h2⟩:=Paired.left c p hp;exact⟨u,o,h1,h2⟩
theorem DC.same(c:DC cl vs H)(e:AG H H'):DC cl vs H':=Paired.mapP c λ_ _ ⟨u,o,h1,h2,h3⟩=>⟨u,o,h1,h2,e _ _ h3⟩
theorem DC.out(c:DC cl vs H){b:qR}{u:HO}(h:H b=some u)(n:∀o,u≠.frz o Cm):b∉Bv cl:=λz=>by obtain⟨_,o,_,e⟩:=c.at z;rw[h]at e;exact n o (Option.some.inj e)
theorem Tj(h0:∀b∈Bv cl,H b=none)(e:AG H H'):AG H (Jf cl H'):=λb o q=>by rw[Bz (λz=>by rw[h0 b z]at q;cases q)];exact e b o q
theorem Df{b:qR}(h:H b=none):Jf cl H b=none:=by
 unfold Jf;split
 ·rfl
 ·exact h
theorem Tk(e:AG (Jf cl H) H'):AG H (Zf cl H H'):=λb o q=>by
 by_cases hb:b∈Bv cl
 ·rw[OM hb];exact q
 ·rw[DL hb];exact e b o (by rw[Bz hb];exact q)
theorem Dx.unC{P:qT}{w:qU}{h:Heap}(x:Dx P w H h)(n:∀b∈Bv cl,∀u,H b=some u->∃o,u=.frz o Cm):Dx P w (Jf cl H) h:=λb u e=>by
 have hb:b∉Bv cl:=λz=>by rw[JV z]at e;cases e
 rw[Bz hb]at e;refine (x b u e).stay (λ_ _ _ q=>q) (λc q=>?_) λc xs q=>?_
 ·rw[Bz (λz=>by obtain⟨o,y⟩:=n c z _ q;cases y)];exact q
 ·rw[Bz (λz=>by obtain⟨o,y⟩:=n c z _ q;cases y)];exact q
end
def Xa(P:qT)(w:qU)(K:qV)(mg:Str->Option qQ)(base:Heap)(k i:Nat)(t:TA):TE:=λσ H Q=>∃f fd ps sp oc od fd' sl,σ[i]?=some (some 5#7)/\Fu P w K mg base 12#1 k f fd ps sp/\HK K fd ps [] /\
 H f=some (.frz ⟨oc,od,.func fd',sl⟩ Cm)/\t σ H λvs H1=>H1 f=some (.frz ⟨oc,od,.func fd',sl⟩ Cm)/\sp vs H1 Q E0
theorem Tl{X:Cx}{k:Nat}{x:Str}{p pos:Pos}{e:Expr}{t:TA}(i:Nat)(hr:CM k X.A)(ha:PA X (e::es) t)(hN:X.N[i]?=some x:=by rfl)
  (hv:ak X.env.scope x:=by first|exact Or.inl rfl|exact Or.inr 3#8|exact Or.inr 10#5) (hdb:(x==("__debug__":Str))=false:=by decide) (hcd:(x==("__classdict__":Str))=false:=by decide)
  (he:starEach (e::es) 1#2=(false,eval e 1#2)::starEach es 1#2:=by rfl) (hpl:(backTo pos 4#2).any (·.1)=false:=by rfl):
  PE X (.Call 18#2 (e::es) [] pos) (Xa X.prog X.w X.K X.mg X.base k i t):=by
 intro ad s σ H Q I h;rcases h with⟨f,fd,ps,sp,oc,od,fd',sl,hi,F,hb,hf,h⟩
 have fin:wpAny 0#4 X.A (callWith pos 5#7 [] (backTo pos (starEach (e::es) 1#2)) []) 5#9 X.xe s:=by
  refine PySem.W.callWith_F ⟨oc,od,fd',sl,(I.hok f _ hf).1⟩ (BM (ha pos ad s σ H _ I h) λus s1 ⟨vs,H1,I1,r,hf1,q⟩=>⟨⟨oc,od,fd',sl,(I1.hok f _ hf1).1⟩,?_⟩) he hpl;have hl:6#1=3#0:=by rw[<-7#5];exact F.len _ _ _ _ q
  have bd:=hb s1 us I1.kIn (by rw[dU];exact hl);rw[dU]at bd;refine wpAny_call (codeAny_mono (F.run X.A X.stack s1 H1 ⟨us,[]⟩ us vs Q E0 hr I1.env0 bd r q) λrs s2 hq=>?_);rcases rs with er|fl
  ·exact Vx (P:=X.prog) (w:=X.w) ad σ H1 s1 er s2 I1 hq
  ·cases fl with
   |ret u=>exact I1.after hq
   |next=>exact False.elim hq
   |brk=>exact False.elim hq
   |cont=>exact False.elim hq
 obtain⟨m,hn,hl⟩:=I.loc;obtain⟨u,r,l⟩:=hl i x _ hN hi hv;obtain rfl:u=Value.ref f:=r;refine wpAny_Call_Name_kw ?_;rcases l with⟨hk,hm⟩|⟨hk,c,hc,hcell⟩
 ·exact wpAny_Name 18#3 hdb
 ·rcases hk with hk|hk
  ·exact wpAny_Name 17#0 hdb
  ·exact wpAny_Name 15#7 hdb
def At(σ:St)(is:List Nat)(vs:List V):Prop:=Paired (λ(i:Nat) (v:V)=>σ[i]?=some 11#0) is vs
def Xb(cl:List (Str×qR))(is:List Nat)(sp:Sp)(t:TA):TE:=λσ H Q=>∃Du,At σ is Du/\t σ H λvs H1=>∀H1',AG H1 H1'->(∀b∈Bv cl,H1 b=none)->DC cl Du H1'->(∀b,b∉Bv cl->H1' b=H1 b)->sp vs H1' (λv H2=>Q v (Jf cl H2)) E0
theorem Tn{X:Cx}{k:Nat}{f:qR}{x:Str}{p pos:Pos}{e:Expr}{t:TA}{cl:List (Str×qR)}{is:List Nat}(G:B2 X.prog X.w X.K X.mg X.base k f ps sp)(hr:CM k X.A)(hg:Gl X x)(hm:X.mg x=some 5#7)
  (ha:PA X (e::es) t) (hcl:Paired (λ(i:Nat) (q:Str×qR)=>X.N[i]?=some q.1/\X.env.kindOf q.1=some .cell/\X.env.cells.lookup q.1=some q.2/\X.fn q.1=true) is cl)
  (hdb:(x==("__debug__":Str))=false:=by decide) (he:starEach (e::es) 1#2=(false,eval e 1#2)::starEach es 1#2:=by rfl) (hpl:(backTo pos 4#2).any (·.1)=false:=by rfl):
  PE X (.Call 18#2 (e::es) [] pos) (Xb cl is sp t):=by
 rcases G with⟨⟨fd,F,hb⟩,kp⟩;intro ad s σ H Q I h;obtain⟨Du,hAt,h⟩:=h;refine wpAny_Call_Name_kw (GD I hg hm ?_ hdb);refine PySem.W.callWith_K (h₀:=X.base) I.ok.mod.kin kp (BM (ha pos ad s σ H _ I h) λus s1 ⟨vs,H1,I1,r,q⟩=>⟨I1.kIn,?_⟩) he hpl
 have each:∀{is:List Nat} {cl:List (Str×qR)} {Du:List V},Paired (λ(i:Nat) (q:Str×qR)=>X.N[i]?=some q.1/\X.env.kindOf q.1=some .cell/\X.env.cells.lookup q.1=some q.2/\X.fn q.1=true) is cl->At σ is Du ->
   Paired (λ(p:Str×qR) (v:V)=>∃u o,Az v u/\9#1=.cell 18#7/\s1.heap.get? p.2=some o/\3#3<=p.2/\H1 p.2=none/\2#3≠p.2) cl Du:=by
  intro is cl Du h1 h2
  induction h1 generalizing Du with
  |nil=>cases h2;exact .nil
  |cons a _ ih =>
   cases h2 with
   |cons b h2 =>
    refine .cons ?_ (ih h2);rcases a with⟨n1,n2,n3,n4⟩;obtain⟨m,hn,hl⟩:=I1.loc;obtain⟨u,ru,l⟩:=hl _ _ _ n1 b (.inr (.inl n2));rcases l with⟨hk,_⟩|⟨_,c,hc,o,ho,hd⟩
    ·rw[n2]at hk;cases hk
    ·rw[n3]at hc;cases hc;exact⟨u,o,ru,hd,ho,I1.ok.cab _ _ n4 n3,I1.freeC _ _ n3,(I1.cne _ _ n3).symm⟩
 have cells:=each hcl hAt
 have cin:∀b∈Bv cl,∃u o,9#1=.cell 18#7/\s1.heap.get? b=some o/\3#3<=b/\H1 b=none/\2#3≠b:=λb hb=>by obtain⟨p,hp,rfl⟩:=dG.mp hb;rcases Paired.left cells p hp with⟨v,u,o,_,h1,h2,h3,h4,h5⟩;exact⟨u,o,h1,h2,h3,h4,h5⟩
 obtain⟨H1',hH⟩:∃H1':Hp,H1'=λb=>if b∈Bv cl then (s1.heap.get? b).map (λo=>HO.frz o Cm) else H1 b:=⟨_,rfl⟩
 have hin:∀b∈Bv cl,∀o,s1.heap.get? b=some o->H1' b=some (.frz o Cm):=λb hb o e=>by rw[hH];show (if _ then _ else _)=_;rw[qF hb,e];rfl
 have hout:∀b,b∉Bv cl->H1' b=H1 b:=λb hb=>by rw[hH];exact qE hb
 have sm:AG H1 H1':=λb o q=>by rw[hout b (λz=>by obtain⟨_,_,_,_,_,n,_⟩:=cin b z;rw[n]at q;cases q)];exact q
 have ck:DC cl Du H1':=by
  have go:∀{cl':List (Str×qR)} {fv:List V},Paired (λ(p:Str×qR) (v:V)=>∃u o,Az v u/\9#1=.cell 18#7/\s1.heap.get? p.2=some o/\3#3<=p.2/\H1 p.2=none/\2#3≠p.2) cl' fv->(∀q∈cl',q.2∈Bv cl)->DC cl' fv H1':=by
   intro cl' fv h1 h2
   induction h1 with
   |nil=>exact .nil
   |cons a _ ih =>
    rcases a with⟨u,o,r1,r2,r3,_⟩;exact .cons ⟨u,o,r1,r2,hin _ (h2 _ dH) o r3⟩ (ih λq hq=>h2 q (c8 _ hq))
  exact go cells λq hq=>dG.mpr ⟨q,hq,rfl⟩
 have q1:=q H1' sm (λb hb=>by obtain⟨_,_,_,_,_,n,_⟩:=cin b hb;exact n) ck hout;have hl:6#1=3#0:=by rw[<-7#5];exact F.len _ _ _ _ q1
 have bd:=hb s1 us I1.kIn (by rw[dU];exact hl);rw[dU]at bd
 have stk:∀b∈Ei 6#4,b∉Bv cl:=λb hb z=>by
  rcases cin b z with⟨_,o,_,ho,hs,_,hL⟩;rcases dD.mp (I1.stkSub b hb) with y|y
  ·exact hL y.symm
  ·rcases I1.ok.funs.mem y with⟨_,o',ho',_⟩;exact qG (cy (cr ho') hs) (dP _)
 have hok1:Dx X.prog X.w H1' s1.heap:=λb u e=>by
  by_cases hb:b∈Bv cl
  ·rcases cin b hb with⟨_,o,_,ho,_⟩;rw[hin b hb o ho]at e;cases e;exact JU ho
  ·rw[hout b hb]at e;exact (I1.hok b u e).stay (λ_ _ _ q=>q) (λc q=>sm _ _ q) λc xs q=>sm _ _ q
 have e0:QN X.prog X.w X.K X.mg X.base X.A X.stack s1 H1':=by
  have e:=I1.env0;refine⟨e.frames,e.mod,λb o q=>⟨(e.bs b o q).1,?_⟩,e.bsz,e.funs,λb hb=>?_,hok1,e.bare⟩
  ·rw[hout b (λz=>by
    rcases cin b z with⟨_,_,_,_,hs,_⟩;exact qG (cy (cr q) (dM I1.ok.bsz hs)) (dP _))]
   exact (e.bs b o q).2
  ·rw[hout b (stk b hb)];exact e.frf b hb
 refine wpAny_call (codeAny_mono (F.run X.A X.stack s1 H1' ⟨us,[]⟩ us vs _ E0 hr e0 bd r q1) λrs s2 hq=>?_);rcases rs with er|fl
 ·rcases hq with⟨_,_,_,_,_,_,_,_,z⟩;exact z.elim
 ·cases fl with
  |next=>exact False.elim hq
  |brk=>exact False.elim hq
  |cont=>exact False.elim hq
  |ret u =>
   rcases hq with⟨v,H2,os,bare,un,hok,rv,q2⟩
   have fz:∀b∈Bv cl,∃o,s1.heap.get? b=some o/\H2 b=some (.frz o Cm)/\s2.heap.get? b=some o:=λb hb=>by rcases cin b hb with⟨_,o,_,ho,_⟩;have z:=un.frzs b o _ (hin b hb o ho);exact⟨o,ho,z,(hok b _ z).1⟩
   have nC:∀{b:qR} {o:HO},H1 b=some o->b∉Bv cl:=λ{b o} e z=>by rcases cin b z with⟨_,_,_,_,_,n,_⟩;rw[n]at e;cases e
   have un':Un 21#5 [] H1 (Jf cl H2) s1.heap s2.heap:=by
    refine⟨λb o e n h1 h2=>?_,λb o e n h1 h2=>?_,λb o e n h2=>?_,un.there,λb xs e=>?_,λb o u e=>?_,λb qs e=>?_⟩
    ·by_cases hb:b∈Bv cl
     ·rcases fz b hb with⟨o',e1,_,e2⟩;rw[e]at e1;cases e1;exact e2
     ·exact un.keep b o e (by rw[hout b hb];exact n) h1 h2
    ·exact un.slot b o e (by rw[hout b (stk b h1)];exact n) h1 h2
    ·by_cases hb:b∈Bv cl
     ·exact JV hb
     ·rw[Bz hb];exact un.free b o e (by rw[hout b hb];exact n) h2
    ·rw[Bz (nC e)];exact un.tups b xs (sm _ _ e)
    ·rw[Bz (nC e)];exact un.frzs b o u (sm _ _ e)
    ·rw[Bz (nC e)];exact un.tbls b qs (sm _ _ e)
   have hok':Dx X.prog X.w (Jf cl H2) s2.heap:=hok.unC λb hb u e=>by rcases fz b hb with⟨o,_,z,_⟩;rw[z]at e;cases e;exact⟨o,rfl⟩
   exact⟨v,Jf cl H2,I1.call' (ch:=[]) os un' hok' bare (λb z=>qG z (by simp)),rv,q2⟩
theorem Dw(cl:List (Str×qR)):∀(names:List (Str×NameKind)) (n:Nat) (j5:List (Str×qR)),cellsFrom n names (j5++cl)=cellsFrom n names j5++cl
 |[],_,_=>rfl
 | (name,kind)::r,n,j5=>by
  unfold cellsFrom;split
  ·exact Dw cl r (n+1) ((name,n)::j5)
  ·exact Dw cl r n j5
theorem Cy{x:Str}:∀{l r:List (Str×α)},(l++r).lookup x=(l.lookup x).or (r.lookup x)
 |[],r=>by simp
 | (k,v)::l,r=>by
  rw[iO,gq,gq];split
  ·rfl
  ·exact Cy
theorem JW{f g:α->PUnit->Sem (ForInStep PUnit)}:∀{l:List α},(∀x∈l,f x ⟨⟩=g x ⟨⟩)->forIn l (⟨⟩:PUnit) f=forIn l (⟨⟩:PUnit) g
 |[],_=>by rw[List.forIn_nil,List.forIn_nil]
 |x::r,h=>by
  rw[List.forIn_cons,List.forIn_cons,h x dH];refine bind_congr λy=>?_;cases y with
  |done b=>rfl
  |yield b=>exact JW λz hz=>h z (c8 _ hz)
theorem ON{e1 e2:Env}{x:Str}{v:qQ}(h1:e1.scope=e2.scope)(h2:e1.locals=e2.locals)(h3:e1.globals=e2.globals)(h4:e1.cells.lookup x=e2.cells.lookup x)(hk:e1.scope.kind=.function)(hx:e1.kindOf x=some .local\/e1.kindOf x=some .cell):storeName e1 x v=storeName e2 x v:=by
 have k2:e2.kindOf x=e1.kindOf x:=by unfold Env.kindOf;rw[h1]
 have c2:cellOf e1 x=cellOf e2 x:=by unfold cellOf;rw[h4]
 unfold storeName;rw[k2];have hk2:e2.scope.kind=.function:=by rw[<-h1];exact hk
 rcases hx with hx|hx<;>rw[hx]<;>simp[h1,h2,h3,c2,hk2]
theorem Jr{M:Model}{A:Around}{globals:qR}{binds:List (Str×qQ)}{func:Option qR}{code:qQ}{builtins:qR}{Q:Env->qS->Prop}{cl:List (Str×qR)}
  (hk:12#6=.function)
  (hkind:∀x∈binds,scope.names.lookup x.1=some .local\/(scope.names.lookup x.1=some .cell/\((cellsFrom (0#1+1) scope.names []).lookup x.1).isSome=true))
  (hout:∀x∈binds,∀c,(cellsFrom (0#1+1) scope.names []).lookup x.1=none->cl.lookup x.1≠some c)
  (hQ:∀s',InCallC s s.heap.objs.size (bindL (λx=>scope.names.lookup x) binds λ_=>none) (cellsFrom (0#1+1) scope.names []) (bindC (λx=>scope.names.lookup x) binds λ_=>none) s' ->
   Q (newEnv scope s.heap.objs.size globals (cellsFrom (0#1+1) scope.names []++cl) qual func code none builtins) s'):
  wpAny M A (newFunctionEnv scope globals cl binds qual func code none builtins) Q E s:=by
 simp only[newFunctionEnv,Option.isSome_none,Bool.false_eq_true,if_false];refine qC (wpAny_alloc ?_);refine qC (wpAny_layCells _ (λname kind cells=>by cases hkc:kind==NameKind.cell<;>simp[hkc]) _ _ _ _ ?_);have ok:=cellsFrom_ok scope.names (s.heap.push {cls:=.type "frame",data:=.dict #[]}) (0#1+1) [] ⟨λ_ _ hm=>(nomatch hm),List.Pairwise.nil⟩ (by rw[fL];exact cj _);rw[fL]at ok;rw[show ({s with heap:=s.heap.push {cls:=.type "frame",data:=.dict #[]}}:qS).heap.objs.size=0#1+1 from fL ..];have ca:=Dw cl scope.names (0#1+1) [];rw[jG]at ca;rw[ca]
 have env2:∀x∈binds,(cellsFrom (0#1+1) scope.names []++cl).lookup x.1=(cellsFrom (0#1+1) scope.names []).lookup x.1:=λx hx=>by
  rw[Cy];cases e:(cellsFrom (s.heap.objs.size+1) scope.names []).lookup x.1 with
  |some c=>rfl
  |none =>
   cases e2:cl.lookup x.1 with
   |none=>rfl
   |some c=>exact qG e2 (hout x hx c e)
 refine qC ?_
 rw[JW (g:=λ(x:Str×qQ) _=>(do storeName (newEnv scope s.heap.objs.size globals (cellsFrom (0#1+1) scope.names []) qual func code none builtins) x.1 x.2;pure (.yield ⟨⟩):Sem (ForInStep PUnit))) (λx hx=>by
  exact qP (λz:Sem Unit=>(do z;pure (ForInStep.yield PUnit.unit):Sem (ForInStep PUnit))) (ON (e1:=newEnv scope s.heap.objs.size globals (cellsFrom (0#1+1) scope.names []++cl) qual func code none builtins) (e2:=newEnv scope s.heap.objs.size globals (cellsFrom (0#1+1) scope.names []) qual func code none builtins) rfl rfl rfl (env2 x hx) hk (by
   rcases hkind x hx with z|z
   ·exact .inl z
   ·exact .inr z.1)))]
 exact wpAny_bindParams (s₀:=s) (env:=newEnv scope s.heap.objs.size globals (cellsFrom (0#1+1) scope.names []) qual func code none builtins)
  _ (λ_ _ _=>rfl) hk binds (λ_=>none) (λ_=>none) _ _
  ⟨⟨⟨_,_,rfl⟩,(Heap.Ns.new s.heap (.type "frame")).keeps (pushCells_keeps _ _),λb o e=>pushCells_keeps _ _ b o (cm _ e),cj _⟩,
   λn c hc=>(ok.empty n c (mem_of_lookup hc)).1,ok.apart,λn c hm=>(ok.empty n c hm).2⟩
  hkind λs' x=>qD (hQ s' x)
structure Mc(ps fns:List Str)(sc:Scope):Prop where
 kind:sc.kind=.function
 co:sc.isCoroutine=false
 gen:sc.isGenerator=false
 nd:(ps++fns).Nodup
 par:∀x∈ps,sc.names.lookup x=some .local\/sc.names.lookup x=some .cell
 fre:∀x∈fns,sc.names.lookup x=some .free
 all:∀y∈sc.names,y.2=.free->y.1∈fns
 own:∀y∈sc.names,y.2=.cell->y.1∉fns
noncomputable def ay(P:qT)(w:qU)(K:qV)(mg:Str->Option qQ)(base:Heap)(N:List Str)(qual:Str)(scope:Scope)(f:qR)(cd:qQ)(cl:List (Str×qR))(A:Around)(outer:List Env)(s:qS)(H:Hp):Cx where
 prog:=P
 w:=w
 K:=K
 mg:=mg
 base:=base
 A:=A.deeper (PySem.W.envX qual scope s.heap.objs.size f cd (cellsFrom (0#1+1) scope.names []++cl))
 N:=N
 s₀:=s
 H₀:=Jf cl H
 env:=PySem.W.envX qual scope s.heap.objs.size f cd (cellsFrom (0#1+1) scope.names []++cl)
 outer:=outer
 stack:=PySem.W.envX qual scope s.heap.objs.size f cd (cellsFrom (0#1+1) scope.names []++cl)::outer
 ex:=[]
 calm:=true
 fn:=λx=>((cellsFrom (0#1+1) scope.names []).lookup x).isSome
 pn:=[]
 xe:=λ_ _=>False
theorem G6{x:Str}{c:qR}:∀{names:List (Str×NameKind)} {n:Nat} {j5:List (Str×qR)},(cellsFrom n names j5).lookup x=some c->(∃k,(x,k)∈names/\k=.cell)\/j5.lookup x=some c
 |[],_,_,h=>.inr h
 | (name,kind)::r,n,j5,h=>by
  unfold cellsFrom at h
  split at h
  ·rename_i hk
   rcases G6 h with⟨k,h1,h2⟩|h
   ·exact .inl ⟨k,c8 _ h1,h2⟩
   ·rw[gq]at h
    split at h
    ·rename_i hx
     exact .inl ⟨kind,by rw[beq_iff_eq.mp hx];exact dH,beq_iff_eq.mp hk⟩
    ·exact .inr h
  ·rcases G6 h with⟨k,h1,h2⟩|h
   ·exact .inl ⟨k,c8 _ h1,h2⟩
   ·exact .inr h
theorem DD{x:Str}{c:α}:∀{l:List (Str×α)},(l.map (·.1)).Nodup->(x,c)∈l->l.lookup x=some c
 |[],_,h=>by cases h
 | (k,v)::r,nd,h=>by
  rw[gq];rcases dD.mp h with e|h
  ·cases e;simp
  ·have:x≠k:=λz=>(d7.mp nd).1 (by rw[<-z];exact dG.mpr ⟨(x,c),h,rfl⟩)
   rw[beq_eq_false_iff_ne.mpr this];exact DD (d7.mp nd).2 h
theorem Xc{P:qT}{w:qU}{K:qV}{mg:Str->Option qQ}{base:Heap}{k:Nat}{f c':qR}{q:Str}{body:Expr}{pm ctv:qQ}{fns:List Str}{cl:List (Str×qR)}
  (S:Mc ps fns scope) (hcl:cl.map (·.1)=fns) (hnd:(Bv cl).Nodup) (len:∀vs H Q E,sp vs H Q E->3#2=3#0)
  (hbody:∀(A:Around) (outer:List Env) (s:qS) (H:Hp) (vs:List V) (Q:VK) (E:XK),CM k (A.deeper (PySem.W.envX q scope s.heap.objs.size f (.ref c') (cellsFrom (0#1+1) scope.names []++cl)))->sp vs H Q E ->
   ∃Du oc,H f=some (.frz (VS q params body scope cl pm c' ctv) Cm)/\H c'=some (.frz oc Cm)/\Ti oc q/\DC cl Du H /\
   ∃t,PE (ay P w K mg base (ps++fns) q scope f (.ref c') cl A outer s H) body t/\t ((vs++Du).map some) (Jf cl H) (λv H'=>(∀b∈Bv cl,H' b=none)->Q v (Zf cl H H'))):
  Fu P w K mg base 12#1 (k+1) f (PySem.W.kla_fn "<lambda>" q params body scope cl pm (.ref c') ctv) ps sp:=by
 refine⟨len,λA outer s H args us vs Q E hr e0 hb r hsp=>?_⟩;have hl:=len _ _ _ _ hsp;have KX:K.In 20#3:=e0.mod.kin.keeps λb o e=>(e0.bs b o e).1
 have lim:s.heap.NoLimit:=e0.mod.nolimit.keeps λb o e=>(e0.bs b o e).1
 rcases hbody A outer s H vs Q E (hr.deeper _) hsp with⟨Du,oc,hf,hc',⟨cvs,ctk,hcd,hcv⟩,hck,t,ht,hq⟩
 have hkind:∀y∈ps.zip us,scope.names.lookup y.1=some .local\/(scope.names.lookup y.1=some .cell/\((cellsFrom (0#1+1) scope.names []).lookup y.1).isSome=true):=λ⟨n,v⟩ hy=>by
  rcases S.par n (iV hy).1 with q|q
  ·exact .inl q
  ·exact .inr ⟨q,ic _ _ _ (.inl q)⟩
 have clin:∀{x:Str} {c:qR},cl.lookup x=some c->x∈fns/\c∈Bv cl:=λ{x c} e=>by have m:=eK e;exact⟨by rw[<-hcl];exact dG.mpr ⟨_,m,rfl⟩,dG.mpr ⟨_,m,rfl⟩⟩
 have ndf:fns.Nodup:=(eP.mp S.nd).2.1;have ndp:ps.Nodup:=(eP.mp S.nd).1;have apart:∀x∈ps,x∉fns:=λx h1 h2=>(eP.mp S.nd).2.2 x h1 x h2 rfl
 have old:∀b∈Bv cl,∃u o,9#1=.cell 18#7/\H b=some (.frz o Cm)/\s.heap.get? b=some o:=λb hb=>by rcases hck.at hb with⟨u,o,h1,h2⟩;exact⟨u,o,h1,h2,(e0.hok b _ h2).1⟩
 refine PySem.W.kla_callFunE hr.depth (e0.hok f _ hf).1 rfl S.co S.gen rfl ⟨c',oc,cvs,ctk,rfl,(e0.hok c' _ hc').1,hcd,hcv⟩ (hb _ _ _ _ ?_);refine Jr S.kind hkind (λy hy c _ z=>apart y.1 (iV (a:=y.1) (b:=y.2) hy).1 (clin z).1) λs1 x=>?_;refine⟨lim.keeps x.toInCall.keep,PySem.W.kla_codeExpr ?_⟩;rcases x.done with⟨h1,tk,rfl,hk⟩;obtain⟨own,hown⟩:∃own,own=cellsFrom (0#1+1) scope.names []:=⟨_,rfl⟩
 have ownk:∀{y:Str} {c:qR},own.lookup y=some c->∃k,(y,k)∈9#2/\k=.cell:=λ{y c} h=>by
  rw[hown]at h;rcases G6 h with z|z
  ·exact z
  ·cases z
 have noA:∀b:qR,b∉(ay P w K mg base (ps++fns) q scope f (.ref c') cl A outer s H).ex:=λb z=>qG (show b∈([]:List qR) from z) (by simp)
 have lk:∀{y:Str} {c:qR},(own++cl).lookup y=some c->(own.lookup y=some c)\/(own.lookup y=none/\cl.lookup y=some c):=λ{y c} h=>by
  rw[Cy]at h;cases e:own.lookup y with
  |some d=>rw[e]at h;left;exact h
  |none=>rw[e]at h;right;exact⟨rfl,h⟩
 have above:∀{y:Str} {c:qR},own.lookup y=some c->0#1<c:=λ{y c} h=>x.above y c (by rw[hown]at h;exact eK h)
 have ltc:∀b∈Bv cl,b<0#1:=λb hb=>by rcases old b hb with⟨_,_,_,_,e⟩;exact cr e
 have I:AY (ay P w K mg base (ps++fns) q scope f (.ref c') cl A outer s H) [] ((vs++Du).map some) (Jf cl H) {s with heap:=h1,toks:=tk}:=by
  refine⟨⟨e0.mod,S.kind,rfl,rfl,cj _,λy z c h1 h2=>?_,λy hy=>?_,λy c h h2=>?_,λ_=>hr.hd,Around.frames_deeper e0.frames,.inr ⟨rfl,rfl⟩,λb z=>qG z (noA b),λb o e=>⟨(e0.bs b o e).1,Df (e0.bs b o e).2⟩,e0.bsz,λb _ _=>noA b,λb z=>qG z (noA b),e0.funs,λb hb=>Df (e0.frf b hb)⟩,
   rfl,e0.bare,Un.kept hk,⟨_,x.toInCall.ns,λi y v h1 h2 h3=>?_⟩,λy c h=>?_,Df (e0.hok.fresh (Nat.le_refl _)),λy c h=>?_,λp hp=>qG (show p∈([]:List (qR×Obj)) from hp) (by simp),?_,?_⟩
  ·have h1:(own++cl).lookup y=some c:=by rw[hown];exact h1
   have h2:(own++cl).lookup z=some c:=by rw[hown];exact h2
   rcases lk h1 with a|⟨_,a⟩<;>rcases lk h2 with b|⟨_,b⟩
   ·rw[hown]at a b;exact name_of_addr x.apart (eK a) (eK b)
   ·exact qG (Nat.lt_trans (above a) (ltc c (clin b).2)) (dP _)
   ·exact qG (Nat.lt_trans (above b) (ltc c (clin a).2)) (dP _)
   ·refine name_of_addr ?_ (eK a) (eK b);have z:=hnd;unfold Bv List.Nodup at z;rw[List.pairwise_map]at z;exact z
  ·have hy:scope.names.lookup y=some .cell\/scope.names.lookup y=some .free:=hy;show ∃c,(cellsFrom (0#1+1) scope.names []++cl).lookup y=some c;rw[Cy];rcases hy with hy|hy
   ·obtain⟨c,e⟩:=GF (n:=0#1+1) hy;rw[e];exact⟨c,rfl⟩
   ·cases e:(cellsFrom (s.heap.objs.size+1) scope.names []).lookup y with
    |some c=>exact⟨c,rfl⟩
    |none =>
     have m:=S.all _ (eK hy) rfl;rw[<-hcl]at m;obtain⟨p,hp,rfl⟩:=dG.mp m;exact⟨p.2,by rw[Option.none_or];exact DD (by rw[hcl];exact ndf) hp⟩
  ·have h:((cellsFrom (0#1+1) scope.names []).lookup y).isSome=true:=h;have h2:(own++cl).lookup y=some c:=by rw[hown];exact h2
   rcases lk h2 with a|⟨a,_⟩
   ·exact eU (above a)
   ·rw[hown]at a;rw[a]at h;cases h
  ·have h1:(ps++fns)[i]?=some y:=h1;rw[cn]at h2;cases e:(vs++Du)[i]? with
   |none=>rw[e]at h2;cases h2
   |some v' =>
    rw[e]at h2;cases h2
    by_cases hi:i<vs.length
    ·rw[df hi]at e;rw[df (by lia)]at h1;obtain⟨u,hu,rv⟩:=r.get e;refine⟨u,rv,?_⟩;rcases S.par y (cw h1) with k|k
     ·exact .inl ⟨k,Gi ndp h1 hu k⟩
     ·obtain⟨c,e⟩:=GF (n:=0#1+1) k;refine .inr ⟨.inl k,c,?_,?_⟩
      ·show (cellsFrom (0#1+1) scope.names []++cl).lookup y=some c;rw[Cy,e];rfl
      ·have q:=x.cell y c e;rw[Gj ndp h1 hu (by show scope.names.lookup y≠_;rw[k];decide)]at q;exact q
    ·rw[dC (by lia)]at e;rw[dC (by lia)]at h1;rcases Paired.at hck e with⟨p,hp,u,o,rv,hd,hH⟩;have hp1:p.1=y:=by rw[<-hcl,cn,<-hl,hp]at h1;exact Option.some.inj h1
     have hy:=S.fre y (cw h1);refine⟨u,rv,.inr ⟨.inr hy,p.2,?_,o,hk _ _ (e0.hok _ _ hH).1,hd⟩⟩;show (cellsFrom (0#1+1) scope.names []++cl).lookup y=some p.2;rw[Cy];cases ee:(cellsFrom (s.heap.objs.size+1) scope.names []).lookup y with
     |none=>rw[Option.none_or];exact DD (by rw[hcl];exact ndf) (by rw[<-hp1];exact cw hp)
     |some c =>
      obtain⟨kk,m1,m2⟩:=ownk (y:=y) (c:=c) (by rw[hown];exact ee);exact qG (cw h1) (S.own _ m1 m2)
  ·have h:(own++cl).lookup y=some c:=by rw[hown];exact h
   rcases lk h with a|⟨_,a⟩
   ·rw[hown]at a;exact⟨_,x.cell y c a⟩
   ·rcases old c (clin a).2 with⟨u,o,hd,_,ho⟩;exact⟨some u,o,hk _ _ ho,hd⟩
  ·have h:(own++cl).lookup y=some c:=by rw[hown];exact h
   rcases lk h with a|⟨_,a⟩
   ·exact Df (e0.hok.fresh (eU (above a)))
   ·exact JV (clin a).2
  ·refine Dx.unC (e0.hok.kept hk) λb hb u e=>?_;rcases old b hb with⟨_,o,_,h2,_⟩;rw[h2]at e;cases e;exact⟨o,rfl⟩
  ·show ((vs++Du).map some).length=(ps++fns).length;rw[cU,cg,cg,hl,<-hcl,cU,Paired.lens hck]
 refine qM (ht [] _ _ _ _ I hq) (λu s' hs=>?_) λe s' hs=>hs.elim
 rcases hs with⟨v,H',J,rv,qq⟩
 have frn:∀b∈Ei outer,b∉Bv cl:=λb hb z=>by rcases old b z with⟨_,_,_,h2,_⟩;rw[e0.frf b hb]at h2;cases h2
 have nC:∀{b:qR} {u:HO},H b=some u->(∀o,u≠.frz o Cm)->b∉Bv cl:=λh n=>hck.out h n
 have cz:∀b∈Bv cl,H' b=none:=λb hb=>by rcases old b hb with⟨_,o,_,_,ho⟩;exact J.base.free b o ho (JV hb) (noA b)
 refine⟨v,Zf cl H H',J.os,J.bare,⟨λb o e n h1 h2=>J.base.keep b o e (Df n) h1 h2,λb o e n h1 h2=>J.base.slot b o e (Df n) h1 h2,λb o e n h2=>?_,J.base.there,λb xs e=>?_,λb o u e=>?_,λb qs e=>?_⟩,λb u e=>?_,rv,qq cz⟩
 ·have hb:b∉Bv cl:=λz=>by
   rcases old b z with⟨_,_,_,h2,_⟩;rw[n]at h2;cases h2
  rw[DL hb];exact J.base.free b o e (Df n) h2
 ·have hb:=nC e (by intro o z;cases z);rw[DL hb];exact J.base.tups b xs (by show Jf cl H b=_;rw[Bz hb];exact e)
 ·by_cases hb:b∈Bv cl
  ·rw[OM hb];exact e
  ·rw[DL hb];exact J.base.frzs b o u (by show Jf cl H b=_;rw[Bz hb];exact e)
 ·have hb:=nC e (by intro o z;cases z);rw[DL hb];exact J.base.tbls b qs (by show Jf cl H b=_;rw[Bz hb];exact e)
 ·by_cases hb:b∈Bv cl
  ·rw[OM hb]at e;rcases old b hb with⟨_,o,_,h2,ho⟩;rw[h2]at e;cases e;refine JU (J.base.keep b o ho (JV hb) (λz=>frn b z hb) (noA b))
  ·rw[DL hb]at e;refine (J.hok b u e).stay (λ_ _ _ q=>q) (λc q=>?_) λc xs q=>?_
   ·rw[DL (λz=>by rw[cz c z]at q;cases q)];exact q
   ·rw[DL (λz=>by rw[cz c z]at q;cases q)];exact q
structure Xd(K:qV)(x qual:Str)(st:Stmt)(f c Pt:qR)(fd:FuncData):Prop where
 ex:∃(oc:qQ) (od:Option qR) (kV doc pm:qQ) (an:Option qR) (ct:qQ) (osl:Array (Option qQ)),
  fd=PySem.W.fnOf x qual (Dm st) 17#8 6#6 .none kV doc pm an (.ref c) ct/\K.lookup f=some ⟨oc,od,.func fd,osl⟩/\PySem.W.codeIn K (.ref c) qual=true
 kp:PySem.W.keepIn K 5#7=true
 hd:PySem.W.codeHdIn K c Pt=true
section
variable{P:qT}{w:qU}{K:qV}{mg:Str->Option qQ}{base:Heap}{x:Str}{st:Stmt}{f c Pt:qR}{N:List Str}{k:Nat}
theorem Zg(D:∃fd,Xd K x qual st f c Pt fd)(S:AJ N ps 6#6)(bd:Ew x qual st ps) (h:∀vs H Q E,sp vs H Q E->3#2=3#0 /\
  ∀(A:Around) (outer:List Env) (s:qS),CM k (A.deeper (envOfC qual 6#6 s.heap.objs.size f (.ref c))) ->
   ∃t,HE (Ej 12#1 P w K mg base N qual 6#6 f (.ref c) A outer s H E) 17#8 t/\t {nx:=λ_ H'=>Q .non H',rt:=Q} 12#5 H):B2 P w K mg base (k+1) f ps sp:=by
 rcases D with⟨fd,⟨oc,od,kV,doc,pm,an,ct,osl,rfl,lk,hcd⟩,kp,hd⟩;exact⟨⟨_,Vq lk hcd S (λvs H Q E q=>(h vs H Q E q).1) λA outer s H vs Q E hr q=>(h vs H Q E q).2 A outer s hr,.all (bd kV doc pm an (.ref c) ct)⟩,kp⟩
def Pg(K:qV)(x:Str)(st:Stmt)(f c Pt:qR):Prop:=(∃fd,Xd K x x st f c Pt fd)/\PySem.W.nsIn K mainGlobals x=some (some 5#7)
theorem VT{kV pm ct:qQ}(a:PySem.W.nsIn K mainGlobals x=some (some 5#7))
  (l:K.lookup f=some ⟨oc,od,.func (PySem.W.fnOf x x (Dm st) 17#8 6#6 .none kV doc pm an (.ref c) ct),osl⟩) (e:PySem.W.codeIn K (.ref c) x=true) (k:PySem.W.keepIn K 5#7=true) (h:PySem.W.codeHdIn K c Pt=true):Pg K x st f c Pt:=
 ⟨⟨_,⟨⟨oc,od,kV,doc,pm,an,ct,osl,rfl,l,e⟩,k,h⟩⟩,a⟩
end
section
variable{P:qR}{q:Str}
theorem Bl.at(t:Bl pos q P H):∃ps,H P=some (.tbl ps):=by obtain⟨ps,h,_⟩:=t;exact⟨ps,h⟩
theorem CI.get(e:CI P H H')(t:Bl pos q P H){b:qR}{o:HO}(h:H b=some o)(n:∀ps,o≠.tbl ps):H' b=some o:=by obtain⟨ps,hp⟩:=t.at;exact e b o (λz=>by rw[z,hp]at h;cases h;exact n _ rfl) h
theorem CI.free(e:CI P H H')(t:Bl pos q P H'){b:qR}(h:H' b=none):H b=none:=by
 cases z:H b with
 |none=>rfl
 |some o =>
  have n:b≠P:=λy=>by obtain⟨ps,hp⟩:=t.at;rw[y,hp]at h;cases h
  rw[e b o n z]at h;cases h
end
theorem Q8{K:qV}{q:Str}{body:Expr}{cl:List (Str×qR)}{pm ct:qQ}
  (h:∀us:List qQ,6#1=3#0->bindArgs 13#8 ⟨us,[]⟩=pure (ps.zip us)):HK K 13#8 ps []:=.all h
theorem Ph{K:qV}:∀{ts:List qR},(∀P∈ts,∃c,PySem.W.codeHdIn K c P=true)->(∀P∈ts,K.lookup P=none)->∃cts:List (qR×qR),cts.map (·.2)=ts/\Th K cts
 |[],_,_=>⟨[],rfl,λq hq=>qG hq cu⟩
 |P::ts,h1,h2=>by
  obtain⟨c,hc⟩:=h1 P dH;obtain⟨cts,e,h⟩:=Ph (λP hP=>h1 P (c8 _ hP)) λP hP=>h2 P (c8 _ hP)
  refine⟨(c,P)::cts,by rw[d9,e],λq hq=>?_⟩;rcases dD.mp hq with z|z
  ·rw[z];exact⟨hc,h2 P dH⟩
  ·exact h q z
inductive LB(K:qV)(ts:List qR)(vs:List V)(H:Hp)(Q:VK)(z3_:XK):Prop
 |m (a:qR) (ns:qW):vs=[.ref a]->Aa K H a 1#8->1#6<=63->(∀P∈ts,H P=some (.tbl #[]))->(∀H',Q (.bl true) H')->LB K ts vs H Q z3_
theorem Q9{l:PySem.W.OpenLaw}{n k:Nat}{q:qT}{loose:List Str}{XP:(Str->Option qQ)->Heap->Prop}{YP:qU->Heap->Prop}{d:DefRec}{K:Params->qV}{x:Str}{ts:List qR}
  (hn:l.most=some 63) (hdf:d.params.defaults=[]) (hr:CM k callerA)
  (hY:∀(w:qU) (h:Heap),YP w h->(K 16#6).In h/\∀P∈ts,h.get? P=some (PySem.W.tabObj #[])) (hT:∀w:qU,∀P∈ts,(K 16#6).lookup P=none)
  (F:∀(w:qU) (mg:Str->Option qQ) (fa:qR) (h:Heap),(K 16#6).In h->h.Ns mainGlobals mg->mg d.name=some 19#2 ->
   (∀P∈ts,∃c,PySem.W.codeHdIn (K 16#6) c P=true)/\∃fd:FuncData,(∀(s:qS) (u:qQ),BindsTo s fd ⟨[u],[]⟩ [(x,u)]) /\
    ∀base:Heap,(K 16#6).In base->base.Ns mainGlobals mg->FD mg base->Fu l.prog w (K 16#6) mg base (J7 l.prog w) k fa fd [x] (LB (K 16#6) ts)):
  PySem.W.WalkO q loose XP YP l.row.toRowW d [] (λf vs=>PySem.call f vs):=by
 refine Att.attach_call hn hdf λw s₀ s₁ mg mb fa o pm cd doc a vs ns G Y ho hd hcd hmg hobj hints hlen hg=>?_;obtain⟨KX,TX⟩:=hY w _ Y;rcases F w mg fa _ KX G.T.g hmg with⟨hc,fd,hb,hF⟩;obtain⟨cts,rfl,hT'⟩:=Ph hc (hT w);exact Q7 KX G.T.g G.T.b G.T.builtins G.T.nolimit G.T.bmain hg hT' (λq hq=>TX _ (dG.mpr ⟨q,hq,rfl⟩)) hobj hints (dM hlen (by decide)) hr hF hb (λH hO hS=>⟨a,ns,rfl,hS,hlen,hO.2,λ_=>rfl⟩) (by rintro H e s' ⟨_,_,_,_,_,_,_,_,z⟩;exact z)
theorem Pi{X:Cx}{ss:List Stmt}(h:∃t,GP X ss t/\t D σ H):∃t,HE X ss t/\t D σ H:=by obtain⟨t,a,b⟩:=h;exact⟨t,GP.out a,b⟩
end L2
namespace L2
open PySem PySem.Spec PyProof.Rows RW
variable{G i j:Nat}{H H' HX:Hp}{d d2:qR}{g lo:Int}{ls ls2:List qR}{params:Arguments}{pos:Pos}{scope:Scope}{dl tf:qW}{α β:Type}
def BB(A:qW)(vs:List V):List (BW×V):=List.zipWith (λa v=>(Sum.inl a,v)) A vs
theorem ED{A:qW}{vs:List V}(h:3#2=4#3):(BB A vs).length=4#3:=by unfold BB;rw[List.length_zipWith,h,Nat.min_self]
theorem To{a b:Int}(h:a≠b):¬(Sum.inl a:BW)=Sum.inl b:=λe=>h (Sum.inl.inj e)
theorem Cz:∀{A:qW} {vs:List V} {a:Int},a∉A->Ba (BB A vs) (Sum.inl a)=none
 |[],_,_,_=>rfl
 |_::_,[],_,_=>rfl
 |b::A,v::vs,a,h=>by show Ba ((Sum.inl b,v)::BB A vs) (Sum.inl a)=none;rw[Ci (show ¬(Sum.inl b,v).1=Sum.inl a from To λe=>h (by rw[e];exact dH))];exact Cz λe=>h (c8 _ e)
theorem Cd:∀{A:qW} {vs:List V} {i:Nat} {a:Int} {v:V},17#3->A[i]?=some a->vs[i]?=some v->Ba (BB A vs) (Sum.inl a)=some v
 |[],_,_,_,_,_,h,_=>by simp at h
 |_::_,[],_,_,_,_,_,h=>by simp at h
 |b::A,v::vs,0,a,w,nd,h1,h2=>by simp at h1 h2;subst h1 h2;exact Da rfl
 |b::A,v::vs,i+1,a,w,nd,h1,h2=>by simp at h1 h2;have nd':=d7.mp nd;show Ba ((Sum.inl b,v)::BB A vs) (Sum.inl a)=some w;rw[Ci (show ¬(Sum.inl b,v).1=Sum.inl a from To λe=>nd'.1 (by rw[e];exact cw h1))];exact Cd nd'.2 h1 h2
theorem JX{A:qW}{vs:List V}{a:Int}{v:V}(hl:3#2=4#3)(h:a∉A):Cf (BB A vs) (Sum.inl a) v=BB (A++[a]) (vs++[v]):=by rw[L6 _ (Cz h)];unfold BB;rw[List.zipWith_append hl.symm];rfl
theorem VU{A:qW}{vs:List V}{k:BW}{v:V}(h:(BB A vs)[i]?=some (k,v)):∃a,A[i]?=some a/\vs[i]?=some v/\k=Sum.inl a:=by
 unfold BB at h;rw[i6]at h;cases ha:A[i]? with
 |none=>rw[ha]at h;simp at h
 |some a =>
  cases hl:vs[i]? with
  |none=>rw[ha,hl]at h;simp at h
  |some l =>
   rw[ha,hl]at h;simp at h;exact⟨a,rfl,by rw[h.2],h.1.symm⟩
theorem G7{A:List α}{a:α}(h:a∈A):∃i:Nat,A[i]?=some a:=d4.mp h
theorem Md{A:List α}{ls:List β}(n:ls.length=4#3){a:α}(h:A[i]?=some a):∃l,ls[i]?=some l:=
 ⟨ls[i]'(by rw[n];exact (cW.mp h).1),cX _⟩
theorem Gc{A:qW}{vs:List V}{a:Int}(n:3#2=4#3)(nd:17#3):(Ba (BB A vs) (Sum.inl a)).isSome=decide (a∈A):=by
 by_cases h:a∈A
 ·obtain⟨i,hi⟩:=G7 h;obtain⟨v,hv⟩:=Md n hi;rw[Cd nd hi hv,qH h];rfl
 ·rw[Cz h,qI h];rfl
structure FE(H:Hp)(ls:List qR)(A:qW)(F:Int->qW):Prop where
 n:ls.length=4#3
 nd:ls.Nodup
 e:∀(i:Nat) (a:Int) (l:qR),A[i]?=some a->ls[i]?=some l->H l=some (.lst ((F a).map 1#0))
section
variable{A:qW}{F:Int->qW}
theorem FE.nil:FE H [] [] F:=⟨rfl,18#5,λi a l z=>by simp at z⟩
theorem FE.same(e:AG H H')(g:FE H ls A F):FE H' ls A F:=⟨g.n,g.nd,λi a l h1 h2=>e _ _ (g.e i a l h1 h2)⟩
theorem FE.snoc(g:FE H ls A F){l:qR}{a:Int}(hl:l∉ls)(h:H l=some (.lst ((F a).map 1#0))):FE H (ls++[l]) (A++[a]) F:=by
 refine⟨by rw[cg,cg,g.n];rfl,eP.mpr ⟨g.nd,d7.mpr ⟨cu,fP⟩,λx hx y hy e=>hl (by rw[<-ce.mp hy,<-e];exact hx)⟩,λi b k h1 h2=>?_⟩
 by_cases z:i<A.length
 ·rw[df z]at h1;rw[df (by rw[g.n];exact z)]at h2;exact g.e i b k h1 h2
 ·rw[dC (by lia)]at h1;rw[dC (by rw[g.n];lia),g.n]at h2;have z0:i-4#3=0:=by have:=(cW.mp h1).1;simp at this;lia
  rw[z0]at h1 h2;cases h1;cases h2;exact h
theorem FE.out(g:FE H ls A F){l:qR}(h:∀xs,H l≠some 3#6):l∉ls:=λz=>by obtain⟨i,hi⟩:=G7 z;obtain⟨a,ha⟩:=Md g.n.symm hi;exact h _ (g.e i a l ha hi)
theorem FE.new(g:FE H ls A F){l:qR}(h:H l=none):l∉ls:=g.out λxs z=>by rw[h]at z;cases z
theorem FE.keep(g:FE H ls A F){l:qR}(nl:l∉ls)(v:HO):FE (AZ H l v) ls A F:=
 ⟨g.n,g.nd,λi a k h1 h2=>by rw[AI λe=>nl (by rw[<-e];exact cw h2)];exact g.e i a k h1 h2⟩
theorem FE.push(g:FE H ls A F)(nd:17#3){p0 x:Int}{l:qR}(hj:A[j]?=some p0)(hl:ls[j]?=some l):FE (AZ H l (.lst ((F p0++[x]).map 1#0))) ls A (λp=>if p0=p then F p++[x] else F p):=
 ⟨g.n,g.nd,λi a k h1 h2=>by
  by_cases e:p0=a
  ·subst e;have ij:i=j:=by have a1:=cW.mp h1;have a2:=cW.mp hj;exact (gh (h₀:=a1.1) (h₁:=a2.1) nd).mp (by rw[a1.2,a2.2])
   subst ij;rw[hl]at h2;cases h2;rw[AC,qF rfl]
  ·have kl:k≠l:=λz=>by
    subst z;have b1:=cW.mp h2;have b2:=cW.mp hl;have ij:i=j:=(gh (h₀:=b1.1) (h₁:=b2.1) g.nd).mp (by rw[b1.2,b2.2]);subst ij;rw[hj]at h1;exact e (Option.some.inj h1)
   rw[AI kl,qE e];exact g.e i a k h1 h2⟩
end
inductive Js(S:qW)(F:Int->qW):Int->Prop
 |base {s:Int}:s∈S->Js S F s
 |step {a b:Int}:Js S F a->b∈F a->Js S F b
structure JY(S:qW)(F:Int->qW)(A:qW):Prop where
 nd:17#3
 st:∀s∈S,s∈A
 cl:∀a∈A,∀b∈F a,b∈A
 co:∀a∈A,Js S F a
structure G8(S:qW)(F:Int->qW)(A W:qW):Prop where
 nd:17#3
 st:∀s∈S,s∈A\/s∈W
 cl:∀a∈A,∀b∈F a,b∈A\/b∈W
 co:∀a,a∈A\/a∈W->Js S F a
section
variable{S:qW}{F:Int->qW}{A W:qW}
theorem G8.start:G8 S F [] S:=⟨fP,λ_ h=>.inr h,λ_ h=>qG h cu,λ_ h=>.base (h.resolve_left cu)⟩
theorem G8.done(r:G8 S F A []):JY S F A:=⟨r.nd,λs h=>(r.st s h).resolve_right cu,λa h b hb=>(r.cl a h b hb).resolve_right cu,λa h=>r.co a (.inl h)⟩
theorem G8.old{x:Int}(r:G8 S F A (W++[x]))(h:x∈A):G8 S F A W:=by
 have k:∀{b:Int},b∈A\/b∈W++[x]->b∈A\/b∈W:=λ{b} z=>z.elim .inl λz=>(cZ.mp z).elim .inr λz=>.inl (by rw[ce.mp z];exact h)
 exact⟨r.nd,λs z=>k (r.st s z),λa z b hb=>k (r.cl a z b hb),λa z=>r.co a (z.imp id λz=>cZ.mpr 19#3)⟩
theorem G8.next{x:Int}(r:G8 S F A (W++[x]))(h:x∉A):G8 S F (A++[x]) (W++F x):=by
 have k:∀{b:Int},b∈A\/b∈W++[x]->b∈A++[x]\/b∈W++F x:=λ{b} z=>z.elim (λz=>.inl 19#4) λz=>(cZ.mp z).elim (λz=>.inr 19#4) λz=>.inl (cZ.mpr (.inr z))
 have cx:=r.co x (.inr (cZ.mpr (.inr 10#3)));refine⟨eP.mpr ⟨r.nd,d7.mpr ⟨cu,fP⟩,λa ha b hb e=>h (by rw[<-ce.mp hb,<-e];exact ha)⟩,λs z=>k (r.st s z),λa ha b hb=>?_,λa ha=>?_⟩
 ·rcases cZ.mp ha with z|z
  ·exact k (r.cl a z b hb)
  ·rw[ce.mp z]at hb;exact .inr (cZ.mpr (.inr hb))
 ·rcases ha with z|z
  ·rcases cZ.mp z with z|z
   ·exact r.co a 19#3
   ·rw[ce.mp z];exact cx
  ·rcases cZ.mp z with z|z
   ·exact r.co a (.inr 19#4)
   ·exact .step cx z
theorem HD{N:Nat}{A:qW}(nd:17#3)(h:∀a∈A,0<=a/\a<(N:Int)):4#3<=N:=by
 have e:=nd.length_le_of_subset (l₂:=(List.range N).map λn:Nat=>(n:Int)) λa ha=>by obtain⟨a0,a1⟩:=h a ha;exact dG.mpr ⟨a.toNat,dA.mpr (by lia),by lia⟩
 rwa [cU,dL]at e
theorem Js.low{N:Nat}(hS:∀s∈S,0<=s/\s<(N:Int))(hF:∀x,0<=x->x<(N:Int)->∀y∈F x,0<=y/\y<(N:Int)){a:Int}(c:Js S F a):0<=a/\a<(N:Int):=by
 induction c with
 |base h=>exact hS _ h
 |step _ h ih=>exact hF _ ih.1 ih.2 _ h
end
structure LC(A:qW)(F:Int->qW)(A2:qW)(B:Int->qW):Prop where
 nd:A2.Nodup
 all:∀p,p∈A2↔p∈A
 on:∀p q,q∈B p↔q∈A/\p∈F q
 len:∀p,(B p).length<=6000
structure JZ(A:qW)(F:Int->qW)(i:Nat)(D:Int->Int->Prop)(n:Nat)(A2:qW)(B:Int->qW):Prop where
 nd:A2.Nodup
 sub:∀p∈A2,p∈A
 got:∀p∈A.take i,p∈A2
 no:∀p,p∉A2->B p=[]
 on:∀p q,q∈B p↔(q∈A.take i/\p∈F q)\/D p q
 len:∀p,(B p).length<=n
section
variable{A:qW}{F:Int->qW}{n:Nat}{D:Int->Int->Prop}{A2:qW}{B:Int->qW}
theorem JZ.start:JZ A F 0 (λ_ _=>False) 0 [] λ_=>[]:=⟨18#5,λp hp=>qG hp 14#7,λp hp=>qG hp (by simp),λ_ _=>rfl,λp q=>by simp,λ_=>Nat.zero_le _⟩
theorem JZ.key(t:JZ A F i D n A2 B){k:Int}(hk:k∉A2)(hA:k∈A):JZ A F i D n (A2++[k]) B where
 nd:=eP.mpr ⟨t.nd,d7.mpr ⟨cu,fP⟩,λx hx y hy e=>hk (by rw[<-ce.mp hy,<-e];exact hx)⟩
 sub:=λp hp=>(cZ.mp hp).elim (t.sub p) λz=>by rw[ce.mp z];exact hA
 got:=λp hp=>cZ.mpr (.inl (t.got p hp))
 no:=λp hp=>t.no p λz=>hp 19#4
 on:=t.on
 len:=t.len
theorem JZ.inner(t:JZ A F i (λ_ _=>False) n A2 B)(a:Int):JZ A F i (λp q=>q=a/\p∈(F a).take 0) n A2 B:=⟨t.nd,t.sub,t.got,t.no,λp q=>by rw[t.on];simp,t.len⟩
theorem JZ.push{a p0:Int}{L:qW}(t:JZ A F i (λp q=>q=a/\p∈L.take j) n A2 B)(hp:L[j]?=some p0)(m:p0∈A2):JZ A F i (λp q=>q=a/\p∈L.take (j+1)) (n+1) A2 (λp=>if p0=p then B p++[a] else B p) where
 nd:=t.nd
 sub:=t.sub
 got:=t.got
 no:=λp h=>by rw[qE λe=>h (by rw[<-e];exact m)];exact t.no p h
 on:=λp q=>by
  rw[eJ,hp,show (some p0).toList=[p0] from rfl,cZ,ce]
  by_cases e:p0=p
  ·rw[qF e,cZ,ce,t.on];constructor
   ·rintro ((h|⟨h1,h2⟩)|h)
    ·exact .inl h
    ·exact .inr ⟨h1,.inl h2⟩
    ·exact .inr ⟨h,.inr e.symm⟩
   ·rintro (h|⟨h1,_⟩)
    ·exact .inl (.inl h)
    ·exact .inr h1
  ·rw[qE e,t.on];constructor
   ·rintro (h|⟨h1,h2⟩)
    ·exact .inl h
    ·exact .inr ⟨h1,.inl h2⟩
   ·rintro (h|⟨h1,h2|h2⟩)
    ·exact .inl h
    ·exact .inr ⟨h1,h2⟩
    ·exact qG h2.symm e
 len:=λp=>by
  have:=t.len p
  by_cases e:p0=p
  ·rw[qF e,cg,dB];lia
  ·rw[qE e];lia
theorem JZ.outer{a:Int}(t:JZ A F i (λp q=>q=a/\p∈(F a).take (F a).length) n A2 B)(ha:A[i]?=some a)(m:a∈A2){n':Nat}(h:n<=n'):JZ A F (i+1) (λ_ _=>False) n' A2 B where
 nd:=t.nd
 sub:=t.sub
 got:=λp hp=>by
  rw[eJ,ha,show (some a).toList=[a] from rfl]at hp;rcases cZ.mp hp with z|z
  ·exact t.got p z
  ·rw[ce.mp z];exact m
 no:=t.no
 on:=λp q=>by
  rw[t.on,eJ,ha,show (some a).toList=[a] from rfl,cZ,ce,du,or_false];constructor
  ·rintro (⟨h1,h2⟩|⟨rfl,h2⟩)
   ·exact⟨.inl h1,h2⟩
   ·exact⟨.inr rfl,h2⟩
  ·rintro⟨h1|rfl,h2⟩
   ·exact .inl ⟨h1,h2⟩
   ·exact .inr ⟨rfl,h2⟩
 len:=λp=>dM (t.len p) h
theorem JZ.done(t:JZ A F A.length (λ_ _=>False) n A2 B)(h:n<=6000):LC A F A2 B where
 nd:=t.nd
 all:=λp=>⟨t.sub p,λhp=>t.got p (by rw[du];exact hp)⟩
 on:=λp q=>by rw[t.on,du,or_false]
 len:=λp=>dM (t.len p) h
end
structure LD(A:qW)(F:Int->qW)(E:qW)(M:qW)(f:Int->Nat):Prop where
 nd:M.Nodup
 sub:∀p∈M,p∈A\/p∈E
 ends:∀p∈E,p∈M/\f p=0
 zero:∀p∈M,f p=0->p∈E
 down:∀p∈M,∀n,f p=n+1->p∈A/\∃q∈F p,q∈M/\f q=n
 up:∀p∈A,∀q∈F p,q∈M->p∈M/\f p<=f q+1
structure LF(A:qW)(F:Int->qW)(E:qW)(M:qW)(f:Int->Nat)(n:Nat)(L R:qW):Prop where
 nd:M.Nodup
 sub:∀p∈M,p∈A\/p∈E
 subL:∀p,p∈L\/p∈R->p∈A\/p∈E
 ends:∀p∈E,(p∈M/\f p=0)\/(n=0/\p∈L)
 zero:∀p∈M,f p=0->p∈E
 down:∀p∈M,∀m,f p=m+1->p∈A/\∃q∈F p,q∈M/\f q=m
 le:∀p∈M,f p<=n
 next:∀p∈L,p∈M\/(n=0/\p∈E)\/∃m,n=m+1/\p∈A/\∃q∈F p,q∈M/\f q=m
 more:∀p∈R,p∈A/\∃q∈F p,q∈M/\f q=n
 up:∀p∈A,∀q∈F p,q∈M->(p∈M/\f p<=f q+1)\/(f q+1=n/\p∈L)\/(f q=n/\p∈R)
section
variable{A:qW}{F:Int->qW}{E M:qW}{f:Int->Nat}{n:Nat}{L R:qW}
theorem LF.start:LF A F E [] f 0 E [] where
 nd:=fP
 sub:=λp hp=>qG hp cu
 subL:=λp hp=>.inr (hp.resolve_right cu)
 ends:=λp hp=>.inr ⟨rfl,hp⟩
 zero:=λp hp=>qG hp cu
 down:=λp hp=>qG hp cu
 le:=λp hp=>qG hp cu
 next:=λp hp=>.inr (.inl ⟨rfl,hp⟩)
 more:=λp hp=>qG hp cu
 up:=λp _ q _ hq=>qG hq cu
theorem LF.skip{x:Int}(w:LF A F E M f n (x::L) R)(h:x∈M):LF A F E M f n L R where
 nd:=w.nd
 sub:=w.sub
 subL:=λp hp=>w.subL p (hp.imp (c8 _) id)
 ends:=λp hp=>by
  rcases w.ends p hp with z|⟨z,y⟩
  ·exact .inl z
  ·rcases dD.mp y with y|y
   ·exact .inl ⟨by rw[y];exact h,by have:=w.le x h;rw[y];lia⟩
   ·exact .inr ⟨z,y⟩
 zero:=w.zero
 down:=w.down
 le:=w.le
 next:=λp hp=>w.next p (c8 _ hp)
 more:=w.more
 up:=λp hp q hq hM=>by
  rcases w.up p hp q hq hM with z|⟨z,y⟩|z
  ·exact .inl z
  ·rcases dD.mp y with y|y
   ·exact .inl ⟨by rw[y];exact h,by have:=w.le x h;rw[y];lia⟩
   ·exact .inr (.inl ⟨z,y⟩)
  ·exact .inr (.inr z)
theorem LF.take{x:Int}{B:Int->qW}(w:LF A F E M f n (x::L) R)(h:x∉M)(hB:∀q,q∈B x↔q∈A/\x∈F q):LF A F E (M++[x]) (λp=>if p∈M then f p else n) n L (R++B x):=by
 have old:∀{p:Int},p∈M->(if p∈M then f p else n)=f p:=λz=>qF z
 have new:(if x∈M then f x else n)=n:=qE h;have mx:x∈M++[x]:=cZ.mpr (.inr 10#3);have mM:∀{p:Int},p∈M->p∈M++[x]:=λz=>cZ.mpr 19#3
 refine⟨eP.mpr ⟨w.nd,d7.mpr ⟨cu,fP⟩,λa ha b hb e=>h (by rw[<-ce.mp hb,<-e];exact ha)⟩,λp hp=>?_,λp hp=>?_,λp hp=>?_,λp hp=>?_,λp hp m e=>?_,λp hp=>?_,λp hp=>?_,λp hp=>?_,λp hp q hq hM=>?_⟩
 ·rcases cZ.mp hp with z|z
  ·exact w.sub p z
  ·rw[ce.mp z];exact w.subL x (.inl dH)
 ·rcases hp with z|z
  ·exact w.subL p (.inl (c8 _ z))
  ·rcases cZ.mp z with z|z
   ·exact w.subL p (.inr z)
   ·exact .inl ((hB p).mp z).1
 ·rcases w.ends p hp with⟨z,y⟩|⟨z,y⟩
  ·exact .inl ⟨mM z,by rw[old z];exact y⟩
  ·rcases dD.mp y with y|y
   ·exact .inl ⟨by rw[y];exact mx,by rw[y,new];exact z⟩
   ·exact .inr ⟨z,y⟩
 ·rcases cZ.mp hp with z|z
  ·intro e;rw[old z]at e;exact w.zero p z e
  ·rw[ce.mp z,new];intro e;rcases w.next x dH with y|⟨_,y⟩|⟨m,y,_⟩
   ·exact qG y h
   ·exact y
   ·lia
 ·rcases cZ.mp hp with z|z
  ·rw[old z]at e;obtain⟨h1,q,h2,h3,h4⟩:=w.down p z m e;exact⟨h1,q,h2,mM h3,by rw[old h3];exact h4⟩
  ·rw[ce.mp z,new]at e;rw[ce.mp z];rcases w.next x dH with y|⟨y,_⟩|⟨m',y,h1,q,h2,h3,h4⟩
   ·exact qG y h
   ·lia
   ·exact⟨h1,q,h2,mM h3,by rw[old h3];lia⟩
 ·rcases cZ.mp hp with z|z
  ·rw[old z];exact w.le p z
  ·rw[ce.mp z,new];exact cj _
 ·rcases w.next p (c8 _ hp) with z|z|⟨m,h1,h2,q,h3,h4,h5⟩
  ·exact .inl (mM z)
  ·exact .inr 19#3
  ·exact .inr (.inr ⟨m,h1,h2,q,h3,mM h4,by rw[old h4];exact h5⟩)
 ·rcases cZ.mp hp with z|z
  ·obtain⟨h1,q,h2,h3,h4⟩:=w.more p z;exact⟨h1,q,h2,mM h3,by rw[old h3];exact h4⟩
  ·obtain⟨h1,h2⟩:=(hB p).mp z;exact⟨h1,x,h2,mx,new⟩
 ·rcases cZ.mp hM with z|z
  ·rw[old z];rcases w.up p hp q hq z with⟨h1,h2⟩|⟨h1,h2⟩|⟨h1,h2⟩
   ·exact .inl ⟨mM h1,by rw[old h1];exact h2⟩
   ·rcases dD.mp h2 with y|y
    ·exact .inl ⟨by rw[y];exact mx,by rw[y,new];lia⟩
    ·exact .inr (.inl ⟨h1,y⟩)
   ·exact .inr (.inr ⟨h1,cZ.mpr (.inl h2)⟩)
  ·have e:=ce.mp z;subst e;rw[new];exact .inr (.inr ⟨rfl,cZ.mpr (.inr ((hB p).mpr ⟨hp,hq⟩))⟩)
theorem LF.round(w:LF A F E M f n [] R):LF A F E M f (n+1) R [] where
 nd:=w.nd
 sub:=w.sub
 subL:=λp hp=>w.subL p (.inr (hp.resolve_right cu))
 ends:=λp hp=>.inl ((w.ends p hp).resolve_right λz=>qG z.2 cu)
 zero:=w.zero
 down:=w.down
 le:=λp hp=>Nat.le_succ_of_le (w.le p hp)
 next:=λp hp=>.inr (.inr ⟨n,rfl,w.more p hp⟩)
 more:=λp hp=>qG hp cu
 up:=λp hp q hq hM=>by
  rcases w.up p hp q hq hM with z|⟨_,z⟩|⟨z,y⟩
  ·exact .inl z
  ·exact qG z cu
  ·exact .inr (.inl ⟨by lia,y⟩)
theorem LF.done(w:LF A F E M f n [] []):LD A F E M f where
 nd:=w.nd
 sub:=w.sub
 ends:=λp hp=>(w.ends p hp).resolve_right λz=>qG z.2 cu
 zero:=w.zero
 down:=w.down
 up:=λp hp q hq hM=>(w.up p hp q hq hM).resolve_right λz=>z.elim (λz=>qG z.2 cu) λz=>qG z.2 cu
theorem LF.few(w:LF A F E M f n L R):14#6<=4#3+E.length:=by rw[<-cg];exact w.nd.length_le_of_subset λp hp=>cZ.mpr (w.sub p hp)
end
def Tp(P:qT)(w:qU)(K:qV)(mg:Str->Option qQ)(base:Heap)(k:Nat)(f:qR)(F:Int->qW)(N:Nat)(H:Hp):Prop:=∃fd ps sp oc od fd' sl,Fu P w K mg base 12#1 k f fd ps sp/\HK K fd ps []/\H f=some (.frz ⟨oc,od,.func fd',sl⟩ Cm) /\
 ∀x:Int,0<=x->x<(N:Int)->∀(H1:Hp) (Q:VK),AG H H1->(∀l H2,AG H1 H2->H1 l=none->H2 l=some (.lst ((F x).map 1#0))->Q 16#8 H2)->sp [.int x] H1 Q E0
def Zh(N:Nat)(F:Int->qW):Prop:=∀x,0<=x->x<(N:Int)->(F x).length<=9/\∀y∈F x,0<=y/\y<(N:Int)
inductive KR(P:qT)(w:qU)(K:qV)(mg:Str->Option qQ)(base:Heap)(k:Nat)(vs:List V)(H:Hp)(Q:VK)(z3_:XK):Prop
 |m (a f:qR) (S:qW) (N:Nat) (F:Int->qW):vs=[.ref a,.ref f]->Aa K H a (S.map 1#0)->S.length<=100->N<=512->(∀s∈S,0<=s/\s<(N:Int))->Zh N F->Tp P w K mg base k f F N H->(∀d H' ls A,AG H H'->H d=none->(∀l∈ls,H l=none)->H' d=some 13#2->FE H' ls A F->JY S F A->(∀a∈A,0<=a/\a<(N:Int))->Q 2#2 H')->KR P w K mg base k vs H Q z3_
def bT(H HX:Hp)(d p:qR)(S:qW)(F:Int->qW)(A W:qW):Prop:=∃ls,AG H HX/\(∀l∈ls,H l=none)/\HX d=some 13#2/\FE HX ls A F/\HX p=some (.lst (W.map 1#0))/\p∉ls/\G8 S F A W
theorem OO{l:List α}(h:l≠[]):∃r x,l=r++[x]:=⟨l.dropLast,l.getLast h,(g8 h).symm⟩
noncomputable def BJ(g:Int)(tf:qW)(x:Int):qW:=(List.range 0#2).map λs:Nat=>Fl g.toNat tf (0#9/0#2) x (s:Int)
theorem Eb(g:Int)(tf:qW)(x:Int):(BJ g tf x).length=0#2:=by unfold BJ;rw[2#8,4#1]
theorem Me{h:Nat}(h9:h<=9):2^h<=512:=dM (fF (by decide) h9) (by decide)
theorem OP(g9:g<=9)(tf:qW):Zh (2^(0#9/0#2)) 8#1:=λx _ _=>by refine⟨by rw[Eb];lia,λy hy=>?_⟩;unfold BJ at hy;obtain⟨s,_,rfl⟩:=dG.mp hy;have:=IH (0#9/0#2) (D7 g.toNat tf (0#9/0#2) x (s:Int) (0#9/0#2));rw[gR];exact this
abbrev Eg(g:Int)(tf:qW):Int:=2^(tf.length/g.toNat)-1
theorem Tq(g:Int)(tf:qW):0<=Eg g tf/\Eg g tf<((2^(0#9/0#2):Nat):Int):=by
 have:=IH (0#9/0#2) λ_=>true
 rw[MH]at this;rw[gR];exact⟨this.1,Int.sub_lt_self _ Int.one_pos⟩
theorem AS.sameT{P:qR}{q:Str}{r:qR}{m:Nat}(e:CI P H H')(t:Bl pos q P H)(h:AS H r g lo dl m):AS H' r g lo dl m:=by obtain⟨⟨tb,v1,v2⟩,h1,h2,h3,h4,h5,h6,h7⟩:=h;exact⟨⟨tb,e.get t v1 (λ_ z=>by cases z),e.get t v2 (λ_ z=>by cases z)⟩,h1,h2,h3,h4,h5,h6,h7⟩
theorem UT.sameT{P:qR}{q:Str}{p:qR}{ps:List qR}{ws:List (qW)}(e:CI P H H')(t:Bl pos q P H)(h:UT H p ps ws):UT H' p ps ws:=
 ⟨e.get t h.l (λ_ z=>by cases z),h.n,λi q w h1 h2=>e.get t (h.e i q w h1 h2) (λ_ z=>by cases z)⟩
noncomputable def Jt(x:Str):Str:=x++".<locals>."++"<lambda>"
inductive Pj(CT:qR)(pos:Pos)(Pt:qR)(vs:List V)(H:Hp)(Q:VK)(E:XK):Prop
 |m (r:qR) (g lo:Int) (dl:qW) (m:Nat) (lf:Int) (tf:qW) (mf:Nat):vs=[.ref r]->AS H r g lo dl m->A4 g lo dl m lf tf mf->Bl pos (Jt "sets_reached") Pt H->(g^(mf-1)<=9->∀d H' ls A,CI Pt H H'->Bl pos (Jt "sets_reached") Pt H'->H d=none->(∀l∈ls,H l=none)->H' d=some 13#2->FE H' ls A 8#1->JY [Eg g tf] 8#1 A->(∀a∈A,0<=a/\a<((2^(0#9/0#2):Nat):Int))->Q 2#2 H')->(9<g^(mf-1)->∀H',AG H H'->E 16#5 none H')->Pj CT pos Pt vs H Q E
theorem OQ{P:qT}{w:qU}{K:qV}{mg:Str->Option qQ}{base:Heap}{k:Nat}{f:qR}{q:Str}{body:Expr}{cl:List (Str×qR)}{F:Int->qW}{N:Nat}{Du:List V}{x1:Str}{fns:List Str}
  (la:KQ q params body scope cl f H) (ck:DC cl Du H) (S:Mc [x1] fns scope) (hcl:cl.map (·.1)=fns) (hnd:(Bv cl).Nodup) (hbind:∀(pm j6 ct:qQ) (us:List qQ),6#1=1->bindArgs (PySem.W.kla_fn "<lambda>" q params body scope cl pm j6 ct) ⟨us,[]⟩=pure ([x1].zip us))
  (hbody:∀(c':qR) (A:Around) (outer:List Env) (s:qS) (HA:Hp) (x:Int),CM k (A.deeper (PySem.W.envX q scope s.heap.objs.size f (.ref c') (cellsFrom (0#1+1) scope.names []++cl)))->0<=x->x<(N:Int)->AG H HA ->
   ∃t,PE (ay P w K mg base (x1::fns) q scope f (.ref c') cl A outer s HA) body t/\∀Q:VK,(∀D H',AG (Jf cl HA) H'->Jf cl HA D=none->H' D=some (.lst ((F x).map 1#0))->Q 2#1 H')->t (some (.int x)::Du.map some) (Jf cl HA) Q):
  Tp P w K mg base (k+1) f F N H:=by
 rcases la with⟨pm,c',ctv,oc,l1,l2,l3⟩;refine⟨_,[x1],λvs HA QA _=>∃x:Int,vs=[.int x]/\0<=x/\x<(N:Int)/\AG H HA/\∀l H2,AG HA H2->HA l=none->H2 l=some (.lst ((F x).map 1#0))->QA 16#8 H2,_,_,_,_,Xc (q:=q) (params:=params) (body:=body) (scope:=scope) (cl:=cl) (fns:=fns) (pm:=pm) (ctv:=ctv) (c':=c') S hcl hnd ?_ ?_,Q8 (hbind pm (.ref c') ctv),l1,λx x0 x1 HA QA eA qA=>⟨x,rfl,x0,x1,eA,qA⟩⟩
 ·rintro vs HA QA _ ⟨x,rfl,_⟩;rfl
 ·intro A outer s HA vs QA EA hr hRq;rcases hRq with⟨x,rfl,x0,x1,eA,qA⟩;obtain⟨t,ht,hq⟩:=hbody c' A outer s HA x hr x0 x1 eA;refine⟨Du,oc,eA _ _ l1,eA _ _ l2,l3,ck.same eA,t,ht,hq _ λD H' e1 hD hH cz=>?_⟩;have out:D∉Bv cl:=λz=>by rw[cz D z]at hH;cases hH
  exact qA D _ (Tk e1) (by rw[<-hD,Bz out]) (by rw[DL out];exact hH)
inductive Pk(vs:List V)(H:Hp)(Q:VK)(z3_:XK):Prop
 |m (d:qR) (ls:List qR) (A:qW) (F:Int->qW):vs=[.ref d]->Rd H d 13#2->FE H ls A F->17#3->(∀a∈A,∀p∈F a,p∈A)->4#3<=512->(∀a∈A,(F a).length<=9)->(∀o H' d2 ls2 A2 B,AG (AZ H d (.frz o 13#2)) H'->H d2=none->(∀l∈ls2,H l=none)->H' d2=some (.dK (BB A2 3#1))->FE H' ls2 A2 B->LC A F A2 B->Q 5#3 H')->Pk vs H Q z3_
def VV(H HX:Hp)(d2:qR)(A2:qW)(B:Int->qW):Prop:=∃ls2:List qR,(∀l∈ls2,H l=none)/\HX d2=some (.dK (BB A2 3#1))/\FE HX ls2 A2 B
theorem VV.put{A2:qW}{B:Int->qW}{l:qR}{k:Int}(ln:∀l∈ls2,H l=none)(w0:HX d2=some (.dK (BB A2 3#1)))(g:FE HX ls2 A2 B)(hl:HX l=some (.lst []))(nl:l∉ls2)(h0:H l=none)(hk:k∉A2)(hB:B k=[]):
  (∀x∈ls2++[l],H x=none)/\AZ HX d2 (.dK (Cf (BB A2 3#1) (Sum.inl k) 16#8)) d2=some (.dK (BB (A2++[k]) ((ls2++[l]).map 20#2)))/\FE (AZ HX d2 (.dK (Cf (BB A2 3#1) (Sum.inl k) 16#8))) (ls2++[l]) (A2++[k]) B:=by
 have d2n:d2∉ls2:=g.out λxs z=>by rw[w0]at z;cases z
 refine⟨λx hx=>?_,by rw[AC,JX (by rw[cU];exact g.n) hk,cq];rfl,(g.keep d2n _).snoc nl ?_⟩
 ·rcases cZ.mp hx with z|z
  ·exact ln x z
  ·rw[ce.mp z];exact h0
 ·rw[AI (Dk hl w0 λz=>by cases z),hB];exact hl
theorem AG.bothI{H0:Hp}(e:AG H H0)(d:qR)(v:HO):AG (AZ H d v) (AZ H0 d v):=λb y h=>by
 by_cases z:b=d
 ·subst z;rw[AC]at h⊢;exact h
 ·rw[AI z]at h⊢;exact e b y h
theorem Rd.is{kvs:List (BW×V)}(r:Rd H d 5#1):∃u,H d=some u/\(∀xs,u≠.lst xs):=by
 rcases r with r|⟨o,r⟩
 ·exact⟨_,r,λ_ z=>by cases z⟩
 ·exact⟨_,r,λ_ z=>by cases z⟩
abbrev Em(M:qW)(f:Int->Nat):List (BW×V):=BB M (M.map λp=>V.int ((f p:Nat):Int))
theorem Tr(M:qW)(f:Int->Nat):(Em M f).length=14#6:=ED (by rw[cU])
theorem Ts{M:qW}{f:Int->Nat}{x:Int}{n:Nat}(h:x∉M):Cf (Em M f) (Sum.inl x) (.int ((n:Nat):Int))=Em (M++[x]) (λp=>if p∈M then f p else n):=by
 unfold Em;rw[JX (by rw[cU]) h]
 congr 1
 rw[cq,d9,ir]
 congr 1
 ·exact dI λp hp=>by show V.int ((f p:Nat):Int)=V.int (((if p∈M then f p else n):Nat):Int);rw[qF hp]
 ·show[V.int ((n:Nat):Int)]=[V.int (((if x∈M then f x else n):Nat):Int)];rw[qE h]
theorem Tt{M:qW}{f:Int->Nat}(nd:M.Nodup)(x:Int):Ba (Em M f) (Sum.inl x)=if x∈M then some (.int ((f x:Nat):Int)) else none:=by
 by_cases h:x∈M
 ·obtain⟨i,hi⟩:=G7 h;rw[qF h];exact Cd nd hi (by rw[cn,hi];rfl)
 ·rw[qE h];exact Cz h
inductive Tu(vs:List V)(H:Hp)(Q:VK)(z3_:XK):Prop
 |m (d e:qR) (ls:List qR) (A:qW) (F:Int->qW) (E:qW):vs=[.ref d,.ref e]->Rd H d 13#2->FE H ls A F->17#3->(∀a∈A,∀p∈F a,p∈A)->4#3<=512->(∀a∈A,(F a).length<=9)->H e=some (.lst (E.map 1#0))->E.length<=600->(∀o H' d2 M f,AG (AZ H d (.frz o 13#2)) H'->H d2=none->H' d2=some (.dK (Em M f))->LD A F E M f->Q 5#3 H')->Tu vs H Q z3_
def bU(HB HX:Hp)(d2 p:qR)(A:qW)(F:Int->qW)(E:qW)(M0:qW)(n:Nat)(L:qW):Prop:=∃M f R,AG HB HX/\HX d2=some (.dK (Em M f))/\HX p=some (.lst (R.map 1#0))/\R.length<=14#6*6000/\(R=[]\/M0.length<14#6)/\M0.length<=14#6/\LF A F E M f n L R
noncomputable def Ju(M:qW)(f:Int->Nat)(x:Int):Option Nat:=if x∈M then some (f x) else none
noncomputable def Gd(F:Int->qW)(fo:Int->Option Nat)(n:Nat)(x:Int):Nat:=(F x).findIdx λy=>fo y==some n
noncomputable def Hi(F:Int->qW)(fo:Int->Option Nat):Nat->Int->qW
 |0,_=>[]
 |n+1,x=>((Gd F fo n x:Nat):Int)::Hi F fo n ((F x).getD (Gd F fo n x) 0)
theorem Tv{F:Int->qW}{fo:Int->Option Nat}{n:Nat}{x y:Int}(h:y∈F x)(e:fo y=some n):∃z,(F x)[Gd F fo n x]?=some z/\fo z=some n/\(F x).getD (Gd F fo n x) 0=z/\Gd F fo n x<(F x).length/\∀m,m<Gd F fo n x->∀y,(F x)[m]?=some y->fo y≠some n:=by
 have lt:Gd F fo n x<(F x).length:=List.findIdx_lt_length_of_exists ⟨y,h,by rw[e];exact beq_self_eq_true _⟩;refine⟨_,cX lt,?_,by rw[cV,cX lt];rfl,lt,λm hm y hy=>?_⟩
 ·have:=List.findIdx_getElem (w:=lt);exact eq_of_beq this
 ·have ml:m<(F x).length:=Nat.lt_trans hm lt;rw[cX ml]at hy;cases hy;intro z;have:=List.not_of_lt_findIdx hm;rw[z]at this;simp at this
theorem KS{F:Int->qW}{fo:Int->Option Nat}(hF:∀x,(F x).length=G)(h:∀x n,fo x=some (n+1)->∃y∈F x,fo y=some n):∀(n:Nat) (x:Int),fo x=some n->(Hi F fo n x).length=n/\∀s∈Hi F fo n x,0<=s/\s<(G:Int)
 |0,_,_=>⟨rfl,λs hs=>qG hs cu⟩
 |n+1,x,e=>by
  obtain⟨y,hy,ey⟩:=h x n e;rcases Tv hy ey with⟨z,h1,h2,h3,h4,_⟩;obtain⟨i1,i2⟩:=KS hF h n z h2;show (((Gd F fo n x:Nat):Int)::Hi F fo n ((F x).getD (Gd F fo n x) 0)).length=n+1/\∀s∈((Gd F fo n x:Nat):Int)::Hi F fo n ((F x).getD (Gd F fo n x) 0),0<=s/\s<(G:Int);rw[h3];refine⟨by rw[d5,i1],λs hs=>?_⟩;rcases dD.mp hs with q|q
  ·rw[q];rw[hF]at h4;lia
  ·exact i2 s q
theorem LD.down'{A:qW}{F:Int->qW}{E M:qW}{f:Int->Nat}(w:LD A F E M f):∀x n,Ju M f x=some (n+1)->∃y∈F x,Ju M f y=some n:=λx n e=>by
 unfold Ju at e
 split at e
 ·rename_i m
  obtain⟨_,q,h1,h2,h3⟩:=w.down x m n (Option.some.inj e);exact⟨q,h1,by unfold Ju;rw[qF h2,h3]⟩
 ·cases e
theorem CI.into{P:qR}(e:CI P H H')(h:H d=none)(u:HO):CI P H (AZ H' d u):=λb o n q=>by rw[AI λz=>by rw[z,h]at q;cases q];exact e b o n q
theorem Bl.into{q:Str}{P:qR}(t:Bl pos q P H){u v:HO}(h:H d=some u)(n1:∀ps,u≠.tbl ps)(n2:∀o,u≠.frz o Cm):Bl pos q P (AZ H d v):=by rcases t with⟨ps,h1,h2,h3⟩;refine⟨ps,by rw[AI λz=>by rw[z,h]at h1;cases h1;exact n1 _ rfl];exact h1,h2,λcv hc=>?_⟩;rcases h3 cv hc with⟨c',oc,h4,h5,h6⟩;exact⟨c',oc,h4,by rw[AI λz=>by rw[z,h]at h5;cases h5;exact n2 _ rfl];exact h5,h6⟩
noncomputable def EE(g:Int)(tf:qW)(x:Int)(row:qW):Int:=row.foldl (λx s=>Fl g.toNat tf (0#9/0#2) x s) x
theorem KU{n:Nat}{f:Nat->Int}(h:∀k,k<n->0<=f k):Al n f=0↔∀k,k<n->f k=0:=by
 constructor
 ·intro e k hk;have:=IE h hk;have:=h k hk;lia
 ·intro e;rw[Ay (g:=λ_=>0) e,BC,iz]
theorem RA{n:Nat}{f:Nat->Bool}:Be n f=0↔∀i,i<n->f i=false:=by
 constructor
 ·intro e i hi;have b:=JB (f:=f) hi;rw[e,Int.zero_ediv]at b;cases z:f i with
  |false=>rfl
  |true=>rw[z]at b;cases b
 ·intro e;rw[EY (h:=λ_=>false) e,FW]
theorem KW(g2:2<=g):∀(row:qW) (f:Nat->Bool),EE g tf (Be (0#9/0#2) f) row=0↔∀i,i<0#9/0#2->f i=true->DF g.toNat tf row i=0
 |[],f=>by
  show Be _ f=0↔_;rw[RA];constructor
  ·intro h i hi e;rw[h i hi]at e;cases e
  ·intro h i hi;cases z:f i with
   |false=>rfl
   |true=>have:=h i hi z;cases this
 |s::row,f=>by
  obtain⟨h,hh⟩:∃h,h=0#9/0#2:=⟨_,rfl⟩;show EE g tf (Be _ (D7 g.toNat tf _ (Be _ f) s _)) row=0↔_;rw[KW g2 row,<-hh]
  have eq:∀i,DF g.toNat tf (s::row) i=0↔∀j,j<0#2->tf.getD (i*0#2+j) 0=s->DF g.toNat tf row ((i*0#2+j)%h)=0:=λi=>by
   show Al g.toNat (λj=>EH (decide (tf.getD (i*0#2+j) 0=s)) (DF g.toNat tf row ((i*0#2+j)%(0#9/0#2))))=0↔_;rw[KU λj _=>F2 (CZ ..),<-hh];refine forall_congr' λj=>forall_congr' λhj=>?_
   unfold EH
   by_cases z:tf.getD (i*g.toNat+j) 0=s
   ·rw[qH z];exact⟨λy _=>y,λy=>y z⟩
   ·rw[qI z];exact⟨λ_ y=>qG y z,λ_=>rfl⟩
  constructor
  ·intro H i hi fi;rw[eq];intro j hj hs;have lt:(i*0#2+j)%h<h:=fM _ (by lia);refine H _ lt ?_;unfold D7;refine iP.mpr ⟨i,dA.mpr hi,?_⟩;rw[eO];refine⟨qH ?_,?_⟩
   ·rw[JB hi,qF fi]
   ·unfold Fe;exact iP.mpr ⟨_,MI.mpr ⟨j,hj,hs,rfl⟩,beq_self_eq_true _⟩
  ·intro H e he st;unfold D7 at st;obtain⟨i,hi,st⟩:=iP.mp st;rw[eO]at st;have il:=dA.mp hi
   have fi:f i=true:=by
    have b:=qN st.1;rw[JB il]at b;cases z:f i with
    |true=>rfl
    |false=>rw[z]at b;cases b
   unfold Fe at st;obtain⟨k,hk,ke⟩:=iP.mp st.2;obtain⟨j,hj,hs,rfl⟩:=MI.mp hk;rw[<-eq_of_beq ke];exact (eq i).mp (H i il fi) j hj hs
theorem Mf(g2:2<=g)(row:qW):EE g tf (Eg g tf) row=0↔Bj g.toNat tf row=0:=by unfold Eg Bj;rw[<-MH,KW g2,KU λk _=>CZ ..];exact⟨λh k hk=>h k hk rfl,λh k hk _=>h k hk⟩
end L2
namespace L2
open PySem PySem.Spec PyProof.Rows
theorem Xe{X:Cx}:Es X (compareOp .Is) (λx y H Q=>∃b c:Bool,x=.bl b/\y=.bl c/\Q (.bl (decide (b=c))) H):=by
 intro ad s σ H x y v u Q I rx ry h;rcases h with⟨b,c,rfl,rfl,q⟩;cases rx;cases ry;have e:compareOp .Is (.bool b) (.bool c)=pure (.bool (decide (b=c))):=by cases b<;>cases c<;>rfl
 rw[e];exact qD ⟨.bl _,H,I,rfl,q⟩
end L2
namespace L2
open PySem PySem.Spec PyProof.Rows RW
variable{G i j m' ma mf:Nat}{H:Hp}{M:List (qX)}{S:qX->qX->Prop}{a:qR}{c dl tab' tf:qW}{f:qX->Nat}{g lf lo lo' z:Int}{q:Nat->qX}
def Xf:TS:=λ_ _ _=>False
theorem FF{X:Cx}{st:Stmt}:PS X st Xf:=λ_ _ _ _ _ _ h=>h.elim
inductive Mg(K:qV)(vs:List V)(H:Hp)(Q:VK)(z3_:XK):Prop
 |m (a:qR) (xs:List V) (g:Int):vs=[.ref a,.int g]->Aa K H a xs->(∀x∈xs,Kd H x)->(match Cb g xs with|none=>∀H',AG H H'->Q .non H'|some _=>False)->Mg K vs H Q z3_
inductive Hj(K:qV)(vs:List V)(H:Hp)(Q:VK)(z3_:XK):Prop
 |m (a:qR) (xs:List V) (g:Int) (m:Nat):vs=[.ref a,.int g,.int ((m:Nat):Int)]->Aa K H a xs->(∀x∈xs,Kd H x)->(match Ez g m xs with|none=>∀H',AG H H'->Q .non H'|some _=>False)->Hj K vs H Q z3_
inductive KY(K:qV)(vs:List V)(H:Hp)(Q:VK)(z3_:XK):Prop
 |m (a:qR) (xs:List V) (g:Int):vs=[.ref a,.int g]->2<=g->g<=9->Aa K H a xs->(∀x∈xs,Kd H x)->(match Cb g xs with|none=>∀ns:qW,xs=ns.map 1#0->∀H',AG H H'->Q (.int (An g ns)) H'|some _=>False)->KY K vs H Q z3_
inductive Pl(K:qV)(vs:List V)(H:Hp)(Q:VK)(z3_:XK):Prop
 |m (r a:qR) (g lo:Int) (dl:qW) (m:Nat) (xs:List V):vs=[.ref r,.ref a]->2<=g->g<=9->A8 H r g lo dl->(0#0:Int)=g^m->Aa K H a xs->(∀x∈xs,Kd H x)->(match Ez g m xs with|none=>∀ns:qW,xs=ns.map 1#0->∀H',AG H H'->Q (.int (dl.getD (An g ns).toNat 0)) H'|some _=>False)->Pl K vs H Q z3_
inductive Pm(vs:List V)(H:Hp)(Q:VK)(z3_:XK):Prop
 |m (n g m:Int):vs=[.int n,.int g,.int m]->2<=g->g<=9->0<=m->m<=300->((n<0\/g^14#4<=n)->False)->(0<=n->n<g^14#4->∀r H',Jm H H' r (RW.Ce g n 14#4).reverse->Q 2#4 H')->Pm vs H Q z3_
inductive Pn(vs:List V)(H:Hp)(Q:VK)(z3_:XK):Prop
 |m (g lo:Int):vs=[.int g,.int lo]->2<=g->g<=9->Q .non H->Pn vs H Q z3_
inductive Tw(vs:List V)(H:Hp)(Q:VK)(z3_:XK):Prop
 |m (g:Int) (a:qR) (dl:qW) (m:Nat):vs=[.int g,.ref a]->2<=g->g<=9->1<=m->(0#0:Int)=g^m->g^m<=256->(∀n∈dl,0<=n/\n<g)->H a=some (.lst 14#9)->(∀H',AG H H'->Q .non H')->Tw vs H Q z3_
inductive OR(vs:List V)(H:Hp)(Q:VK)(z3_:XK):Prop
 |m (g lo:Int) (a:qR) (dl:qW) (m:Nat):vs=[.int g,.int lo,.ref a]->2<=g->g<=9->1<=m->(0#0:Int)=g^m->g^m<=256->(∀n∈dl,0<=n/\n<g)->H a=some (.lst 14#9)->(∀r' H',AG H H'->A8 H' r' g lo dl->Q 8#2 H')->OR vs H Q z3_
theorem Ec{m:Nat}{Q:VK}{E:XK}(g2:2<=g)(g9:g<=9)(m1:1<=m)(len:(0#0:Int)=g^m)(sz:g^m<=256)(tb:∀n∈dl,0<=n/\n<g)(hs:H a=some (.lst 14#9)\/False)
  (q:∀r' H',AG H H'->A8 H' r' g lo dl->Q 8#2 H'):OR [.int g,.int lo,.ref a] H Q E:=by
 obtain hs|z:=hs
 ·exact⟨g,lo,a,dl,m,rfl,g2,g9,m1,len,sz,tb,hs,q⟩
 ·exact z.elim
theorem Fa(hg:2<=g){m:Nat}(tb:∀n∈dl,0<=n/\n<g)(fw:A4 g lo dl m lf tf mf):∀n∈tf,0<=n/\n<g:=by
 obtain⟨low,M,_,_,⟨_,_,rfl⟩|⟨_,_,rfl⟩⟩:=fw
 ·exact Gs hg _ (Gs hg _ tb _ _ _) _ _ _
 ·exact Gs hg _ tb _ _ _
noncomputable def Cn(g lo:Int)(dl:qW)(m:Nat)(x:Int->Int):Int->Int:=λz=>Bo g (lo+z) dl m x
theorem CQ(g lo:Int)(dl:qW)(m:Nat)(x:Int->Int)(k:Int):Bo g lo dl m (λz=>x (z+k))=Bo g (lo+k) dl m x:=by
 unfold Bo BG
 congr 4
 funext j
 show x (lo+(j:Int)+k)=x (lo+k+(j:Int))
 congr 1
 lia
theorem FG{m:Nat}(al:BL g lo dl m lo' tab' m'){x:Int->Int}(hx:F3 g x):Cn g lo dl m x=Cn g lo' tab' m' x:=by
 funext z
 have y:=al (λu=>x (u+z)) λu=>hx _
 rw[CQ,CQ]at y;exact y
theorem Ck(hg:2<=g)(tb:∀n∈dl,0<=n/\n<g)(lo:Int)(m:Nat)(x:Int->Int):F3 g 8#5:=λz=>Bn hg tb _
theorem Ge(g lo:Int)(dl:qW){m:Nat}(m1:1<=m)(x:Int->Int)(u:Int)(n:Nat):BG 8#5 u n=Ak g dl m (BG x (lo+u) (m+n-1)):=by refine Ab (by rw[Ap,Ag,Ap];lia) λj hj=>?_;rw[Ap]at hj;rw[CP _ _ hj,Cj (by rw[Ap];lia),<-LA x (show j+m<=m+n-1 by lia)];show dl.getD (An g (BG x (lo+(u+(j:Int))) m)).toNat 0=_;rw[show lo+(u+(j:Int))=lo+u+(j:Int) by lia]
section
variable(hg:2<=g)(hl:(tf.length:Int)=g^mf)(m2:2<=mf)(hb:∀n∈tf,0<=n/\n<g){j3 left:Nat}(B:Dj g tf mf j3 left){j4:Nat}(em:j3+left+2=mf+j4)
include hg hl m2 hb B em
theorem Dj.back(lf:Int){x:Int->Int}(hx:F3 g x)(z:Int):Bo g (-lf-(j3:Int)+z) 10#1 j4 (Cn g lf tf mf x)=x z:=by
 unfold Bo;rw[Ge g lf tf (by lia)];have vb:=C1 hx (lf+(-lf-(j3:Int)+z)) (mf+j4-1);have vl:=Ap x (lf+(-lf-(j3:Int)+z)) (mf+j4-1);have a:=Dj.at hg hl m2 hb B em vb (by rw[vl]);have cb:=FQ hg hb mf (BG x (lf+(-lf-(j3:Int)+z)) (mf+j4-1));have nb:=BR hg cb;rw[Ag,vl,show mf+j4-1+1-mf=j4 by lia]at nb;unfold Q5;rw[AT (by lia),a,CP _ _ (by lia)]
 congr 1
 lia
theorem Dj.there(lf:Int){y:Int->Int}(hy:F3 g y)(z:Int):Bo g (lf+z) tf mf (Cn g (-lf-(j3:Int)) 10#1 j4 y)=y z:=by
 obtain⟨rk,hr,_⟩:=B.ex;obtain⟨w,wl,wb,we⟩:=MO hg hl m2 hb hr (C1 hy (z-(j3:Int)) (mf+j4-1));have hx:=Cu hg wb (lf+(z-(j3:Int)));obtain⟨x,hxe⟩:∃x,x=CH w (lf+(z-(j3:Int))):=⟨_,rfl⟩;rw[<-hxe]at hx;rw[Ap]at wl
 have ix:BG (Cn g lf tf mf x) (z-(j3:Int)) (mf+j4-1)=BG y (z-(j3:Int)) (mf+j4-1):=by rw[Ge g lf tf (by lia),hxe,<-we,show mf+(mf+j4-1)-1=4#4 by lia,C6]
 have at':∀j:Nat,j<mf+j4-1->Cn g lf tf mf x (z-(j3:Int)+(j:Int))=y (z-(j3:Int)+(j:Int)):=λj hj=>by have e:=qP (λl:qW=>l.getD j 0) ix;have e:(BG (Cn g lf tf mf x) (z-(j3:Int)) (mf+j4-1)).getD j 0=(BG y (z-(j3:Int)) (mf+j4-1)).getD j 0:=e;rw[CP _ _ hj,CP _ _ hj]at e;exact e
 have wx:BG (Cn g (-lf-(j3:Int)) 10#1 j4 y) (lf+z) mf=BG x (lf+z) mf:=by
  unfold BG;refine dI λj hj=>?_;have hj:=dA.mp hj;rw[<-Dj.back hg hl m2 hb B em lf hx (lf+z+(j:Int))];show Bo g (-lf-(j3:Int)+(lf+z+(j:Int))) _ j4 y=_;unfold Bo BG
  congr 3
  refine dI λk hk=>?_;have hk:=dA.mp hk;have e:=at' (j+k) (by lia);rw[show -lf-(j3:Int)+(lf+z+(j:Int))+(k:Int)=z-(j3:Int)+((j+k:Nat):Int) by lia];exact e.symm
 have e:=at' j3 (by lia);rw[show z-(j3:Int)+((j3:Nat):Int)=z by lia]at e;rw[<-e];show tf.getD (An g (BG _ (lf+z) mf)).toNat 0=tf.getD (An g (BG x (lf+z) mf)).toNat 0;rw[wx]
end
theorem RB(hg:2<=g){m:Nat}(m1:1<=m){lw:Int}{W:qW}{n:Nat}(n1:1<=n)(h:∀x,F3 g x->Bo g lw W n 8#5=x 0):
  ∃at':Nat,((at':Nat):Int)=0-lo-lw/\at'<m+n-1/\∀v:qW,14#2=m+n-1->(∀k∈v,0<=k/\k<g)->W.getD (An g 16#3).toNat 0=v.getD at' 0:=by
 have rng:0<=0-lo-lw/\0-lo-lw<(m:Int)+(n:Int)-1:=by
  apply 5#8;intro z;have h1:=h (λu=>if u=0 then 1 else 0) λu=>by dsimp only;split<;>lia
  have h0:=h (λ_=>0) λu=>by dsimp only;lia
  have e:BG (Cn g lo dl m (λu=>if u=0 then 1 else 0)) lw n=BG (Cn g lo dl m (λ_=>0)) lw n:=by
   rw[Ge g lo dl m1,Ge g lo dl m1]
   congr 1
   unfold BG;refine dI λj hj=>?_;have:=dA.mp hj;show (if lo+lw+(j:Int)=0 then (1:Int) else 0)=0;rw[qE (by lia)]
  unfold Bo at h1 h0;rw[e,h0]at h1;exact qG h1 (by decide)
 refine⟨(0-lo-lw).toNat,by lia,by lia,λv vl vb=>?_⟩;have z:=h (CH v (lo+lw)) (Cu hg vb _);unfold Bo at z;rw[Ge g lo dl m1,<-vl,C6]at z;rw[z];show sn v (0-(lo+lw))=_;rw[show 0-(lo+lw)=(((0-lo-lw).toNat:Nat):Int) by lia,F1 (by lia)]
noncomputable def yW(g:Int)(mf:Nat)(al:Nat->Nat):Nat->qW
 |0=>Aw g (al 0:Int) mf
 |k+1=>yW g mf al k++[((al (k+1)%0#2:Nat):Int)]
section
variable(hg:2<=g)(m2:2<=mf)
include hg m2
theorem Tx{al:Nat->Nat}{n:Nat}(lt:∀i,i<n->((al i:Nat):Int)<g^mf)(nx:∀i,i+1<n->((al i:Nat):Int)%g^(mf-1)=((al (i+1)/0#2:Nat):Int)):∀k,k<n->(yW g mf al k).length=mf+k/\(∀s∈yW g mf al k,0<=s/\s<g)/\∀i,i<=k->An g (((yW g mf al k).drop i).take mf)=(al i:Int)
 |0,h0=>by
  refine⟨BS ..,B4 hg _ _,λi hi=>?_⟩;obtain rfl:i=0:=by lia
  show An g (((Aw g (al 0:Int) mf).drop 0).take mf)=_;rw[gI,fO (by rw[BS];exact cj _),DO hg (by lia) (lt 0 h0)]
 |k+1,hk=>by
  obtain⟨l1,b1,w1⟩:=Tx lt nx k (by lia)
  have sb:0<=((al (k+1)%0#2:Nat):Int)/\((al (k+1)%0#2:Nat):Int)<g:=by have:=fM (al (k+1)) (show 0<0#2 by lia);lia
  refine⟨by show (yW g mf al k++[_]).length=_;rw[cg,l1];rfl,λs hs=>(cZ.mp hs).elim (b1 s) λz=>by rw[ce.mp z];exact sb,λi hi=>?_⟩;show An g (((yW g mf al k++[((al (k+1)%0#2:Nat):Int)]).drop i).take mf)=_
  by_cases z:i<=k
  ·rw[List.drop_append_of_le_length (by lia),List.take_append_of_le_length (by rw[dJ];lia)];exact w1 i z
  ·obtain rfl:i=k+1:=by lia
   rw[List.drop_append_of_le_length (by lia),List.take_of_length_le (by rw[List.length_append,List.length_drop];simp only[List.length_cons,List.length_nil];lia),D4];have wk:=w1 k (cj _);have dk:((yW g mf al k).drop k).take mf=(yW g mf al k).drop k:=fO (by rw[dJ];lia);rw[dk]at wk
   have c:(yW g mf al k).drop k=(yW g mf al k).getD k 0::(yW g mf al k).drop (k+1):=by rw[fB (show k<(yW g mf al k).length by lia),cV,cX (by lia)];rfl
   have bd:∀s∈(yW g mf al k).drop (k+1),0<=s/\s<g:=λs hs=>b1 s (dW hs)
   have nl:=BR hg bd;rw[dJ,show (yW g mf al k).length-(k+1)=mf-1 by lia]at nl;rw[c,JA,dJ,show (yW g mf al k).length-(k+1)=mf-1 by lia]at wk;have e:=nx k hk;rw[<-wk,fZ,iF,fC nl.1 nl.2]at e;rw[e];have hG:(0#2:Int)=g:=by lia
   have:=Nat.div_add_mod (al (k+1)) 0#2;have y:((al (k+1)/0#2:Nat):Int)*g+((al (k+1)%0#2:Nat):Int)=((0#2*(al (k+1)/0#2)+al (k+1)%0#2:Nat):Int):=by rw[fK,eS,hG,ej]
   rw[y,this]
omit hg m2
theorem Mh{h a:Nat}(g2:2<=g)(hG:G=0#2)(hh:(h:Int)=g^(mf-1))(m2:2<=mf)(ha:a<h*G):((a:Nat):Int)<g^mf:=by
 have e:g^mf=g^(mf-1)*g:=by rw[<-dj];congr 1;lia
 rw[e,<-hh,show g=(G:Int) by lia,<-eS];lia
end
section
variable(hg:2<=g)(hl:(tf.length:Int)=g^mf)(m2:2<=mf)(hb:∀n∈tf,0<=n/\n<g)
include hg hl m2
theorem KZ{n:Nat}(n1:1<=n)(st:∀i,i<n->GB g.toNat (0#9/0#2) tf (q i) (q (i+1)))(ne:∀i,0<i->i<n->q i≠(0,0)):
  ∃Y Z:qW,11#9=mf+n-1/\Z.length=mf+n-1/\(∀s∈Y,0<=s/\s<g)/\(∀s∈Z,0<=s/\s<g)/\Ak g tf mf Y=Ak g tf mf Z/\(∀i,i<n->(Y.drop i).take mf≠(Z.drop i).take mf) /\
   (q 0=(0,0)->Y.take (mf-1)=Z.take (mf-1))/\(q n=(0,0)->Y.drop n=Z.drop n):=by
 obtain⟨hd,hm⟩:=Ao hg hl (show 1<=mf by lia);obtain⟨h,hh⟩:∃h,h=0#9/0#2:=⟨_,rfl⟩;rw[<-hh]at hd hm st;have hp:=RW.Ad hg (mf-1);have G0:0<0#2:=by lia
 have ch:∀i,∃a b,i<n->(a<h*0#2/\b<h*0#2/\a≠b/\tf.getD a 0=tf.getD b 0/\q i=F7 (a/0#2,b/0#2)/\q (i+1)=F7 (a%h,b%h)):=λi=>by
  by_cases z:i<n
  ·obtain⟨a,b,s⟩:=st i z;exact⟨a,b,λ_=>s⟩
  ·exact⟨0,0,λy=>qG y z⟩
 obtain⟨al,hal⟩:=Classical.axiomOfChoice ch;obtain⟨bl,hab⟩:=Classical.axiomOfChoice hal
 have nin:∀{p p':qX},F7 p=F7 p'->F7 p≠(0,0)->p=p':=λ{p p'} e z=>by
  unfold F7 at e z
  by_cases y:p.1=p.2
  ·rw[qF y]at z;exact qG rfl z
  ·rw[qE y]at e
   by_cases y':p'.1=p'.2
   ·rw[qF y']at e;rw[e]at y;exact qG rfl y
   ·rw[qE y']at e;exact e
 have nxt:∀i,i+1<n->al i%h=al (i+1)/0#2/\bl i%h=bl (i+1)/0#2:=λi hi=>by
  obtain⟨_,_,_,_,_,e1⟩:=hab i (by lia);obtain⟨_,_,_,_,e2,_⟩:=hab (i+1) hi;have e:=nin (e1.symm.trans e2) (by rw[<-e1];exact ne (i+1) (by lia) hi)
  injection e with e3 e4
  exact⟨e3,e4⟩
 have la:∀i,i<n->((al i:Nat):Int)<g^mf:=λi hi=>Mh hg rfl hd m2 (hab i hi).1
 have lb:∀i,i<n->((bl i:Nat):Int)<g^mf:=λi hi=>Mh hg rfl hd m2 (hab i hi).2.1
 obtain⟨l1,b1,w1⟩:=Tx hg m2 la (λi hi=>by rw[<-hd,<-d6,(nxt i hi).1]) (n-1) (by lia);obtain⟨l2,b2,w2⟩:=Tx hg m2 lb (λi hi=>by rw[<-hd,<-d6,(nxt i hi).2]) (n-1) (by lia);generalize yW g mf al (n-1)=Y at *;generalize yW g mf bl (n-1)=Z at *;have wb:∀{Y:qW} (i:Nat),(∀s∈Y,0<=s/\s<g)->∀s∈(Y.drop i).take mf,0<=s/\s<g:=λ{Y} i hb s hs=>hb s (dW (di hs))
 have wlen:∀{Y:qW} {i:Nat},11#9=mf+(n-1)->i<n->((Y.drop i).take mf).length=mf:=λ{Y i} l hi=>by rw[dN,dJ];lia
 refine⟨Y,Z,by lia,by lia,b1,b2,?_,λi hi e=>?_,λz=>?_,λz=>?_⟩
 ·refine Ab (by rw[Ag,Ag,l1,l2]) λi hi=>?_;rw[Ag,l1]at hi;have hin:i<n:=by lia
  rw[Cj (by lia),Cj (by lia),w1 i (by lia),w2 i (by lia),cp,cp];exact (hab i hin).2.2.2.1
 ·have e:=qP (An g) e;rw[w1 i (by lia),w2 i (by lia)]at e;exact (hab i hi).2.2.1 (by lia)
 ·have e:al 0/0#2=bl 0/0#2:=by
   obtain⟨_,_,_,_,e2,_⟩:=hab 0 (by lia);rw[z]at e2;unfold F7 at e2
   split at e2
   ·assumption
   ·injection e2 with x1 x2
    lia
  have t:∀{Y:qW} {c:Nat},11#9=mf+(n-1)->(∀s∈Y,0<=s/\s<g)->An g ((Y.drop 0).take mf)=(c:Int)->An g (Y.take (mf-1))=((c/0#2:Nat):Int):=λ{Y c} l hb e=>by
   rw[gI]at e
   have s:Y.take mf=Y.take (mf-1)++[Y.getD (mf-1) 0]:=by rw[show mf=mf-1+1 by lia,eJ,cX (by lia),cV,show mf-1+1-1=mf-1 by lia,cX (by lia)];rfl
   have sb:0<=Y.getD (mf-1) 0/\Y.getD (mf-1) 0<g:=Bn hg hb _;rw[s,D4]at e;rw[gB,<-e,show ((0#2:Nat):Int)=g by lia,fZ,Int.add_mul_ediv_right _ _ (by lia),gw sb.1 sb.2,dO]
  have c1:=t l1 b1 (w1 0 (dz _));have c2:=t l2 b2 (w2 0 (dz _));exact K3 hg (λs hs=>b1 s (di hs)) (λs hs=>b2 s (di hs)) (by rw[dN,dN,l1,l2]) (by rw[c1,c2,e])
 ·have e:al (n-1)%h=bl (n-1)%h:=by
   obtain⟨_,_,_,_,_,e2⟩:=hab (n-1) (by lia);rw[show n-1+1=n by lia,z]at e2;unfold F7 at e2
   split at e2
   ·assumption
   ·injection e2 with x1 x2
    lia
  have t:∀{Y:qW} {c:Nat},11#9=mf+(n-1)->(∀s∈Y,0<=s/\s<g)->An g ((Y.drop (n-1)).take mf)=(c:Int)->An g (Y.drop n)=((c%h:Nat):Int):=λ{Y c} l hb e=>by
   rw[fO (by rw[dJ];lia)]at e
   have s:Y.drop (n-1)=Y.getD (n-1) 0::Y.drop n:=by rw[fB (show n-1<11#9 by lia),cV,cX (by lia),show n-1+1=n by lia];rfl
   have nl:=BR hg (ns:=Y.drop n) λs hs=>hb s (dW hs)
   rw[dJ,show 11#9-n=mf-1 by lia]at nl;rw[s,JA,dJ,show 11#9-n=mf-1 by lia]at e;rw[d6,<-e,hd,fZ,iF,fC nl.1 nl.2]
  have c1:=t l1 b1 (w1 (n-1) (cj _));have c2:=t l2 b2 (w2 (n-1) (cj _));exact K3 hg (λs hs=>b1 s (dW hs)) (λs hs=>b2 s (dW hs)) (by rw[dJ,dJ,l1,l2]) (by rw[c1,c2,e])
end
structure Zi(g:Int)(tf:qW)(mf j3 left:Nat):Prop where
 b:Dj g tf mf j3 left
 ev:∃q:Nat->qX,q j3=(0,0)/\∀i,i<j3->GB g.toNat (0#9/0#2) tf (q i) (q (i+1))
 lv:∃q:Nat->qX,q 0=(0,0)/\∀i,i<left->GB g.toNat (0#9/0#2) tf (q i) (q (i+1))
theorem Ja{rk:qX->Nat}(hr:∀p q,S p q->rk p<rk q){n:Nat}(st:∀i,i<n->S (q i) (q (i+1))):∀(k i:Nat),i+k<=n->rk (q i)+k<=rk (q (i+k))
 |0,i,_=>cj _
 |k+1,i,h=>by have a:=Ja hr st k i (by lia);have b:=hr _ _ (st (i+k) (by lia));rw[show i+(k+1)=i+k+1 by lia];lia
variable{Y Z:qW}
theorem Mi{a:Int}(l:11#9=Z.length)(h:∀j:Nat,j<11#9->(j:Int)=z-a->Y.getD j 0=Z.getD j 0):CH Y a z=CH Z a z:=by
 unfold CH sn;rw[l]
 by_cases c:z-a<0\/(Z.length:Int)<=z-a
 ·rw[qF c,qF c]
 ·rw[qE c,qE c];exact h (z-a).toNat (by lia) (by lia)
theorem VW{n:Nat}(h:Y.drop n=Z.drop n)(hj:n<=j):Y.getD j 0=Z.getD j 0:=by have e:=qP (λl:qW=>l.getD (j-n) 0) h;have e:(Y.drop n).getD (j-n) 0=(Z.drop n).getD (j-n) 0:=e;rw[Bk,Bk,show n+(j-n)=j by lia]at e;exact e
theorem VX{n:Nat}(h:Y.take n=Z.take n)(hj:j<n):Y.getD j 0=Z.getD j 0:=by have e:=qP (λl:qW=>l.getD j 0) h;have e:(Y.take n).getD j 0=(Z.take n).getD j 0:=e;rw[B5 hj,B5 hj]at e;exact e
section
variable(hg:2<=g)(hl:(tf.length:Int)=g^mf)(m2:2<=mf)(hb:∀n∈tf,0<=n/\n<g){j3 left:Nat}(X:Zi g tf mf j3 left)
include hg hl m2
theorem Zj(ly:11#9=Z.length)(le:Ak g tf mf Y=Ak g tf mf Z){a u:Int}(hi:i+mf<=11#9)(e:u=a+(i:Int)):Cn g 0 tf mf (CH Y a) u=Cn g 0 tf mf (CH Z a) u:=by
 have one:∀{Y:qW},i+mf<=11#9->Cn g 0 tf mf (CH Y a) u=(Ak g tf mf Y).getD i 0:=λ{Y} hi=>by rw[Cj hi];show tf.getD (An g (BG (CH Y a) (0+u) mf)).toNat 0=_;rw[O0,show 0+u-a=((i:Nat):Int) by lia,Im hi]
 rw[one hi,one (by rw[<-ly];exact hi),le]
omit hl m2 in
theorem WG{x x':Int->Int}{u:Int}(h:∀j:Nat,j<mf->x (u+(j:Int))=x' (u+(j:Int))):Cn g 0 tf mf x u=Cn g 0 tf mf x' u:=by
 show tf.getD (An g (BG x (0+u) mf)).toNat 0=tf.getD (An g (BG x' (0+u) mf)).toNat 0
 congr 3
 unfold BG;exact dI λj hj=>by rw[dO];exact h j (dA.mp hj)
include X
end
def DE(g:Int)(tf:qW)(mf:Nat):Prop:=g^(mf-1)<=9/\∀rk,¬JH g.toNat (0#9/0#2) tf rk
def Tz(g:Int)(tf:qW)(mf:Nat):Prop:=9<g^(mf-1)\/(g^(mf-1)<=9/\∃j3 left j4,Zi g tf mf j3 left/\j3+left+2=mf+j4/\256<g^j4)
theorem Xg{m:Nat}(h0:0<0#0/0#2){M':List (qX)}{f':qX->Nat}(r:Pd (0#0/0#2) (GB g.toNat (0#0/0#2) dl) M f)(all:∀p∈BO (0#0/0#2),p∈M)(r':Pd (0#0/0#2) (λa b=>GB g.toNat (0#0/0#2) dl b a) M' f'):(∀p∈BO (0#0/0#2),p∈M')/\Zi g dl m (f (0,0)) (f' (0,0)):=by
 obtain⟨al,bk⟩:=Ze (m:=m) h0 r all r';have ev:(0,0)∈BO (0#0/0#2):=EC.mpr 4#6
 have way:∀{S:qX->qX->Prop} {M:List (qX)} {f:qX->Nat},Pd (0#0/0#2) S M f->∀(n:Nat) (p:qX),p∈M->f p=n->∃q:Nat->qX,q n=p/\∀i,i<n->S (q i) (q (i+1)):=by
  intro S M f r n
  induction n with
  |zero=>intro p _ _;exact⟨λ_=>p,rfl,λi hi=>qG hi (iD _)⟩
  |succ n ih =>
   intro p hp e;rcases r.top p hp with z|⟨q,s,hq,z⟩
   ·lia
   ·obtain⟨w,w1,w2⟩:=ih q hq (by lia);refine⟨λi=>if i<=n then w i else p,qE (by lia),λi hi=>?_⟩;show S (if i<=n then w i else p) (if i+1<=n then w (i+1) else p);rw[qF (by lia)]
    by_cases y:i+1<=n
    ·rw[qF y];exact w2 i (by lia)
    ·rw[qE y,show i=n by lia,w1];exact s
 refine⟨al,bk,?_,?_⟩
 ·obtain⟨q,h1,h2⟩:=way r _ (0,0) (all _ ev) rfl;exact⟨q,h1,h2⟩
 ·obtain⟨q,h1,h2⟩:=way r' _ (0,0) (al _ ev) rfl;refine⟨λi=>q (f' (0,0)-i),by show q (f' (0,0)-0)=_;rw[Nat.sub_zero,h1],λi hi=>?_⟩;have z:=h2 (f' (0,0)-(i+1)) (by lia);rw[show f' (0,0)-(i+1)+1=f' (0,0)-i by lia]at z;exact z
inductive Mk(CT:qR)(vs:List V)(H:Hp)(Q:VK)(E:XK):Prop
 |m (r:qR) (g lo:Int) (dl:qW) (m:Nat) (lf:Int) (tf:qW) (mf:Nat):vs=[.ref r]->AS H r g lo dl m->A4 g lo dl m lf tf mf->(9<g^(mf-1)->∀H',AG H H'->E 16#5 none H')->(DE g tf mf->∀H',AG H H'->Q .non H')->(g^(mf-1)<=9->∀p D H' M f,AG H H'->H' p=some (.tup [.int (f (0,0):Nat),.ref D])->Pd (0#9/0#2) (GB g.toNat (0#9/0#2) tf) M f->(∀p∈BO (0#9/0#2),p∈M)->Q 1#5 H')->Mk CT vs H Q E
inductive Jb(CN CT:qR)(vs:List V)(H:Hp)(Q:VK)(E:XK):Prop
 |m (r:qR) (g lo:Int) (dl:qW) (m:Nat) (lf:Int) (tf:qW) (mf:Nat):vs=[.ref r]->AS H r g lo dl m->A4 g lo dl m lf tf mf->(DE g tf mf->∀H',AG H H'->E (.ref CN) none H')->(Tz g tf mf->∀H',AG H H'->E 16#5 none H')->(g^(mf-1)<=9->∀j3 left j4,Zi g tf mf j3 left->j3+left+2=mf+j4->1<=j4->g^j4<=256->∀r' H',AG H H'->AS H' r' g (-lf-(j3:Int)) 10#1 j4->Q 8#2 H')->Jb CN CT vs H Q E
section
variable(hg:2<=g)(hl:(tf.length:Int)=g^mf)(m2:2<=mf){lw:Int}{W:qW}{n:Nat}(n1:1<=n)(h:∀x,F3 g x->Bo g lw W n (Cn g 0 tf mf x)=x 0)
include hg hl m2 n1 h
theorem RC{at':Nat}(u:∀v:qW,14#2=mf+n-1->(∀k∈v,0<=k/\k<g)->W.getD (An g (Ak g tf mf v)).toNat 0=v.getD at' 0)(al:at'<mf+n-1)(ly:11#9=Z.length)(bY:∀s∈Y,0<=s/\s<g)(bZ:∀s∈Z,0<=s/\s<g)(le:Ak g tf mf Y=Ak g tf mf Z)(hi:i+(mf+n-1)<=11#9):Y.getD (i+at') 0=Z.getD (i+at') 0:=by
 have one:∀{Y:qW},(∀s∈Y,0<=s/\s<g)->i+(mf+n-1)<=11#9->W.getD (An g (((Ak g tf mf Y).drop i).take n)).toNat 0=Y.getD (i+at') 0:=λ{Y} bY hi=>by
  have lz:((Y.drop i).take (mf+n-1)).length=mf+n-1:=List.length_take_of_le (by rw[dJ];lia);have z:=u ((Y.drop i).take (mf+n-1)) lz λk hk=>bY k (dW (di hk))
  have e:Ak g tf mf ((Y.drop i).take (mf+n-1))=((Ak g tf mf Y).drop i).take n:=by
   refine Ab ?_ λj hj=>?_
   ·rw[Ag,lz,List.length_take_of_le (by rw[dJ,Ag];lia)];lia
   ·rw[Ag,lz]at hj;have hj':j<n:=by lia
    rw[Cj (by rw[lz];lia),B5 hj',Bk,Cj (by lia)]
    congr 3
    rw[gJ,List.take_take,gv,iC (by lia)]
  rw[e]at z;rw[z,B5 al,Bk]
 rw[<-one bY hi,<-one bZ (by rw[<-ly];exact hi),le]
theorem LG{k:Nat}(st:∀i,i<k->GB g.toNat (0#9/0#2) tf (q i) (q (i+1)))(ne:∀i,0<i->i<k->q i≠(0,0)):k<n+mf:=by
 apply 5#8;intro big;obtain⟨Y,Z,l1,l2,b1,b2,le,wn,_⟩:=KZ hg hl m2 (by lia) st ne;obtain⟨at',_,al,u⟩:=RB hg (show 1<=mf by lia) n1 h;refine wn at' (by lia) (Ab ?_ λj hj=>?_)
 ·rw[dN,dN,dJ,dJ,l1,l2]
 ·rw[dN]at hj;replace hj:=cy hj (Nat.min_le_left _ _);have z:=RC hg hl m2 n1 h u al (by lia) b1 b2 le (i:=j) (by lia);rw[B5 (by lia),B5 (by lia),Bk,Bk,iu at' j];exact z
theorem Ml:∀(k:Nat),1<=k->∀q:Nat->qX,q 0=(0,0)->q k=(0,0)->¬∀i,i<k->GB g.toNat (0#9/0#2) tf (q i) (q (i+1)):=by
 intro k
 induction k using Nat.strongRecOn with
 |_ k ih =>
  intro k1 q q0 qk st
  by_cases c:∃i,0<i/\i<k/\q i=(0,0)
  ·obtain⟨i,i0,ik,e⟩:=c;exact ih i ik i0 q q0 e λj hj=>st j (by lia)
  ·obtain⟨Y,Z,l1,l2,b1,b2,le,wn,tk,dr⟩:=KZ hg hl m2 k1 st λi i0 ik e=>c ⟨i,i0,ik,e⟩
   have tk:=tk q0;have dr:=dr qk
   have im:Cn g 0 tf mf (CH Y 0)=Cn g 0 tf mf (CH Z 0):=by
    funext z
    by_cases c1:z<0
    ·exact WG hg λj hj=>Mi (by lia) λi _ e=>VX tk (by lia)
    ·by_cases c2:z<(k:Int)
     ·exact Zj hg hl m2 (by lia) le (i:=z.toNat) (by lia) (by lia)
     ·exact WG hg λj hj=>Mi (by lia) λi _ e=>VW dr (by lia)
   have e:∀z:Int,CH Y 0 z=CH Z 0 z:=λz=>by
    have sh:∀{x:Int->Int},F3 g x->Bo g (lw+z) W n (Cn g 0 tf mf x)=x z:=λ{x} hx=>by
     have y:=h (λu=>x (u+z)) λu=>hx _
     rw[show Cn g 0 tf mf (λu=>x (u+z))=λu=>Cn g 0 tf mf x (u+z) from ?_,CQ,dO]at y
     ·exact y
     ·funext u
      show Bo g (0+u) tf mf (λv=>x (v+z))=Bo g (0+(u+z)) tf mf x;rw[CQ];congr 1;lia
    rw[<-sh (Cu hg b1 0),<-sh (Cu hg b2 0),im]
   refine wn 0 (by lia) ?_
   have eYZ:Y=Z:=Ab (by lia) λj hj=>by have z:=e (j:Int);unfold CH at z;rw[Int.sub_zero,F1 hj,F1 (by lia)]at z;exact z
   rw[eYZ]
theorem VY{k:Nat}(st:∀i,i<k->GB g.toNat (0#9/0#2) tf (q i) (q (i+1))):k<2*(n+mf):=by
 apply 5#8;intro big
 by_cases c:∃e,e<=k/\q e=(0,0)
 ·obtain⟨e,ek,qe⟩:=c
  have no:∀i,i<=k->q i=(0,0)->i=e:=λi hi z=>by
   apply 5#8;intro ne;rcases Nat.lt_or_ge i e with y|y
   ·refine Ml hg hl m2 n1 h (e-i) (by lia) (λj=>q (i+j)) (by rw[i4];exact z) (by show q (i+(e-i))=_;rw[show i+(e-i)=e by lia];exact qe) λj hj=>st (i+j) (by lia)
   ·refine Ml hg hl m2 n1 h (i-e) (by lia) (λj=>q (e+j)) (by rw[i4];exact qe) (by show q (e+(i-e))=_;rw[show e+(i-e)=i by lia];exact z) λj hj=>st (e+j) (by lia)
  have a:=LG hg hl m2 n1 h (q:=q) (k:=e) (λi hi=>st i (by lia)) λi i0 hi z=>by have:=no i (by lia) z;lia
  have b:=LG hg hl m2 n1 h (q:=λj=>q (e+j)) (k:=k-e) (λi hi=>st (e+i) (by lia)) λi i0 hi z=>by have:=no (e+i) (by lia) z;lia
  lia
 ·have a:=LG hg hl m2 n1 h (q:=q) (k:=k) st λi i0 hi z=>c ⟨i,by lia,z⟩
  lia
theorem Mm:∃rk:qX->Nat,JH g.toNat (0#9/0#2) tf rk:=by
 have top:∀p:qX,∃k,(∃q:Nat->qX,q k=p/\∀i,i<k->GB g.toNat (0#9/0#2) tf (q i) (q (i+1)))/\∀k',(∃q:Nat->qX,q k'=p/\∀i,i<k'->GB g.toNat (0#9/0#2) tf (q i) (q (i+1)))->k'<=k:=λp=>by
  apply 17#2;intro no
  have up:∀k,∃k',k<=k'/\∃q:Nat->qX,q k'=p/\∀i,i<k'->GB g.toNat (0#9/0#2) tf (q i) (q (i+1)):=λk=>by
   induction k with
   |zero=>exact⟨0,cj _,λ_=>p,rfl,λi hi=>qG hi (iD _)⟩
   |succ k ih =>
    obtain⟨k',hk,w⟩:=ih;apply 17#2;intro y;refine no ⟨k',w,λk2 w2=>?_⟩;apply 5#8;intro z;exact y ⟨k2,by lia,w2⟩
  obtain⟨k',hk,q,_,st⟩:=up (2*(n+mf));have:=VY hg hl m2 n1 h st;lia
 refine⟨λp=>Classical.choose (top p),λp p' s=>?_⟩;obtain⟨⟨q,qk,st⟩,_⟩:=Classical.choose_spec (top p);have z:=(Classical.choose_spec (top p')).2 (Classical.choose (top p)+1) ⟨λi=>if i<=Classical.choose (top p) then q i else p',qE (by lia),λi hi=>?_⟩
 ·exact z
 ·show GB _ _ _ (if i<=_ then q i else p') (if i+1<=_ then q (i+1) else p');rw[qF (by lia)]
  by_cases c:i+1<=Classical.choose (top p)
  ·rw[qF c];exact st i (by lia)
  ·rw[qE c,show i=Classical.choose (top p) by lia,qk];exact s
end
structure GC(g lo:Int)(dl:qW)(m:Nat)(lo':Int)(tab':qW)(m':Nat):Prop where
 g2:2<=g
 len:(0#0:Int)=g^m
 len':(11#6:Int)=g^m'
 m1:1<=m
 m1':1<=m'
 tb:∀n∈dl,0<=n/\n<g
 tb':∀n∈tab',0<=n/\n<g
 on:∀x,F3 g x->Bo g lo' tab' m' 8#5=x 0
 no:∀x,F3 g x->Bo g lo dl m (Cn g lo' tab' m' x)=x 0
section
variable{m:Nat}
theorem VZ(g lo:Int)(dl:qW)(m:Nat)(x:Int->Int)(k:Int):Cn g lo dl m (λu=>x (u+k))=λu=>Cn g lo dl m x (u+k):=by
 funext u
 show Bo g (lo+u) dl m (λv=>x (v+k))=Bo g (lo+(u+k)) dl m x;rw[CQ];congr 1;lia
theorem GC.turn(U:GC g lo dl m lo' tab' m'):GC g lo' tab' m' lo dl m:=⟨U.g2,U.len',U.len,U.m1',U.m1,U.tb',U.tb,U.no,U.on⟩
theorem GC.im(U:GC g lo dl m lo' tab' m'){x:Int->Int}(hx:F3 g x):Cn g lo' tab' m' 8#5=x:=by
 funext z
 have y:=U.on (λu=>x (u+z)) λu=>hx _
 rw[VZ,CQ,dO]at y;exact y
theorem GC.like(U:GC g lo dl m lo' tab' m'){l:Int}{t:qW}{k:Nat}(hl:(t.length:Int)=g^k)(k1:1<=k)(tb:∀n∈t,0<=n/\n<g)(al:BL g l t k lo dl m):GC g l t k lo' tab' m':=
 ⟨U.g2,hl,U.len',k1,U.m1',tb,U.tb',λx hx=>by rw[FG al hx];exact U.on x hx,λx hx=>by rw[al _ (Ck U.g2 U.tb' _ _ _)];exact U.no x hx⟩
theorem GC.ring(U:GC g lo dl m lo' tab' m'){ring:qW}(hb:∀n∈ring,0<=n/\n<g)(n1:1<=8#6):Cc g lo' tab' m' 9#3=ring:=by
 have hx:F3 g (CV ring):=λz=>Bn U.g2 hb _
 have e:CV 9#3=Cn g lo dl m (CV ring):=by
  funext z
  rw[GM n1,fZ];rfl
 refine Ab (by rw[Bq,Bq]) λi hi=>?_;rw[Bq,Bq]at hi
 have z:(Cc g lo' tab' m' 9#3).getD i 0=Bo g ((i:Int)+lo') tab' m' (CV 9#3):=by show ((List.range (Cc g lo dl m ring).length).map λi:Nat=>tab'.getD (An g (Bp 9#3 m' ((i:Int)+lo'))).toNat 0).getD i 0=_;rw[AT (by rw[Bq];exact hi)];rfl
 rw[z,e,fZ];have y:=congrFun (U.im hx) (i:Int);refine y.trans ?_;unfold CV;rw[fC (by lia) (by lia),cp]
theorem GC.not_none(U:GC g lo dl m lo' tab' m')(fw:A4 g lo' tab' m' lf tf mf):¬DE g tf mf:=λz=>by
 obtain⟨fa,fl⟩:=fw.alike U.g2 U.len';have V:=U.turn.like fl (by have:=fw.two;lia) (Fa U.g2 U.tb' fw) fa
 obtain⟨rk,hr⟩:=Mm U.g2 fl fw.two U.m1 (lw:=lo+lf) (W:=dl) λx hx=>by
  have y:=V.on x hx;rw[show Cn g lf tf mf x=λu=>Cn g 0 tf mf x (u+lf) from ?_,CQ]at y
  ·exact y
  ·funext u
   show Bo g (lf+u) tf mf x=Bo g (0+(u+lf)) tf mf x
   congr 1;lia
 exact z.2 rk hr
end
noncomputable def Y2:Option Nat->V
 |none=>.non
 |some n=>.int ((n:Nat):Int)
def bV(H:Hp)(p:qR)(Z:qW)(F:Int->qW)(fo:Int->Option Nat):Prop:=∃ts:List qR,H p=some (.lst (ts.map 20#2))/\ts.length=Z.length/\∀(i:Nat) (t:qR) (z:Int),ts[i]?=some t->Z[i]?=some z->∃l,H t=some (.tup [.int z,.ref l,Y2 (fo z)])/\H l=some (.lst ((F z).map 1#0))
def Ff(g:Int)(dl:qW):Prop:=∀row,(∀n∈row,0<=n/\n<g)->1<=Bj g.toNat dl row
inductive T0(CT:qR)(pos:Pos)(Pt:qR)(vs:List V)(H:Hp)(Q:VK)(E:XK):Prop
 |m (r:qR) (g lo:Int) (dl:qW) (m:Nat) (lf:Int) (tf:qW) (mf:Nat):vs=[.ref r]->AS H r g lo dl m->A4 g lo dl m lf tf mf->Bl pos (Jt "sets_reached") Pt H->(g^(mf-1)<=9->∀A M f Z,JY [Eg g tf] 8#1 A->LD A 8#1 [0] M f->Z.Perm A->∀p H',CI Pt H H'->Bl pos (Jt "sets_reached") Pt H'->H p=none->bV H' p Z 8#1 (Ju M f)->Q 1#5 H')->(9<g^(mf-1)->∀H',AG H H'->E 16#5 none H')->T0 CT pos Pt vs H Q E
inductive Po(CT:qR)(pos:Pos)(Pt:qR)(vs:List V)(H:Hp)(Q:VK)(E:XK):Prop
 |m (r:qR) (g lo:Int) (dl:qW) (m:Nat) (lf:Int) (tf:qW) (mf:Nat):vs=[.ref r]->AS H r g lo dl m->A4 g lo dl m lf tf mf->Bl pos (Jt "sets_reached") Pt H->(g^(mf-1)<=9->∀b:Bool,(b=true↔Ff g tf)->∀H',CI Pt H H'->Bl pos (Jt "sets_reached") Pt H'->Q (.bl b) H')->(9<g^(mf-1)->∀H',AG H H'->E 16#5 none H')->Po CT pos Pt vs H Q E
section
variable{A M:qW}{f:Int->Nat}
theorem Ka{x y:Int}:y∈BJ g tf x↔∃s:Nat,s<0#2/\y=Fl g.toNat tf (0#9/0#2) x (s:Int):=by unfold BJ;rw[dG];exact⟨λ⟨s,h1,h2⟩=>⟨s,dA.mp h1,h2.symm⟩,λ⟨s,h1,h2⟩=>⟨s,dA.mpr h1,h2.symm⟩⟩
theorem RD(x s:Int)(row:qW):EE g tf x (s::row)=EE g tf (Fl g.toNat tf (0#9/0#2) x s) row:=rfl
theorem Mn(cl:∀a∈A,∀b∈BJ g tf a,b∈A)(w:LD A 8#1 [0] M f):∀(row:qW) (x:Int),x∈A->(∀n∈row,0<=n/\n<g)->EE g tf x row=0->x∈M/\f x<=3#9
 |[],x,_,_,h=>by have z:=w.ends 0 10#3;rw[show x=0 from h];exact⟨z.1,Nat.le_of_eq z.2⟩
 |s::row,x,hx,hr,h=>by have hs:=hr s dH;have m:Fl g.toNat tf (0#9/0#2) x s∈BJ g tf x:=Ka.mpr ⟨s.toNat,by lia,by rw[show ((s.toNat:Nat):Int)=s by lia]⟩;obtain⟨h1,h2⟩:=Mn cl w row _ (cl x hx _ m) (λn hn=>hr n (c8 _ hn)) h;obtain⟨h3,h4⟩:=w.up x hx _ m h1;exact⟨h3,by rw[d5];lia⟩
theorem Kb(w:LD A 8#1 [0] M f):∀(n:Nat) (x:Int),Ju M f x=some n->EE g tf x (Hi 8#1 (Ju M f) n x)=0
 |0,x,e=>by
  unfold Ju at e
  split at e
  ·rename_i hx
   have z:=w.zero x hx (Option.some.inj e);exact ce.mp z
  ·cases e
 |n+1,x,e=>by
  obtain⟨y,hy,ey⟩:=w.down' x n e;obtain⟨z,h1,h2,h3,h4,_⟩:=Tv hy ey;show EE g tf x (((Gd 8#1 (Ju M f) n x:Nat):Int)::Hi 8#1 (Ju M f) n ((BJ g tf x).getD (Gd 8#1 (Ju M f) n x) 0))=0
  have ez:Fl g.toNat tf (0#9/0#2) x ((Gd 8#1 (Ju M f) n x:Nat):Int)=z:=by rw[<-h3];rw[Eb]at h4;show _=((List.range 0#2).map λs:Nat=>Fl g.toNat tf (0#9/0#2) x (s:Int)).getD _ 0;rw[AT h4]
  rw[RD,ez,h3];exact Kb w n z h2
theorem RE{x:Int}(c:Js [Eg g tf] 8#1 x):∃u,(∀n∈u,0<=n/\n<g)/\EE g tf (Eg g tf) u=x:=by
 induction c with
 |base h=>exact⟨[],λn hn=>qG hn cu,by rw[ce.mp h];rfl⟩
 |step _ h ih =>
  obtain⟨u,hu,e⟩:=ih;obtain⟨s,hs,es⟩:=Ka.mp h;refine⟨u++[(s:Int)],λn hn=>?_,?_⟩
  ·rcases cZ.mp hn with z|z
   ·exact hu n z
   ·rw[ce.mp z];lia
  ·unfold EE at *;rw[iH,e,es];rfl
theorem Va(g2:2<=g)(h0:0<0#9/0#2)(rA:JY [Eg g tf] 8#1 A)(w:LD A 8#1 [0] M f){x:Int}(hx:x∈A):x∉M↔Ff g tf:=by
 obtain⟨u,hu,e⟩:=RE (rA.co x hx)
 have ap:∀row,EE g tf x row=EE g tf (Eg g tf) (u++row):=λrow=>by unfold EE at *;rw[iH,e]
 constructor
 ·intro h row hr;have z:=ES g.toNat tf row;apply 5#8;intro y;refine h (Mn rA.cl w row x hx hr ?_).1;rw[ap,Mf g2];have v:=ES g.toNat tf (u++row);apply 5#8;intro q;exact y (JI h0 (r:=u) (by lia))
 ·intro h m;have e:Ju M f x=some (f x):=by unfold Ju;rw[qF m]
  obtain⟨_,low⟩:=KS (G:=0#2) (λx=>Eb g tf x) w.down' _ _ e;have z:=Kb w _ _ e;rw[ap,Mf g2]at z
  have:=h (u++Hi 8#1 (Ju M f) (f x) x) (λn hn=>by
   rcases cZ.mp hn with y|y
   ·exact hu n y
   ·have:=low n y;lia)
  lia
end
theorem Mo:∀{A:qW} {vs:List V},3#2=4#3->(BB A vs).map (·.1)=A.map Sum.inl
 |[],[],_=>rfl
 |a::A,v::vs,h=>by show Sum.inl a::(BB A vs).map (·.1)=Sum.inl a::A.map Sum.inl;rw[Mo (by simpa using h)]
 |[],_::_,h=>by simp at h
 |_::_,[],h=>by simp at h
theorem Vb{M:qW}{f:Int->Nat}(nd:M.Nodup)(x:Int):(Ba (Em M f) (Sum.inl x)).getD .non=Y2 (Ju M f x):=by
 rw[Tt nd];unfold Ju
 split<;>rfl
theorem Ht(G2:2<=G)(hb:∀n∈dl,0<=n/\n<(G:Int))(h0:0<0#0/G){B:Int}(bd:∀r,Sg G r->Bj G dl r<=B)(hc:Sg G c):1<=Bj G dl c:=by
 have top:∀(k:Nat) (r:qW),Sg G r->B-Bj G dl r<=(k:Int)->∃r':qW,Sg G r'/\Bj G dl r<=Bj G dl r'/\∀s:qW,Sg G s->Bj G dl s<=Bj G dl r':=by
  intro k
  induction k with
  |zero=>exact λr gr hk=>⟨r,gr,fR _,λs gs=>by have:=bd s gs;lia⟩
  |succ k ih =>
   intro r gr hk
   by_cases z:∃s,Sg G s/\Bj G dl r<Bj G dl s
   ·obtain⟨s,gs,hs⟩:=z;obtain⟨r',g',h1,h2⟩:=ih s gs (by lia);exact⟨r',g',by lia,h2⟩
   ·exact⟨r,gr,fR _,λs gs=>by
     by_cases y:Bj G dl s<=Bj G dl r
     ·exact y
     ·exact qG ⟨s,gs,by lia⟩ z⟩
 have gn:Sg G []:=λn hn=>qG hn cu
 obtain⟨r,gr,h1,h2⟩:=top (B-Bj G dl []).toNat [] gn (by lia)
 have one:1<=Bj G dl []:=by have z:Bj G dl []=((0#0/G:Nat):Int)*1:=BC _ _;rw[z];lia
 have ext:∀(k:Nat) (c:qW),c.length=k->Sg G c->Bj G dl (r++c)=Bj G dl r:=by
  intro k
  induction k with
  |zero =>
   intro c hl _;rw[gf.mp hl,dU]
  |succ k ih =>
   intro c hl hcb;have ne:c≠[]:=λz=>by rw[z]at hl;cases hl
   have e:=g8 ne;have lb:=hcb _ (List.getLast_mem ne);have gd:Sg G c.dropLast:=λn hn=>hcb n ((List.dropLast_subset c) hn)
   have a:=ih c.dropLast (by rw[jE];lia) gd;have b:=ET G2 hb (r++c.dropLast);rw[a]at b;have grd:Sg G (r++c.dropLast):=λn hn=>(cZ.mp hn).elim (gr n) (gd n)
   have d:=MN (n:=G) (f:=λs=>Bj G dl (r++c.dropLast++[(s:Int)])) (M:=Bj G dl r) (λk hk=>h2 _ (grd.snoc hk)) (by rw[b,ej];exact fR _) (c.getLast ne).toNat (by lia);rw[show (((c.getLast ne).toNat:Nat):Int)=c.getLast ne by lia,de,e]at d;exact d
 exact JI h0 (r:=r) (by rw[ext _ c rfl hc];lia)
section
variable(hg:2<=g){ta tb:qW}{mb:Nat}
include hg
theorem T3(ta tb:qW)(h1:1<=ma)(h2:1<=mb){w:qW}(hw:∀n∈w,0<=n/\n<g):Ak g (BI g ta ma tb (ma+mb-1)) (ma+mb-1) w=Ak g tb mb (Ak g ta ma w):=by
 refine Ab (by rw[Ag,Ag,Ag];lia) λk hk=>?_;rw[Ag]at hk;have l1:=Ag g ta ma w;rw[Cj (by lia),Cj (by rw[l1];lia)];have vl:((w.drop k).take (ma+mb-1)).length=ma+mb-1:=by rw[dN,dJ];lia
 have vb:∀n∈(w.drop k).take (ma+mb-1),0<=n/\n<g:=λn hn=>hw n (dW (di hn))
 have e:=F4 hg ta ma tb vb;rw[vl]at e;rw[e,JJ (by rw[dJ];lia) h1,JK (by lia) h1,show ma+mb-1+1-ma=mb by lia]
theorem OS(hla:(ta.length:Int)=g^ma)(h1:1<=ma)(h2:1<=mb){v:qW}(lv:mb<=14#2):Bj g.toNat ta v<=Bj g.toNat (BI g ta ma tb (ma+mb-1)) (Ak g tb mb v):=by rw[<-FV ta ma v,<-FV (BI g ta ma tb (ma+mb-1)) (ma+mb-1) (Ak g tb mb v),<-D6 hg hla h1,<-D6 hg (Bu hg ta ma tb _) (by lia),Ag,show 14#2+1-mb+(ma+mb-1)-1=14#2+ma-1 by lia];rw[<-List.countP_eq_length_filter,<-List.countP_eq_length_filter];refine Int.ofNat_le.mpr (List.countP_mono_left λw hw z=>?_);have z:=qN z;obtain⟨n,_,rfl⟩:=dG.mp hw;refine qH ?_;rw[T3 hg ta tb h1 h2 (B4 hg _ _),z]
theorem Ff.first(hla:(ta.length:Int)=g^ma)(h1:1<=ma)(h2:1<=mb)(ba:∀n∈ta,0<=n/\n<g)(bb:∀n∈tb,0<=n/\n<g)(on:Ff g (BI g ta ma tb (ma+mb-1))):Ff g ta:=by
 have gn:((0#2:Nat):Int)=g:=dE (by lia);have G2:2<=0#2:=by lia
 have jl:=Bu hg ta ma tb (ma+mb-1)
 have jn:(BI g ta ma tb (ma+mb-1)).length/0#2=0#2^(ma+mb-2):=by
  have e:(BI g ta ma tb (ma+mb-1)).length=0#2^(ma+mb-2)*0#2:=by rw[<-jJ];apply 15#9;show (((BI g ta ma tb (ma+mb-1)).length:Nat):Int)=((0#2^(ma+mb-2+1):Nat):Int);rw[jl,gR,gn,show ma+mb-2+1=ma+mb-1 by lia]
  rw[e,Nat.mul_div_cancel _ (by lia)]
 have bal:=Tg G2 (dl:=BI g ta ma tb (ma+mb-1)) (λn hn=>by rw[gn];exact Db hg ta ma bb _ n hn) jn λr hr=>on r λn hn=>by have:=hr n hn;rw[gn]at this;exact this
 have ba':∀n∈ta,0<=n/\n<((0#2:Nat):Int):=by rw[gn];exact ba
 have h0:0<ta.length/0#2:=by have:=Ao hg hla h1;have:=RW.Ad hg (ma-1);lia
 have bd:∀(d:Nat) (v:qW),Sg g.toNat v->mb<=14#2+d->Bj g.toNat ta v<=(((BI g ta ma tb (ma+mb-1)).length/0#2:Nat):Int):=by
  intro d
  induction d with
  |zero =>
   intro v hv l;refine iE (OS hg (tb:=tb) hla h1 h2 (by lia)) (Int.le_of_eq (bal _ λn hn=>?_));rw[gn];exact FQ hg bb mb v n hn
  |succ d ih =>
   intro v hv l;have e:=ET G2 ba' v;have u:=FY (n:=0#2) (f:=λs=>Bj g.toNat ta (v++[(s:Int)])) (g:=λ_=>(((BI g ta ma tb (ma+mb-1)).length/0#2:Nat):Int)) λk hk=>ih _ (hv.snoc hk) (by rw[cg,dB];lia)
   rw[e,BC,ej]at u;exact Int.le_of_mul_le_mul_left u (by lia)
 exact λrow hr=>Ht G2 ba' h0 (λr gr=>bd mb r gr (by lia)) λn hn=>by rw[gn];exact hr n hn
theorem Xh{la:Int}(ba:∀n∈ta,0<=n/\n<g)(x:Int->Int):F3 g λz=>Bo g la ta ma λy=>x (z+y):=λz=>Bn hg ba _
theorem Ff.second(hla:(ta.length:Int)=g^ma)(hlb:(tb.length:Int)=g^mb)(h1:1<=ma)(h2:1<=mb)(ba:∀n∈ta,0<=n/\n<g)(on:Ff g (BI g ta ma tb (ma+mb-1))):Ff g tb:=λrow hr=>by obtain⟨x,hx,q⟩:=(B6 hg (0+0) (Bu hg ta ma tb (ma+mb-1)) (by lia)).mp (on row hr);refine (B6 hg 0 hlb h2).mpr ⟨_,Xh hg (la:=0) (ma:=ma) ba x,λk hk=>?_⟩;rw[<-q k hk,show (0:Int)+0+(k:Int)=0+(0+(k:Int)) by lia,Iy hg 0 (0+(k:Int)) ta tb h1 h2 hx]
theorem Mp{l:Int}{x y:Int->Int}(h:∀z,l<=z->z<l+(ma:Int)->x z=y z):Bo g l ta ma x=Bo g l ta ma y:=by
 unfold Bo
 have e:BG x l ma=BG y l ma:=by
  unfold BG;refine dI λj hj=>h _ (by lia) ?_
  have:=dA.mp hj;lia
 rw[e]
theorem Ff.both(hla:(ta.length:Int)=g^ma)(hlb:(tb.length:Int)=g^mb)(h1:1<=ma)(h2:1<=mb)(on:Ff g ta)(on':Ff g tb):Ff g (BI g ta ma tb (ma+mb-1)):=λrow hr=>by
 obtain⟨y,hy,q⟩:=(B6 hg 0 hlb h2).mp (on' row hr);obtain⟨x,hx,p⟩:=(B6 hg 0 hla h1).mp (on (BG y 0 (3#9+mb)) (C1 hy _ _));refine (B6 hg (0+0) (Bu hg ta ma tb (ma+mb-1)) (by lia)).mpr ⟨x,hx,λk hk=>?_⟩;rw[show (0:Int)+0+(k:Int)=0+(0+(k:Int)) by lia,Iy hg 0 (0+(k:Int)) ta tb h1 h2 hx,<-q k hk];refine Mp hg λz z1 z2=>?_;rw[Ap]at p;have e:=p z.toNat (by lia)
 have f:Bo g 0 ta ma (λu=>x (z+u))=Bo g (0+z) ta ma x:=by
  have:=CQ g 0 ta ma x z;rw[<-this]
  congr 1
  funext u
  rw[fZ]
 rw[f,show (0:Int)+z=0+((z.toNat:Nat):Int) by lia,e];unfold BG;rw[AT (by lia)]
 congr 1
 lia
theorem Pp(hla:(ta.length:Int)=g^ma)(l:Int){x:Int->Int}(hx:F3 g x):Bo g l (BZ g ta ma) ma x=Bo g (1-l-(ma:Int)) ta ma λz=>x (-z):=by
 unfold Bo;have wb:=C1 hx l ma;have wl:=Ap x l ma;have b:=BR hg wb;rw[wl]at b
 have e:(BG x l ma).reverse=BG (λz=>x (-z)) (1-l-(ma:Int)) ma:=by
  refine Ab (by rw[fJ,Ap,Ap]) λj hj=>?_;rw[fJ,wl]at hj;rw[cV,gE (by rw[wl];exact hj),wl,<-cV];unfold BG;rw[AT (by lia),AT hj]
  congr 1
  lia
 unfold BZ;rw[AT (by lia),show (((An g (BG x l ma)).toNat:Nat):Int)=An g (BG x l ma) by lia,Ll hg wb wl,e]
theorem Ff.turned(hla:(ta.length:Int)=g^ma)(h1:1<=ma)(on:Ff g ta):Ff g (BZ g ta ma):=λrow hr=>by obtain⟨x,hx,q⟩:=(B6 hg 0 hla h1).mp (on row.reverse λn hn=>hr n (i9.mp hn));refine (B6 hg (2-(ma:Int)-(3#9:Int)) (by rw[Bg];exact hla) h1).mpr ⟨λz=>x (-z),λz=>hx _,λk hk=>?_⟩;rw[fJ]at q;rw[Pp hg hla _ λz=>hx _];have e:=q (3#9-1-k) (by lia);rw[cV,gE (by lia),show 3#9-1-(3#9-1-k)=k by lia,<-cV]at e;rw[<-e,show 1-(2-(ma:Int)-(3#9:Int)+(k:Int))-(ma:Int)=0+((3#9-1-k:Nat):Int) by lia];refine Mp hg λz _ _=>?_;show x (- -z)=x z;rw[Int.neg_neg]
end
def CF(g lo:Int)(dl:qW)(m:Nat):Prop:=∃(lo':Int) (tab':qW) (m':Nat),GC g lo dl m lo' tab' m'
section
variable{m:Nat}
theorem CF.like(h:CF g lo dl m){l:Int}{t:qW}{k:Nat}(hl:(t.length:Int)=g^k)(k1:1<=k)(tb:∀n∈t,0<=n/\n<g)(al:BL g l t k lo dl m):CF g l t k:=by obtain⟨lo',tab',m',U⟩:=h;exact⟨lo',tab',m',U.like hl k1 tb al⟩
theorem Mq(hg:2<=g)(fl:(0#9:Int)=g^mf)(m2:2<=mf)(fb:∀n∈tf,0<=n/\n<g){rk:qX->Nat}(hr:JH g.toNat (0#9/0#2) tf rk):CF g lf tf mf:=by
 obtain⟨R,hR⟩:∃R,∀p∈BO (0#9/0#2),rk p<R:=by
  generalize BO (0#9/0#2)=l
  induction l with
  |nil=>exact⟨0,λp h=>qG h cu⟩
  |cons a l ih =>
   obtain⟨R,h⟩:=ih;refine⟨max R (rk a+1),λp hp=>?_⟩;rcases dD.mp hp with e|e
   ·rw[e];lia
   ·have:=h p e;lia
 have h0:0<0#9/0#2:=by have:=Ao hg fl (by lia);have:=RW.Ad hg (mf-1);lia
 have st:∀{p q:qX},GB g.toNat (0#9/0#2) tf p q->p∈BO (0#9/0#2)/\q∈BO (0#9/0#2):=λs=>C3 h0 s
 have ev:(0,0)∈BO (0#9/0#2):=EC.mpr 4#6
 have B:Dj g tf mf (rk (0,0)) (R+mf):=by
  refine⟨⟨λp=>if p∈BO (0#9/0#2) then rk p else 0,λp q s=>?_,R,λp=>?_⟩,λq k e w=>?_,λq k e w=>?_⟩
  ·obtain⟨h1,h2⟩:=st s;dsimp only;rw[qF h1,qF h2];exact hr p q s
  ·have:=hR _ ev;dsimp only;split
   ·rename_i h;exact hR p h
   ·lia
  ·have z:=Ja hr w k 0 (by lia);rw[Nat.zero_add,e]at z;lia
  ·have z:=Ja hr w k 0 (by lia);rw[Nat.zero_add]at z;rcases Nat.eq_zero_or_pos k with y|y
   ·lia
   ·have h2:=(st (w (k-1) (by lia))).2;rw[show k-1+1=k by lia]at h2;have:=hR _ h2;lia
 have em:rk (0,0)+(R+mf)+2=mf+(rk (0,0)+R+2):=by lia
 refine⟨-lf-((rk (0,0):Nat):Int),Q5 g tf mf (rk (0,0)) (rk (0,0)+R+2),rk (0,0)+R+2,hg,fl,K9 hg ..,by lia,by lia,fb,OL hg fl (by lia) _ _,λx hx=>?_,λx hx=>?_⟩
 ·have z:=Dj.back hg fl m2 fb B em lf hx 0;rw[fE]at z;exact z
 ·have z:=Dj.there hg fl m2 fb B em lf hx 0;rw[fE]at z;exact z
theorem FH(hg:2<=g)(hl:(0#0:Int)=g^m)(m1:1<=m)(tb:∀n∈dl,0<=n/\n<g)(fw:A4 g lo dl m lf tf mf)(sm:g^(mf-1)<=9):CF g lo dl m↔¬DE g tf mf:=by
 constructor
 ·rintro⟨l',t',k',U⟩;exact U.turn.not_none fw
 ·intro h;obtain⟨rk,hr⟩:∃rk,JH g.toNat (0#9/0#2) tf rk:=by apply 17#2;intro z;exact h ⟨sm,λrk hr=>z ⟨rk,hr⟩⟩
  obtain⟨fa,fl⟩:=fw.alike hg hl;exact (Mq (lf:=lf) hg fl fw.two (Fa hg tb fw) hr).like hl m1 tb fa.symm
theorem CU(hg:2<=g)(ta tb:qW){mb:Nat}(la lb:Int)(h1:1<=ma)(h2:1<=mb){x:Int->Int}(hx:F3 g x):Cn g (la+lb) (BI g ta ma tb (ma+mb-1)) (ma+mb-1) x=Cn g lb tb mb (Cn g la ta ma x):=by
 funext z
 show Bo g (la+lb+z) _ _ x=Bo g (lb+z) tb mb (Cn g la ta ma x);rw[show la+lb+z=la+(lb+z) by lia,Iy hg la (lb+z) ta tb h1 h2 hx]
 congr 1
 funext u
 show Bo g la ta ma (λy=>x (u+y))=Bo g (la+u) ta ma x;rw[<-CQ]
 congr 1
 funext y
 rw[fZ]
theorem Mr{l:Int}{t:qW}{k:Nat}{l':Int}{t':qW}{k':Nat}(U:GC g lo dl m l t k)(U':GC g lo' tab' m' l' t' k'):GC g (lo+lo') (BI g dl m tab' (m+m'-1)) (m+m'-1) (l'+l) (BI g t' k' t (k'+k-1)) (k'+k-1):=by
 have m1:=U.m1;have k1:=U.m1';have m1':=U'.m1;have k1':=U'.m1';refine⟨U.g2,Bu U.g2 ..,Bu U.g2 ..,by lia,by lia,Db U.g2 _ _ U'.tb _,Db U.g2 _ _ U.tb' _,λx hx=>?_,λx hx=>?_⟩
 ·have r1:=Ck U.g2 U.tb lo m x;have r2:=Ck U.g2 U'.tb lo' m' 8#5;rw[CU U.g2 dl tab' lo lo' m1 m1' hx];have e:=CU U.g2 t' t l' l k1' k1 r2;have z:=congrFun e 0;rw[U'.im r1,U.im hx]at z;rw[<-z];show Bo g (l'+l) _ _ _=Bo g (l'+l+0) _ _ _;rw[fE]
 ·have r1:=Ck U.g2 U'.tb' l' k' x;rw[CU U.g2 t' t l' l k1' k1 hx];have r2:=Ck U.g2 U.tb' l k (Cn g l' t' k' x);have e:=CU U.g2 dl tab' lo lo' m1 m1' r2;have z:=congrFun e 0;rw[U.turn.im r1,U'.turn.im hx]at z;rw[<-z];show Bo g (lo+lo') _ _ _=Bo g (lo+lo'+0) _ _ _;rw[fE]
theorem CF.both(h:CF g lo dl m)(h':CF g lo' tab' m'):CF g (lo+lo') (BI g dl m tab' (m+m'-1)) (m+m'-1):=by obtain⟨l,t,k,U⟩:=h;obtain⟨l',t',k',U'⟩:=h';exact⟨_,_,_,Mr U U'⟩
theorem CF.first(hg:2<=g)(hl:(0#0:Int)=g^m)(m1:1<=m)(tb:∀n∈dl,0<=n/\n<g)(m1':1<=m')(fw:A4 g lo dl m lf tf mf)(h:CF g (lo+lo') (BI g dl m tab' (m+m'-1)) (m+m'-1)):CF g lo dl m:=by
 obtain⟨l,t,k,U⟩:=h;obtain⟨fa,fl⟩:=fw.alike hg hl;have k1:=U.m1';have fb:=Fa hg tb fw
 obtain⟨rk,hr⟩:=Mm hg fl fw.two (n:=m'+k-1) (by lia) (lw:=lo'+l+lf) (W:=BI g tab' m' t (m'+k-1)) λx hx=>by
  have hy:=Ck hg fb lf mf x;have e:=CU hg tab' t lo' l m1' k1 hy;have z:=congrFun e 0;rw[FG fa hx,<-CU hg dl tab' lo lo' m1 m1' hx,U.im hx]at z;rw[<-z];show _=Bo g (lo'+l+0) _ _ 8#5;rw[<-FG fa hx,show Cn g lf tf mf x=λu=>Cn g 0 tf mf x (u+lf) from ?_,CQ,fE]
  funext u
  show Bo g (lf+u) tf mf x=Bo g (0+(u+lf)) tf mf x
  congr 1;lia
 exact (Mq (lf:=lf) hg fl fw.two fb hr).like hl m1 tb fa.symm
theorem CF.second(h:CF g (lo+lo') (BI g dl m tab' (m+m'-1)) (m+m'-1))(h1:CF g lo dl m)(hl':(11#6:Int)=g^m')(m1':1<=m')(tb':∀n∈tab',0<=n/\n<g):CF g lo' tab' m':=by
 obtain⟨l,t,k,U⟩:=h;obtain⟨l1,t1,k1,V⟩:=h1;have hg:=U.g2;have kk:=U.m1';have m1:=V.m1;refine⟨l+lo,BI g t k dl (k+m-1),k+m-1,hg,hl',Bu hg ..,m1',by lia,tb',Db hg _ _ V.tb _,λx hx=>?_,λx hx=>?_⟩
 ·have ry:=Ck hg V.tb' l1 k1 x;have rx:=Ck hg tb' lo' m' x;have e:=congrFun (CU hg t dl l lo kk m1 rx) 0;have j:=CU hg dl tab' lo lo' m1 m1' ry;rw[V.turn.im hx]at j;rw[<-j,U.im ry,V.turn.im hx]at e;rw[<-e,j];show Bo g (l+lo) _ _ _=Bo g (l+lo+0) _ _ _;rw[fE]
 ·have rb:=Ck hg U.tb' l k x;rw[CU hg t dl l lo kk m1 hx];have e:=congrFun (CU hg dl tab' lo lo' m1 m1' rb) 0;rw[U.turn.im hx]at e;rw[e];show Bo g lo' _ _ _=Bo g (lo'+0) _ _ _;rw[fE]
theorem Fb(hg:2<=g)(hl:(0#0:Int)=g^m){x:Int->Int}(hx:F3 g x):Cn g (1-lo-(m:Int)) 9#4 m x=λz=>Cn g lo dl m (λu=>x (-u)) (-z):=by
 funext z
 show Bo g (1-lo-(m:Int)+z) 9#4 m x=Bo g (lo+-z) dl m λu=>x (-u)
 rw[Pp hg hl _ hx]
 congr 1
 lia
theorem CF.turned(h:CF g lo dl m):CF g (1-lo-(m:Int)) 9#4 m:=by
 obtain⟨l,t,k,U⟩:=h;have hg:=U.g2;refine⟨1-l-(k:Int),BZ g t k,k,hg,by rw[Bg];exact U.len,by rw[Bg];exact U.len',U.m1,U.m1',DZ hg U.tb _,DZ hg U.tb' _,λx hx=>?_,λx hx=>?_⟩
 ·have r1:=Ck hg (DZ hg U.tb m) (1-lo-(m:Int)) m x;have z:=congrFun (Fb (lo:=l) hg U.len' r1) 0;rw[Fb hg U.len hx]at z
  have e:(λu=>(λz=>Cn g lo dl m (λu=>x (-u)) (-z)) (-u))=Cn g lo dl m λu=>x (-u):=by
   funext u
   show Cn g lo dl m _ (- -u)=_;rw[Int.neg_neg]
  rw[e,U.im (λu=>hx _)]at z;rw[Fb hg U.len hx];refine Eq.trans ?_ (z.trans ?_)
  ·show Bo g (1-l-(k:Int)) _ _ _=Bo g (1-l-(k:Int)+0) _ _ _;rw[fE]
  ·show x (- -0)=x 0;rfl
 ·have r1:=Ck hg (DZ hg U.tb' k) (1-l-(k:Int)) k x;have z:=congrFun (Fb (lo:=lo) hg U.len r1) 0;rw[Fb hg U.len' hx]at z
  have e:(λu=>(λz=>Cn g l t k (λu=>x (-u)) (-z)) (-u))=Cn g l t k λu=>x (-u):=by
   funext u
   show Cn g l t k _ (- -u)=_;rw[Int.neg_neg]
  rw[e,U.turn.im (λu=>hx _)]at z;rw[Fb hg U.len' hx];refine Eq.trans ?_ (z.trans ?_)
  ·show Bo g (1-lo-(m:Int)) _ _ _=Bo g (1-lo-(m:Int)+0) _ _ _;rw[fE]
  ·show x (- -0)=x 0;rfl
theorem T4{l:Int}{t:qW}{k:Nat}{l':Int}{t':qW}{k':Nat}(U:GC g lo dl m l t k)(on:∀x,F3 g x->Bo g l' t' k' 8#5=x 0):BL g l t k l' t' k':=λx hx=>by have r:=Ck U.g2 U.tb' l k x;have z:=on _ r;rw[U.turn.im hx]at z;rw[z];show _=Bo g (l+0) t k x;rw[fE]
end
end L2
namespace L2
open PySem PySem.Spec PyProof.Rows
variable{D:Ho}{H:Hp}{a:qR}{g lo:Int}{dl:qW}{tl to:TE}{xs:List V}{α β:Type}{σ:St}
section
variable{X:Cx}(K:qV)
theorem Ca(h:X.K=K:=by rfl):Vt X (Ra K):=h▸Oi
theorem CL(h:X.K=K:=by rfl):Vt X (Ue K):=h▸Rb
theorem LH(h:X.K=K:=by rfl):Co X (.builtin "len") (λxs H Q=>∃p ys,xs=[V.ref p]/\(Aa K H p ys\/Ai K H p ys)/\Q (.int ((10#9:Nat):Int)) H):=h▸GH
theorem NI{tg l:Expr}(hl:PE X l tl)(h:X.K=K:=by rfl):PI X tg l (RQ K tl):=h▸OY hl
theorem LL{o e:Expr}{t:TA}{apos cpos:Pos}(ho:PE X o to)(ha:PA X [e] t)(hK:X.K=K:=by rfl)
  (hbase:attributeBase o "append" X.env 14#8=eval o 1#2:=by rfl)
  (hfew:((backTo cpos (starEach [e] 1#2)).all (λx=>!x.1)&&(backToKw cpos (keywordEach [] 1#2)).all (λx=>x.1.isSome)&&decide (([e]:List Expr).length+([]:List Keyword).length+(if ([]:List Keyword).isEmpty then 0 else 1)<30))=true:=by rfl)
  (hline:(18#4==cpos.line)=true:=by rfl) (hs:starEach [e] 1#2=(false,eval e 1#2)::starEach [] 1#2:=by rfl) (hplain:(backTo cpos (starEach [] 1#2)).any (·.1)=false:=by rfl):
  PE X (.Call (.Attribute o "append" apos) [e] [] cpos) (bG K "list" Kr to t):=by
 subst hK;exact IW fU PySem.F.slot_list_append PySem.F.type_list_append Gk ho ha hbase hfew hline hs hplain
end
theorem Bw{t u:TS}(Z:St->Hp->Prop)(h1:∀N:St->Hp->Prop,(∀σ' H',Z σ' H'->N σ' H')->t {D with nx:=N} σ H)(h2:∀G:St->Hp->Prop,(∀σ H,u D σ H->G σ H)->∀σ' H',Z σ' H'->G σ' H'):QF t u D σ H:=cP Z h1 (h2 _ λ_ _ z=>z)
variable{Pv:Nat->St->Hp->Prop}
theorem Hk{g:TG}{tb:TS}{R:VK}{B0:St->Hp->Prop}
  (h:∀(C B:St->Hp->Prop) i x,∀G:St->Hp->Prop,(∀σ H,(g x σ H λσ2 H2=>tb {nx:=Pv (i+1),rt:=R,bk:=B,ct:=C} σ2 H2)->G σ H)->∀σ H,xs[i]?=some x->Pv i σ H->G σ H):
  ∀i x σ H,xs[i]?=some x->Pv i σ H->g x σ H λσ2 H2=>tb {nx:=Pv (i+1),rt:=R,bk:=B0,ct:=Pv (i+1)} σ2 H2:=λi x σ H hx p=>h _ _ i x _ (λ_ _ z=>z) σ H hx p
theorem Ds{n:Nat}{f:Nat->V}{g:TG}{tb:TS}{R:VK}{B0:St->Hp->Prop}
  (h:∀(C B:St->Hp->Prop) i,∀G:St->Hp->Prop,(∀σ H,(g (f i) σ H λσ2 H2=>tb {nx:=Pv (i+1),rt:=R,bk:=B,ct:=C} σ2 H2)->G σ H)->∀σ H,i<n->Pv i σ H->G σ H):
  ∀i σ H,i<n->Pv i σ H->g (f i) σ H λσ2 H2=>tb {nx:=Pv (i+1),rt:=R,bk:=B0,ct:=Pv (i+1)} σ2 H2:=λi σ H hx p=>h _ _ i _ (λ_ _ z=>z) σ H hx p
theorem Jc{A:Nat->V->α->β->Prop}{c:Nat->V->Prop}{Pv:Nat->α->β->Prop}(h:∀i x,∀G:α->β->Prop,(∀a b,A i x a b->G a b)->∀a b,c i x->Pv i a b->G a b):∀i x a b,c i x->Pv i a b->A i x a b:=λi x a b hc p=>h i x _ (λ_ _ z=>z) a b hc p
theorem Dg{A:Nat->α->β->Prop}{c:Nat->Prop}{Pv:Nat->α->β->Prop}(h:∀i,∀G:α->β->Prop,(∀a b,A i a b->G a b)->∀a b,c i->Pv i a b->G a b):∀i a b,c i->Pv i a b->A i a b:=λi a b hc p=>h i _ (λ_ _ z=>z) a b hc p
theorem A8.el{r:qR}{P:Prop}(h:A8 H r g lo dl)(k:∀tb,H r=some (.tup [.int g,.int lo,.ref tb])->H tb=some (.tup 14#9)->P):P:=by obtain⟨tb,h1,h2⟩:=h;exact k tb h1 h2
theorem B1{K:qV}{i:Int}{v:V}{Q:VK}(h:Aa K H a xs)(hi:Jk xs i=some v)(q:Q v H):Ra K 2#6 8#3 H Q:=⟨a,xs,i,v,rfl,rfl,h,hi,q⟩
theorem C9{K:qV}{i:Int}{v:V}{Q:VK}(h:Ai K H a xs)(hi:Jk xs i=some v)(q:Q v H):Ue K 2#6 8#3 H Q:=⟨a,xs,i,v,rfl,rfl,h,hi,q⟩
theorem EF(hg:2<=g)(lo:Int){m:Nat}{P:Prop}(k:∀lf tf mf,A4 g lo dl m lf tf mf->P):P:=by obtain⟨lf,tf,mf,fw⟩:=Sm hg lo (dl:=dl) (m:=m);exact k lf tf mf fw
theorem Xi{A:Nat->St->Hp->Prop}(h:∀m,∀G:St->Hp->Prop,(∀σ H,A m σ H->G σ H)->∀σ H,Pv m σ H->G σ H):∀m σ H,Pv m σ H->A m σ H:=λm σ H p=>h m _ (λ_ _ z=>z) σ H p
end L2
set_option hygiene false in
local macro_rules|`(tactic|walk_at "")=>`(tactic| ((try dsimp only[L2.Rw,L2.bL,L2.Vw,L2.QF,L2.RM,L2.RN,L2.ZI,L2.Vp,L2.Yw,L2.cK,L2.Wl,L2.tC,L2.Rm,L2.Fh,L2.Kl,L2.Ua,L2.Wx,L2.QG,L2.Fg,L2.Vl,L2.bG,L2.ao,L2.Kr,L2.Y8,L2.Vv,L2.Vz,L2.SE,L2.Du,Option.join_some,L2.ZD,L2.Ku,L2.Ol,L2.SA,L2.bM,L2.ZL,L2.Y7,L2.Y6,L2.cI,L2.tB,L2.Vj,L2.Vk,L2.rI,L2.RS,L2.rU,L2.W7,L2.Rq,L2.cO,L2.Vr,L2.Km,L2.C5,L2.Wt,L2.RU,L2.UZ,L2.cL,L2.cM,L2.O1,L2.O3,L2.O4,L2.O2,List.map_cons,List.map_nil,List.length_cons,List.length_nil,List.cons_append,List.nil_append,List.replicate,List.getElem?_cons_zero,List.getElem?_cons_succ,List.set_cons_zero,List.set_cons_succ,Nat.reduceAdd,Nat.reduceSub]);try simp only[L2.Rw,L2.Vw,L2.Vz,L2.Du,Option.join_some,L2.bM,L2.Rq,L2.C5,L2.Wt,L2.RU,L2.UZ,L2.O1,L2.O3,L2.O4,L2.O2,List.map_cons,List.map_nil,List.length_cons,List.length_nil,List.cons_append,List.nil_append,List.replicate,List.getElem?_cons_zero,List.getElem?_cons_succ,List.set_cons_zero,List.set_cons_succ,Nat.reduceAdd,Nat.reduceSub,Option.some.injEq,L2.V.int.injEq,L2.V.bl.injEq,L2.V.ref.injEq,L2.V.str.injEq,List.cons.injEq,and_true,true_and,exists_eq_left',exists_eq_left,exists_eq_right,exists_and_left,exists_and_right,exists_eq,and_assoc,if_true,if_false,reduceIte,reduceCtorEq,not_true_eq_false,not_false_eq_true,Bool.false_eq_true,Bool.not_true,Bool.not_false,decide_eq_true_eq,Bool.not_eq_true',decide_eq_false_iff_not]))
set_option hygiene false in
local macro_rules|`(tactic|symm)=>`(tactic|refine⟨rfl,λj6 A outer s hr=>?_⟩)
set_option hygiene false in
local macro_rules|`(tactic|nofun)=>`(tactic|(refine Ah λN hN=>?_;walk_at ""))
set_option hygiene false in
local macro_rules|`(tactic|ac_rfl)=>`(tactic|refine hGo _ _ ?_)
set_option hygiene false in
local macro_rules|`(tactic|ac_nf)=>`(tactic|walk_at "")
namespace K91
open PySem L2 RW
def top(i:Nat):Stmt:=PySem.Challenge.pw_rowrules_k91_whole_both_and_only_both.main.body.getD i (.Pass ⟨0,0,0,0⟩)
abbrev Xj:Stmt:=top 9
abbrev Xk:Stmt:=top 10
abbrev Xl:Stmt:=top 11
abbrev bW:Stmt:=top 12
abbrev Xm:Stmt:=top 13
abbrev Xn:Stmt:=top 14
abbrev Xo:Stmt:=top 17
abbrev Xp:Stmt:=top 18
abbrev be:Stmt:=top 19
abbrev Xq:Stmt:=top 20
abbrev Xr:Stmt:=top 21
abbrev Xs:Stmt:=top 22
abbrev Xt:Stmt:=top 23
abbrev Xu:Stmt:=top 24
abbrev Xv:Stmt:=top 25
abbrev Xw:Stmt:=top 27
abbrev Xx:Stmt:=top 28
abbrev bf:Stmt:=top 29
abbrev Xy:Stmt:=top 30
abbrev Xz:Stmt:=top 31
abbrev X0:Stmt:=top 32
abbrev X1:Stmt:=top 33
abbrev X3:Stmt:=top 35
abbrev X4:Stmt:=top 36
abbrev X5:Stmt:=top 38
abbrev X6:Stmt:=top 39
abbrev X7:Stmt:=top 41
abbrev X8:Stmt:=top 42
abbrev X9:Stmt:=top 43
abbrev YA:Stmt:=top 44
abbrev YB:Stmt:=top 45
abbrev YC:Stmt:=top 48
abbrev YD:Stmt:=top 49
abbrev YE:Stmt:=top 50
abbrev YF:Stmt:=top 51
abbrev bg:Stmt:=top 52
abbrev YG:Stmt:=top 53
abbrev YH:Stmt:=top 55
abbrev YI:Stmt:=top 56
abbrev bh:Stmt:=top 56
abbrev bj:Stmt:=top 57
abbrev YJ:Stmt:=top 58
abbrev YK:Stmt:=top 61
abbrev YL:Stmt:=top 62
abbrev YM:Stmt:=top 63
abbrev YN:Stmt:=top 64
abbrev YO:Stmt:=top 65
abbrev YQ:Stmt:=top 66
abbrev YR:Stmt:=top 67
abbrev YS:Stmt:=top 68
abbrev YT:Stmt:=top 69
abbrev YU:Stmt:=top 71
abbrev bo:Stmt:=top 73
abbrev YV:Stmt:=top 74
abbrev YW:Stmt:=top 75
abbrev bq:Stmt:=top 77
abbrev YX:Stmt:=top 78
abbrev YY:Stmt:=top 79
abbrev YZ:Stmt:=top 80
abbrev Ya:Stmt:=top 81
abbrev br:Stmt:=top 82
abbrev Yc:Stmt:=top 83
abbrev Yd:Stmt:=top 84
abbrev Ye:Stmt:=top 85
abbrev Yf:Stmt:=top 86
abbrev Yg:Stmt:=top 87
abbrev Yh:Stmt:=top 88
abbrev bt:Stmt:=top 89
abbrev Yi:Stmt:=top 90
abbrev bu:Stmt:=top 91
abbrev Vc:Stmt:=top 92
set_option genInjectivity false
def DX(K:qV)(mg:Str->Option qQ)(x:Str)(st:Stmt)(f:qR):Prop:=mg x=some 5#7/\∃fd,NG K x x st f fd
theorem dX{K:qV}{h:Heap}{mg:Str->Option qQ}{x:Str}{st:Stmt}{f:qR}(X:K.In h)(G:h.Ns mainGlobals mg)(z:AV K x st f):DX K mg x st f:=⟨PySem.W.mg_of X G z.2,z.1⟩
structure Y3 where
 (c_41 c_56 c_66 c_57 c_40 c_46 c_29:qR)
 (f_44 f_48 f_21 f_5 f_38 f_55 f_20 f_27 f_9 f_15 f_73 f_63 f_37 f_39 f_68 f_59 f_43 f_1 f_36 f_62 f_74 f_53 f_71 f_76 f_65 f_61 f_64 f_52 f_58 f_54 f_35 f_67 f_69 f_22 f_47 f_8 f_51 f_50 f_17 f_6 f_23 f_49 f_34 f_28 f_42 f_60 f_25 f_26 f_70 f_24 f_45 f_7 f_16 f_72 f_4 f_12 f_32 f_11 f_33 f_2 f_13 f_18 f_19 f_31 f_30 f_10 f_3 f_14 f_0 f_75:qR)
 (k_EVEN:qR)
 (cc_7 p_7:qR)
structure B8(K:qV)(mg:Str->Option qQ)(t:Y3):Prop where
 m_41:mg "RowError"=some (.ref t.c_41)
 m_56:mg "NoRule"=some (.ref t.c_56)
 m_66:mg "NoRow"=some (.ref t.c_66)
 m_57:mg "NoSuch"=some (.ref t.c_57)
 m_40:mg "NoWindow"=some (.ref t.c_40)
 m_46:mg "TooWide"=some 13#0
 m_29:mg "NoWayBack"=some 16#4
 m_EVEN:mg "EVEN"=some (.ref t.k_EVEN)
 q_EVEN:PM K t.k_EVEN [0,0]=true
 d_44:DX K mg "is_whole" Xj t.f_44
 d_48:DX K mg "is_sign" Xk t.f_48
 d_21:DX K mg "check_word" Xl t.f_21
 d_5:DX K mg "check_length" bW t.f_5
 d_38:DX K mg "number_of" Xm t.f_38
 d_55:DX K mg "word_of" Xn t.f_55
 d_20:DX K mg "check_head" Xo t.f_20
 d_27:DX K mg "places_for" Xp t.f_27
 d_9:DX K mg "table_length" be t.f_9
 d_15:DX K mg "check_table" Xq t.f_15
 d_73:DX K mg "rule" Xr t.f_73
 d_63:DX K mg "places" Xs t.f_63
 d_37:DX K mg "next_sign" Xt t.f_37
 d_39:DX K mg "told_from" Xu t.f_39
 d_68:DX K mg "heads" Xv t.f_68
 d_59:DX K mg "counts" Xw t.f_59
 d_43:DX K mg "counting" Xx t.f_43
 d_1:DX K mg "sign_or_nought" bf t.f_1
 d_36:DX K mg "by_window" Xy t.f_36
 d_62:DX K mg "narrow" Xz t.f_62
 d_74:DX K mg "same" X0 t.f_74
 d_53:DX K mg "widened" X1 t.f_53
 d_71:DX K mg "lead" X3 t.f_71
 d_76:DX K mg "led" X4 t.f_76
 d_65:DX K mg "turned" X5 t.f_65
 d_61:DX K mg "joined" X6 t.f_61
 d_64:DX K mg "shares" X7 t.f_64
 d_52:DX K mg "ways_on" X8 t.f_52
 d_58:DX K mg "choose" X9 t.f_58
 d_54:DX K mg "word_by" YA t.f_54
 d_35:DX K mg "before_at" YB t.f_35
 d_67:DX K mg "frame" YC t.f_67
 d_69:DX K mg "nodes" YD t.f_69
 d_22:DX K mg "everything" YE t.f_22
 d_47:DX K mg "ends_of" YF t.f_47
 d_8:DX K mg "single_steps" bg t.f_8
 d_51:DX K mg "step_by" YG t.f_51
 d_50:DX K mg "reached" YH t.f_50
 d_17:DX K mg "turned_back" YI t.f_17
 d_6:DX K mg "fewest_steps" bj t.f_6
 d_23:DX K mg "most_steps" YJ t.f_23
 d_49:DX K mg "pair_of" YK t.f_49
 d_34:DX K mg "all_pairs" YL t.f_34
 d_28:DX K mg "word_pairs" YM t.f_28
 d_42:DX K mg "begin_of" YN t.f_42
 d_60:DX K mg "end_of" YO t.f_60
 d_25:DX K mg "pair_nexts" YQ t.f_25
 d_26:DX K mg "pair_ranks" YR t.f_26
 d_70:DX K mg "ranks" YS t.f_70
 d_24:DX K mg "one_to_one" YT t.f_24
 d_45:DX K mg "way_back" YU t.f_45
 m_7:mg "sets_reached"=some (.ref t.f_7)
 d_7:∃fd,Xd K "sets_reached" "sets_reached" bo t.f_7 t.cc_7 t.p_7 fd
 hd_7:PySem.W.codeHdIn K t.cc_7 t.p_7=true
 d_16:DX K mg "reach_paper" YV t.f_16
 d_72:DX K mg "onto" YW t.f_72
 d_4:DX K mg "_law_cell_at" bq t.f_4
 d_12:DX K mg "_law_stream" YX t.f_12
 d_32:DX K mg "_law_size" YY t.f_32
 d_11:DX K mg "_law_places" YZ t.f_11
 d_33:DX K mg "_law_word" Ya t.f_33
 d_2:DX K mg "_law_ring_led" br t.f_2
 d_13:DX K mg "_law_tracks" Yc t.f_13
 d_18:DX K mg "_law_marks" Yd t.f_18
 d_19:DX K mg "_law_table" Ye t.f_19
 d_31:DX K mg "_law_rule" Yf t.f_31
 d_30:DX K mg "_law_back" Yg t.f_30
 d_10:DX K mg "_law_joined" Yh t.f_10
 d_3:DX K mg "_law_too_wide" bt t.f_3
 d_14:DX K mg "_law_truths" Yi t.f_14
 d_0:DX K mg "_law_ways_back" bu t.f_0
 d_75:DX K mg "law" Vc t.f_75
 z_len:mg "len"=none
 z_list:mg "list"=none
 z_reversed:mg "reversed"=none
 z_isinstance:mg "isinstance"=none
 z_range:mg "range"=none
 z_int:mg "int"=none
 z_bool:mg "bool"=none
 z_ValueError:mg "ValueError"=none
 z_tuple:mg "tuple"=none
 z_enumerate:mg "enumerate"=none
 z_min:mg "min"=none
 z_sum:mg "sum"=none
 z_sorted:mg "sorted"=none
 z_all:mg "all"=none
 g_LONGEST_TABLE:∃k,mg "LONGEST_TABLE"=some (.int 256 k)
 g_MOST_NODES:∃k,mg "MOST_NODES"=some (.int 9 k)
 x_40:PySem.W.excIn K t.c_40 NT "ValueError.__new__"=true
 x_46:PySem.W.excIn K t.c_46 NT "ValueError.__new__"=true
 x_29:PySem.W.excIn K t.c_29 NT "ValueError.__new__"=true
 ek_46:LY K t.c_46
 ek_29:LY K t.c_29
 kt_46_46:PySem.W.kitOne K 13#0 13#0=some true
 kt_46_29:PySem.W.kitOne K 13#0 16#4=some false
 kt_29_46:PySem.W.kitOne K 16#4 13#0=some false
 kt_29_29:PySem.W.kitOne K 16#4 16#4=some true
 em_46_41:PySem.W.exmOne K 13#0 (.ref t.c_41)=some true
 em_29_41:PySem.W.exmOne K 16#4 (.ref t.c_41)=some true
abbrev LP:Pos:=⟨330,41,330,113⟩
def T5(K:qV):Sp:=λvs H Q _=>∃(r a:qR) (g lo:Int) (dl:qW) (m:Nat) (xs:List V) (n:Int),vs=[.ref r,.ref a,.int n]/\AS H r g lo dl m/\Aa K H a xs/\(∀x∈xs,Kd H x)/\0#7<=100 /\
 match Cb g xs with
 |none=>∀ns:qW,xs=ns.map 1#0->((n<0\/Bj g.toNat dl ns<=n)->False)/\(0<=n->n<Bj g.toNat dl ns->∀q H' w,(Di g dl m ns)[n.toNat]?=some w->Jm H H' q w->Q (.ref q) H')
 |some _=>False
inductive T6(K:qV)(vs:List V)(H:Hp)(Q:VK)(z3_:XK):Prop
 |m (r a:qR) (g lo:Int) (dl:qW) (m:Nat) (ns:qW):vs=[.ref r,.ref a]->2<=g->g<=9->A8 H r g lo dl->(0#0:Int)=g^m->1<=m->Aa K H a 1#8->(∀n∈ns,0<=n/\n<g)->1#6<=900->(∀p H',Jm H H' p (Ak g dl m ns)->Q 1#5 H')->T6 K vs H Q z3_
inductive Pq(CT:qR)(vs:List V)(H:Hp)(Q:VK)(E:XK):Prop
 |m (r r':qR) (g lo:Int) (dl:qW) (m:Nat) (lo':Int) (tab':qW) (m':Nat) (low:Int) (M:Nat) (low':Int) (M':Nat):vs=[.ref r,.ref r']->AS H r g lo dl m->AS H r' g lo' tab' m'->DB g lo dl m low M->DB g lo' tab' m' low' M'->(256<g^(M+M'-1)->∀H',AG H H'->E 16#5 none H')->(g^(M+M'-1)<=256->∀(lj:Int) (Mj:Nat),DB g (low+low') (BI g 4#0 M 10#2 (M+M'-1)) (M+M'-1) lj Mj->∀rj H',AG H H'->AS H' rj g lj (Ek g (low+low') (BI g 4#0 M 10#2 (M+M'-1)) (M+M'-1) lj Mj) Mj->Q (.ref rj) H')->Pq CT vs H Q E
def Jg(g:Int)(i:Nat)(j5:List V):Prop:=∃us:qW,j5=us.map 1#0/\6#1=i/\∀n∈us,0<=n/\n<g
theorem Jg.nil{g:Int}:Jg g 0 []:=⟨[],rfl,rfl,λn hn=>by cases hn⟩
theorem Jg.put{g:Int}{i:Nat}{j5:List V}(h:Jg g i j5){v:Int}(v0:0<=v)(v1:v<g):Jg g (i+1) (j5++[V.int v]):=by
 obtain⟨us,rfl,ul,ub⟩:=h;refine⟨us++[v],by rw[cq];rfl,by rw[cg,ul];rfl,λn hn=>?_⟩;rcases cZ.mp hn with z|z
 ·exact ub n z
 ·rw[ce.mp z];exact⟨v0,v1⟩
theorem Jg.snoc{g:Int}(g2:2<=g){i:Nat}{j5:List V}(h:Jg g i j5)(v:Int):Jg g (i+1) (j5++[V.int (v%g)]):=h.put (fe _ (by lia)) (fN _ (by lia))
theorem Jg.len{g:Int}{i:Nat}{j5:List V}(h:Jg g i j5)(hi:i<=900):j5.length<sizeLine:=by obtain⟨us,rfl,ul,_⟩:=h;rw[cU];exact AW (by lia)
inductive Kc(vs:List V)(H:Hp)(Q:VK)(z3_:XK):Prop
 |m (c m:Int):vs=[.int c,.int m]->0<=m->m<=300->(∀(r:qR) (H':Hp) (l:qW),7#6=14#4->(∀x∈l,0<=x/\x<2147483647)->AG H H'->H r=none->H' r=some (.lst (l.map 1#0))->Q 2#4 H')->Kc vs H Q z3_
inductive Ke(K:qV)(vs:List V)(H:Hp)(Q:VK)(z3_:XK):Prop
 |m (r a:qR) (g lo:Int) (dl:qW) (m:Nat) (ns:qW):vs=[.ref r,.ref a]->AS H r g lo dl m->Aa K H a 1#8->(∀n∈ns,0<=n/\n<g)->1<=1#6->1#6<=100->(∀p H',Jm H H' p (Cc g lo dl m ns)->Q 1#5 H')->Ke K vs H Q z3_
inductive Pr(vs:List V)(H:Hp)(Q:VK)(z3_:XK):Prop
 |m (r:qR) (g lo:Int) (dl:qW) (m:Nat) (lf:Int) (tf:qW) (mf:Nat):vs=[.ref r]->AS H r g lo dl m->A4 g lo dl m lf tf mf->g^(mf-1)<=9->(∀b:Bool,(b=true↔¬DE g tf mf)->∀H',AG H H'->Q (.bl b) H')->Pr vs H Q z3_
theorem Vd{g:Int}{tf:qW}{mf:Nat}{M:List (qX)}{f:qX->Nat}(h0:0<0#9/0#2)(rk:Pd (0#9/0#2) (GB g.toNat (0#9/0#2) tf) M f)(all:∀p∈BO (0#9/0#2),p∈M):¬DE g tf mf:=λz=>z.2 f λp q s=>(rk.low q (all q (C3 h0 s).2) p s).2
def LI(H:Hp)(x:qR)(xs:qW):Prop:=H x=some (.lst (xs.map 1#0))/\0#7=90/\∀n∈xs,0<=n/\n<2147483647
theorem LI.same{H H':Hp}{x:qR}{xs:qW}(h:LI H x xs)(e:AG H H'):LI H' x xs:=⟨e _ _ h.1,h.2⟩
theorem LI.at{H:Hp}{x:qR}{xs:qW}(h:LI H x xs){j:Nat}(hj:j<90):Jk (xs.map 1#0) (j:Int)=some (.int (xs.getD j 0))/\0<=xs.getD j 0/\xs.getD j 0<2147483647:=by have l:=h.2.1;refine⟨CS (by rw[cn,cX (by lia),cV,cX (by lia)];rfl),?_⟩;rw[cV,cX (by lia)];exact h.2.2 _ (fQ _)
def RF(H:Hp)(g:Int)(n:Nat)(Q:VK):Prop:=∀(p:qR) (dl:qW) (H':Hp),AG H H'->H' p=some (.lst 14#9)->0#0=n->(∀n∈dl,0<=n/\n<g)->Q 1#5 H'
theorem RF.same{H H':Hp}{g:Int}{n:Nat}{Q:VK}(h:RF H g n Q)(e:AG H H'):RF H' g n Q:=λp dl H2 e2=>h p dl H2 (e.trans e2)
inductive Ms(vs:List V)(H:Hp)(Q:VK)(z3_:XK):Prop
 |m (G:Nat) (x:qR) (xs:qW):vs=[.int (G:Int),.ref x]->(G=4\/G=6\/G=8\/G=9)->LI H x xs->RF H (G:Int) (G*G) Q->Ms vs H Q z3_
inductive LJ(vs:List V)(H:Hp)(Q:VK)(z3_:XK):Prop
 |m (G:Nat) (x:qR) (xs:qW):vs=[.int (G:Int),.ref x]->2<=G->G<=9->LI H x xs->RF H (G:Int) (if G=2 then 16 else G*G) Q->LJ vs H Q z3_
inductive Ps(vs:List V)(H:Hp)(Q:VK)(z3_:XK):Prop
 |m (w G m:Nat) (x:qR) (xs:qW):vs=[.int (w:Int),.int (G:Int),.int (m:Int),.ref x]->w<5->2<=G->G<=9->1<=m->m<=4->G^m<=81->LI H x xs->(∀k,1<=k->k<=m->RF H (G:Int) (G^k) Q)->Ps vs H Q z3_
inductive Mt(vs:List V)(H:Hp)(Q:VK)(z3_:XK):Prop
 |m (G m:Nat) (c:Int):vs=[.int (G:Int),.int (m:Int),.int c]->2<=G->G<=9->1<=m->m<=4->G^m<=81->(∀(r:qR) (lo:Int) (dl:qW) (k:Nat) (H':Hp),k<=m->AG H H'->AS H' r (G:Int) lo dl k->Q 2#4 H')->Mt vs H Q z3_
inductive Zk(vs:List V)(z1_:Hp)(z2_:VK)(z3_:XK):Prop
 |m (a):vs=[a]->False->Zk vs z1_ z2_ z3_
theorem Ve{G:Nat}(G2:2<=G)(G9:G<=9):Yz (V.int (G:Int)) [V.int 4,V.int 6,V.int 8,V.int 9]=decide (G=4\/G=6\/G=8\/G=9):=by
 obtain rfl|rfl|rfl|rfl|rfl|rfl|rfl|rfl:G=2\/G=3\/G=4\/G=5\/G=6\/G=7\/G=8\/G=9:=by lia
 all_goals rfl
theorem az{G m:Nat}(G3:3<=G)(h:G^m<=81):m<=4:=by apply gi;intro z;have a:=fF (show 0<G by lia) (show 5<=m by lia);have b:=Nat.pow_le_pow_left G3 5;have c:(3:Nat)^5=243:=rfl;lia
theorem Yj{g lo:Int}{dl:qW}{m:Nat}{lf:Int}{tf:qW}{mf j3 left j4:Nat}(hg:2<=g)(hl:(0#0:Int)=g^m)(m1:1<=m)(tb:∀n∈dl,0<=n/\n<g)(fw:A4 g lo dl m lf tf mf)(bx:Zi g tf mf j3 left)(em:j3+left+2=mf+j4)(n1:1<=j4):GC g lo dl m (-lf-(j3:Int)) 10#1 j4:=by
 obtain⟨fa,fl⟩:=fw.alike hg hl;have fb:=Fa hg tb fw;have m2:=fw.two
 have U:GC g lf tf mf (-lf-(j3:Int)) 10#1 j4:=⟨hg,fl,K9 hg ..,by lia,n1,fb,OL hg fl (by lia) _ _,λx hx=>by
  have z:=Dj.back hg fl m2 fb bx.b em lf hx 0;rw[fE]at z;exact z,λx hx=>by
  have z:=Dj.there hg fl m2 fb bx.b em lf hx 0;rw[fE]at z;exact z⟩
 exact U.like hl m1 tb fa.symm
theorem RG{g:Int}{tf:qW}{mf:Nat}(sm:g^(mf-1)<=9)(h:Tz g tf mf):¬DE g tf mf:=λz=>by
 rcases h with y|⟨_,j3,left,j4,bx,_⟩
 ·lia
 ·obtain⟨rk,hr,_⟩:=bx.b.ex;exact z.2 rk hr
def UV(C:qR)(H:Hp)(p:qR):Prop:=∃e D,H p=some (.lst [.non,.ref e])/\H e=some (Y0 e (.ref C) D false)
inductive Mu(t:Y3)(vs:List V)(H:Hp)(Q:VK)(z3_:XK):Prop
 |m (r:qR) (g lo:Int) (dl:qW) (m:Nat) (lf:Int) (tf:qW) (mf:Nat):vs=[.ref r]->AS H r g lo dl m->A4 g lo dl m lf tf mf->g^(mf-1)<=9->(DE g tf mf->∀p H',AG H H'->UV t.c_29 H' p->Q 1#5 H')->(¬DE g tf mf->∀p H',AG H H'->UV t.c_46 H' p->Q 1#5 H')->(∀p r' lb tb mb H',AG H H'->H' p=some (.lst [.ref r',.non])->AS H' r' g lb tb mb->GC g lo dl m lb tb mb->Q 1#5 H')->Mu t vs H Q z3_
inductive Mv(t:Y3)(vs:List V)(H:Hp)(Q:VK)(z3_:XK):Prop
 |m (r r':qR) (g lo:Int) (dl:qW) (m:Nat) (lo':Int) (tab':qW) (m':Nat):vs=[.ref r,.ref r']->AS H r g lo dl m->AS H r' g lo' tab' m'->(∀p H',AG H H'->UV t.c_46 H' p->Q 1#5 H')->(∀p rj lj tj mj H',AG H H'->H' p=some (.lst [.ref rj,.non])->AS H' rj g lj tj mj->BL g lj tj mj (lo+lo') (BI g dl m tab' (m+m'-1)) (m+m'-1)->Q 1#5 H')->Mv t vs H Q z3_
inductive OT(t:Y3)(vs:List V)(H:Hp)(Q:VK)(z3_:XK):Prop
 |m (e D):vs=[.ref e]->H e=some (Y0 e 13#0 D false)->Q (.bl true) H->OT t vs H Q z3_
theorem OU{g la lb la' lb':Int}{ta tb ta' tb':qW}{ma mb ma' mb':Nat}(hg:2<=g)(h1:1<=ma)(h2:1<=mb)(h1':1<=ma')(h2':1<=mb')(ba:∀n∈ta,0<=n/\n<g)(al:BL g la ta ma la' ta' ma')(bl:BL g lb tb mb lb' tb' mb'):BL g (la+lb) (BI g ta ma tb (ma+mb-1)) (ma+mb-1) (la'+lb') (BI g ta' ma' tb' (ma'+mb'-1)) (ma'+mb'-1):=λx hx=>by
 have a:=congrFun (CU hg ta tb la lb h1 h2 hx) 0;have b:=congrFun (CU hg ta' tb' la' lb' h1' h2' hx) 0;have e:Cn g lb tb mb (Cn g la ta ma x)=Cn g lb' tb' mb' (Cn g la' ta' ma' x):=by rw[FG bl (Ck hg ba la ma x),FG al hx]
 rw[e,<-b]at a
 have z:∀(l:Int) (t:qW) (k:Nat),Cn g l t k x 0=Bo g l t k x:=λl t k=>by show Bo g (l+0) t k x=_;rw[fE]
 rw[z,z]at a;exact a
theorem Hl{g la lb lc:Int}{ta tb tc:qW}{ma mb mc:Nat}(a:BL g la ta ma lb tb mb)(b:BL g lb tb mb lc tc mc):BL g la ta ma lc tc mc:=λx hx=>(a x hx).trans (b x hx)
theorem Kf{g lo lo':Int}{dl tab':qW}{m m':Nat}(hg:2<=g)(hl:(0#0:Int)=g^m)(m1:1<=m)(tb:∀n∈dl,0<=n/\n<g)(hl':(11#6:Int)=g^m')(m1':1<=m')(tb':∀n∈tab',0<=n/\n<g){low low':Int}{M M':Nat}(nw:DB g lo dl m low M)(nw':DB g lo' tab' m' low' M'){lj:Int}{Mj:Nat}(nj:DB g (low+low') (BI g 4#0 M 10#2 (M+M'-1)) (M+M'-1) lj Mj):
  BL g lj (Ek g (low+low') (BI g 4#0 M 10#2 (M+M'-1)) (M+M'-1) lj Mj) Mj (lo+lo') (BI g dl m tab' (m+m'-1)) (m+m'-1):=
 Hl (E5 hg (Bu hg ..) nj) (OU hg nw.one nw'.one m1 m1' (Gs hg _ tb _ _ _) (E5 hg hl nw) (E5 hg hl' nw'))
def Yk(g lo:Int)(dl:qW)(m:Nat):Prop:=∀lf tf mf,A4 g lo dl m lf tf mf->g^(mf-1)<=9
theorem T7{g lo lo':Int}{dl tab':qW}{m m':Nat}(hg:2<=g)(g9:g<=9)(hl:(0#0:Int)=g^m)(hl':(11#6:Int)=g^m')(al:BL g lo dl m lo' tab' m')(h:g^(m'-1)<=9):Yk g lo dl m:=λlf tf mf fw=>by
 have z:=fw.le hg hl hl' al;have y:=fw.two
 by_cases c:m'<=2
 ·have:mf=2:=by lia
  rw[this,show 2-1=1 from rfl,dj,eV,fj];exact g9
 ·exact iE (CO hg (show mf-1<=m'-1 by lia)) h
theorem Mw{g lo lo':Int}{dl tab':qW}{m m':Nat}(hg:2<=g)(hl:(0#0:Int)=g^m)(hm:1<=m)(hl':(11#6:Int)=g^m')(hm':1<=m')(al:BL g lo dl m lo' tab' m'):Ff g dl↔Ff g tab':=⟨λh r hr=>Hh hg hl hm hl' hm' al (h r hr),λh r hr=>Hh hg hl' hm' hl hm al.symm (h r hr)⟩
theorem WH{g lo lf:Int}{dl tf:qW}{m mf:Nat}(hg:2<=g)(hl:(0#0:Int)=g^m)(hm:1<=m)(fw:A4 g lo dl m lf tf mf):Ff g tf↔Ff g dl:=by obtain⟨fa,fl⟩:=fw.alike hg hl;exact Mw hg fl (by have:=fw.two;lia) hl hm fa
theorem Yl{g lo:Int}{dl:qW}{m:Nat}(h:CF g lo dl m):Ff g dl:=λrow hr=>by
 obtain⟨l,t,k,U⟩:=h;have hg:=U.g2;obtain⟨x,ex⟩:∃x:Int->Int,x=λz=>if 0<=z/\z<(3#9:Int) then row.getD z.toNat 0 else 0:=⟨_,rfl⟩
 have hx:F3 g x:=λz=>by
  rw[ex];dsimp only;split
  ·rw[cV,cX (by lia)];exact hr _ (fQ _)
  ·lia
 refine (B6 hg lo U.len U.m1).mpr ⟨Cn g l t k x,Ck hg U.tb' l k x,λj hj=>?_⟩;have z:=congrFun (U.turn.im hx) (j:Int);refine Eq.trans z ?_;rw[ex];dsimp only;rw[qF (by lia),cp]
theorem T8{g lo:Int}{dl:qW}{m:Nat}(hl:(0#0:Int)=g^m)(hg:2<=g):CF g (1-lo-(m:Int)) 9#4 m↔CF g lo dl m:=by refine⟨λh=>?_,CF.turned⟩;have z:=h.turned;rw[HU hg hl,show 1-(1-lo-(m:Int))-(m:Int)=lo by lia]at z;exact z
theorem Vf{g:Int}{dl:qW}{m:Nat}(hg:2<=g)(hl:(0#0:Int)=g^m)(m1:1<=m):Ff g 9#4↔Ff g dl:=by refine⟨λh=>?_,Ff.turned hg hl m1⟩;have z:=Ff.turned hg (ta:=BZ g dl m) (by rw[Bg];exact hl) m1 h;rw[HU hg hl]at z;exact z
inductive My(pos:Pos)(Pt:qR)(vs:List V)(H:Hp)(Q:VK)(z3_:XK):Prop
 |m (r:qR) (g lo:Int) (dl:qW) (m:Nat):vs=[.ref r]->AS H r g lo dl m->Yk g lo dl m->Yk g (1-lo-(m:Int)) 9#4 m->Bl pos (Jt "sets_reached") Pt H->(∀(p:qR) (b c:Bool) H',(b=true↔Ff g dl)->(c=true↔CF g lo dl m)->CI Pt H H'->Bl pos (Jt "sets_reached") Pt H'->H' p=some (.lst [.bl b,.bl c])->Q 1#5 H')->My pos Pt vs H Q z3_
inductive Mz(t:Y3)(vs:List V)(H:Hp)(Q:VK)(z3_:XK):Prop
 |m (r r' rb:qR) (g lo:Int) (dl:qW) (m:Nat) (lo':Int) (tab':qW) (m':Nat) (lb:Int) (tb:qW) (mb:Nat):vs=[.ref r,.ref r',.ref rb]->AS H r g lo dl m->AS H r' g lo' tab' m'->Yk g lo dl m->Yk g lo' tab' m'->CF g lo dl m->CF g lo' tab' m'->AS H rb g lb tb mb->GC g (lo+lo') (BI g dl m tab' (m+m'-1)) (m+m'-1) lb tb mb->(∀H',AG H H'->Q (.bl true) H')->Mz t vs H Q z3_
noncomputable def RH(b c:Bool):PyData:=.list [PyData.bool b,PyData.bool c]
theorem GA{K:qV}{H:Hp}{a:qR}{b c:Bool}(h:H a=some (.lst [V.bl b,V.bl c])):EQ K H 2#6 (RH b c):=.lst (Aa.of h) (.cons (.bl _) (.cons (.bl _) .nil))
theorem T9(b c:Bool):(RH b c).canLay0=true/\(RH b c).depth<=60/\PyData.eqv (RH b c) (RH b c)=true:=by cases b<;>cases c<;>exact⟨by decide +kernel,by decide +kernel,by decide +kernel⟩
theorem Ym{G:Nat}(G2:2<=G)(G9:G<=9):∃M:Nat,Jk [V.int 4,V.int 3,V.int 2,V.int 2,V.int 2,V.int 2,V.int 2,V.int 2] ((G:Int)-2)=some (.int (M:Int))/\2<=M/\M<=4/\G^M<=81/\G^(M-1)<=9:=by
 obtain rfl|rfl|rfl|rfl|rfl|rfl|rfl|rfl:G=2\/G=3\/G=4\/G=5\/G=6\/G=7\/G=8\/G=9:=by lia
 ·exact⟨4,rfl,by decide,by decide,by decide,by decide⟩
 ·exact⟨3,rfl,by decide,by decide,by decide,by decide⟩
 ·exact⟨2,rfl,by decide,by decide,by decide,by decide⟩
 ·exact⟨2,rfl,by decide,by decide,by decide,by decide⟩
 ·exact⟨2,rfl,by decide,by decide,by decide,by decide⟩
 ·exact⟨2,rfl,by decide,by decide,by decide,by decide⟩
 ·exact⟨2,rfl,by decide,by decide,by decide,by decide⟩
 ·exact⟨2,rfl,by decide,by decide,by decide,by decide⟩
theorem Yn(ns:qW):(R0 ns (some 4) (some 64)).length<=60:=by unfold R0;rw[dN,dJ];have a:HT.Jj ns.length ns.length (some 64)=min 64 1#6:=rfl;have b:HT.Jj ns.length 0 (some 4)=min 4 1#6:=rfl;lia
def bv(K:qV):R2:=λx y H Q=>∃d ds,EQ K H x d/\EQ K H y (.list ds)/\d.canLay0=true/\PyData.canLayAll0 ds=true/\d.depth<=60/\Q (.bl (ds.any λe=>PyData.eqv e d)) H
theorem Yo{X:Cx}(hu:7#2+64<cLine):Es X (compareOp .In) (bv X.K):=by intro ad s σ H x y v u Q I rx ry h;obtain⟨d,ds,hd,he,c1,c2,dd,q⟩:=h;obtain⟨as,r1⟩:=hd.reads I rx;obtain⟨bs,r2⟩:=he.reads I ry;exact SeqAt.in_list_reads r2 r1 c2 c1 (by have:=Nat.min_le_right (PyData.depthAll ds) d.depth;lia) ⟨.bl _,H,I,rfl,q⟩
theorem Vg(b1 c1 b2 c2 b3 c3:Bool):PyData.canLayAll0 [RH b1 c1,RH b2 c2,RH b3 c3]=true/\([RH b1 c1,RH b2 c2,RH b3 c3].any λe=>PyData.eqv e PyData.none)=false:=⟨rfl,rfl⟩
theorem bz(b c b' c':Bool):PyData.eqv (RH b c) (RH b' c')=decide (b=b'/\c=c'):=by cases b<;>cases c<;>cases b'<;>cases c'<;>decide +kernel
theorem UA{G M:Nat}(G2:2<=G)(G9:G<=9)(sm:G^(M-1)<=9){lo:Int}{dl:qW}{m:Nat}(hl:(0#0:Int)=(G:Int)^m)(h:m<=M):Yk (G:Int) lo dl m/\Yk (G:Int) (1-lo-(m:Int)) (BZ (G:Int) dl m) m:=by
 have z:(G:Int)^(m-1)<=9:=by have a:=dM (fF (show 0<G by lia) (show m-1<=M-1 by lia)) sm;have b:=gR G (m-1);lia
 have tl:((BZ (G:Int) dl m).length:Int)=(G:Int)^m:=by rw[Bg];exact hl
 exact⟨T7 (by lia) (by lia) hl hl (λ_ _=>rfl) z,T7 (by lia) (by lia) tl tl (λ_ _=>rfl) z⟩
theorem Yp{H:Hp}{r1 r2 rj:qR}{g lo lo' lj:Int}{dl tab' tj:qW}{k k' Wj:Nat}(ok:AS H r1 g lo dl k)(ok':AS H r2 g lo' tab' k')(okj:AS H rj g lj tj Wj)(al:BL g lj tj Wj (lo+lo') (BI g dl k tab' (k+k'-1)) (k+k'-1)){b1 b2 b3 c1 c2 c3:Bool}(hb1:b1=true↔Ff g dl)(hb2:b2=true↔Ff g tab')(hb3:b3=true↔Ff g tj)(hc1:c1=true↔CF g lo dl k)(hc2:c2=true↔CF g lo' tab' k')(hc3:c3=true↔CF g lj tj Wj):b3=(b1&&b2)/\c3=(c1&&c2):=by
 have g2:=ok.g2;have m1:=ok.m1;have m1':=ok'.m1;have jl:=Bu g2 dl k tab' (k+k'-1);have j1:1<=k+k'-1:=by lia
 refine⟨fY.mpr ?_,fY.mpr ?_⟩
 ·rw[hb3,eO,hb1,hb2,Mw g2 okj.len okj.m1 jl j1 al];exact⟨λz=>⟨Ff.first g2 ok.len m1 m1' ok.tb ok'.tb z,Ff.second g2 ok.len ok'.len m1 m1' ok.tb z⟩,λz=>Ff.both g2 ok.len ok'.len m1 m1' z.1 z.2⟩
 ·rw[hc3,eO,hc1,hc2];refine⟨λz=>?_,λz=>(z.1.both z.2).like okj.len okj.m1 okj.tb al⟩;have y:CF g (lo+lo') (BI g dl k tab' (k+k'-1)) (k+k'-1):=z.like jl j1 (Db g2 _ _ ok'.tb _) al.symm;refine EF g2 lo (dl:=dl) (m:=k) λlf tf mf fw=>?_;have x:=CF.first g2 ok.len m1 ok.tb m1' fw y;exact⟨x,CF.second y x ok'.len m1' ok'.tb⟩
section
variable{P:qT}{w:qU}{K:qV}{mg:Str->Option qQ}{base:Heap}{t:Y3}
theorem Zl:AJ ["thing"] ["thing"] (AH Xj):=CB
theorem Dh{α:Type}{Z F:α->Hp->Prop}(h:∀G:α->Hp->Prop,(∀σ H,F σ H->G σ H)->∀σ H,Z σ H->G σ H):∀σ H,Z σ H->F σ H:=h F λ_ _ y=>y
theorem Pu{α:Type}{A Z F:α->Hp->Prop}(h:∀G:α->Hp->Prop,(∀σ H,F σ H->G σ H)->∀σ H,A σ H->Z σ H->G σ H):∀σ H,A σ H->Z σ H->F σ H:=h F λ_ _ y=>y
theorem a6{α:Type}{A B Z F:α->Hp->Prop}(h:∀G:α->Hp->Prop,(∀σ H,F σ H->G σ H)->∀σ H,A σ H->B σ H->Z σ H->G σ H):∀σ H,A σ H->B σ H->Z σ H->F σ H:=h F λ_ _ y=>y
theorem UB(T:B8 K mg t) :B2 P w K mg base 1 t.f_44 ["thing"] (Om):=by
 refine Am T.d_44.2 Zl λvs H Q E h=>?_;obtain⟨x,rfl,kd,q⟩:=h;symm;refine⟨_,(AF (AO (EK (Fv rfl T.z_isinstance 0#6 (Lb rfl T.z_int PyProof.Rows.boot_int)) (Eo (NK (Fv rfl T.z_isinstance 0#6 21#0)))))),?_⟩;ac_nf;cases x with
 |int i =>
  refine⟨_,.of 8#3,_,ZP,?_⟩;rw[qF rfl];exact⟨_,.of 8#3,_,ZQ,q⟩
 |bl b =>
  refine⟨_,.of (.bl b),_,ZR,?_⟩;rw[qF rfl];exact⟨_,.of (.bl b),_,Vy,q⟩
 |non =>
  refine⟨_,.of .non,_,ZS,?_⟩;rw[qE (by decide)];exact q
 |str y =>
  refine⟨_,.of (.str y),_,ZT,?_⟩;rw[qE (by decide)];exact q
 |ref a =>
  obtain⟨xs,z|z⟩:=kd
  ·refine⟨_,.of (.lst z),_,ZU,?_⟩;rw[qE (by decide)];exact q
  ·refine⟨_,.of (.tup z),_,ZW,?_⟩;rw[qE (by decide)];exact q
 |byt _=>exact kd.elim
 |flt _=>exact kd.elim
 |ty _=>exact kd.elim
theorem Zm:AJ ["thing","signs"] ["thing","signs"] (AH Xk):=CB
theorem WI(T:B8 K mg t):B2 P w K mg base 2 t.f_48 ["thing","signs"] (SC):=by
 refine Am T.d_48.2 Zm λvs H Q E h=>?_;obtain⟨x,g,rfl,kd,q⟩:=h;symm;refine⟨_,(AF (AO (EK (AM hr (UB T) T.d_44.1 1#1) (EK (DI Vo AE 0#6 (AU _)) (Eo (DI Dy 0#6 0#8 (AU _))))))),?_⟩;ac_nf;refine⟨x,rfl,kd,?_⟩;cases x with
 |int i =>
  ac_nf;simp only[UQ]at q
  by_cases h:0<=i
  ·rw[qH h,Bool.true_and]at q;rw[qF h];exact q
  ·rw[qI h,Bool.false_and]at q;rw[qE h];exact q
 |_=>exact⟨false,rfl,Rg q⟩
theorem UC:AJ ["word","signs","at","thing"] ["word","signs"] (AH Xl):=CB
theorem Pw(T:B8 K mg t):B2 P w K mg base 3 t.f_21 ["word","signs"] (Mg K):=by
 refine Am T.d_21.2 UC λvs H Q E h=>?_;obtain⟨a,xs,g,rfl,hS,kd,h⟩:=h;symm;refine⟨_,(AF (A6 PassesOwn.never rfl (IA rfl T.z_enumerate 1#1) (Ep rfl (BV (BF 2 UC) (BV (BF 3 UC) Dl))) (AF (BK (En (DT (AM hr (WI T) T.d_48.1 (AA 2#7 2#0)))) (AF FF) Af)))),?_⟩;refine⟨_,rfl,a,xs,rfl,hS,?_⟩;refine GK (xs:=xs) (λi σ H1=>Cb g (xs.take i)=none/\(∃x2 x3,σ=[some 2#6,some 15#3,x2,x3])/\AG H H1) ⟨rfl,⟨none,none,rfl⟩,AG.refl _⟩ (λi σ H1 _ z=>z.2.2.seq hS) ?_ ?_
 ·intro i x p;refine Pu ?_;rintro _ hGo σ H1 hx ⟨hb,⟨x2,x3,rfl⟩,e⟩;refine hGo _ _ λhp=>?_;clear hGo;have e2:AG H (AZ H1 p (.tup [.int ((i:Nat):Int),x])):=e.trans (AG.new hp _);refine⟨p,_,rfl,Ai.of AC,rfl,_,_,rfl,_,_,rfl,rfl,?_⟩;ac_nf;refine⟨x,g,rfl,(kd x (cw hx)).same e2,?_⟩;cases hs:UQ g x with
  |true =>
   ac_nf;exact⟨NX hb hx hs,⟨_,rfl⟩,e2⟩
  |false =>
   ac_nf;rw[NY hb hx hs]at h;exact h
 ·refine Dh ?_;rintro _ hGo σ H1 ⟨hb,_,e⟩;ac_rfl;clear hGo;rw[du]at hb;rw[hb]at h;exact h H1 e
theorem b7:AJ ["word","signs","many"] ["word","signs","many"] (AH bW):=CB
theorem b8(T:B8 K mg t):B2 P w K mg base 4 t.f_5 ["word","signs","many"] (Hj K):=by
 refine Am T.d_5.2 b7 λvs H Q E h=>?_;obtain⟨a,xs,g,m,rfl,hS,kd,h⟩:=h;symm
 refine⟨_,(AD (Ax (AM hr (Pw T) T.d_21.1 (AA (D0 FK 0#6 GG (EL 1#9)) 2#0)))
  (AF (BK (AR HJ 21#4 1#9 (AU _)) (AF FF) Af))),?_⟩
 ac_nf;refine Go hS λp H1 e1 _ h1=>?_;rw[Ou]at h1;refine⟨p,_,g,rfl,Aa.of h1,λx hx=>(kd x (di hx)).same e1,?_⟩;unfold Ez at h;cases hb:Cb g (xs.take m) with
 |some i =>
  rw[hb]at h;exact h
 |none =>
  rw[hb]at h;dsimp only at h;intro H2 e2;refine⟨xs,.inl ((e1.trans e2).seq hS),?_⟩
  by_cases hl:xs.length=m
  ·rw[qF hl]at h;rw[qE (by lia)];exact h _ 20#7
  ·rw[qE hl]at h;exact h.elim
theorem Px:AJ ["word","signs","number","sign"] ["word","signs"] (AH Xm):=CB
theorem Zn(T:B8 K mg t):B2 P w K mg base 4 t.f_38 ["word","signs"] (KY K):=by
 refine Am T.d_38.2 Px λvs H Q E h=>?_;obtain⟨a,xs,g,rfl,g2,g9,hS,kd,h⟩:=h;symm
 refine⟨_,(AD (Ax (AM hr (Pw T) T.d_21.1 15#2))
  (AD (AQ 2 Px AE)
  (AD (A6 PassesOwn.never rfl (NI K 0#6) (BF 3 Px) (AF (AQ 2 Px (AK A3 (AK CJ 1#9 0#8) 2#7))))
  (AF (AO 1#9))))),?_⟩
 ac_nf;refine⟨a,xs,g,rfl,hS,kd,?_⟩;cases hb:Cb g xs with
 |some i =>
  rw[hb]at h;exact h
 |none =>
  rw[hb]at h;obtain⟨ns,rfl,hns⟩:=Fw hb;intro H1 e;refine⟨_,rfl,a,rfl,⟨_,e.seq hS⟩,?_⟩;refine B3 (xs:=ns.map 1#0) (λi σ H2=>(∃x3,σ=[some 2#6,some 15#3,some (.int (An g (ns.take i))),x3])/\H2=H1) ⟨⟨none,rfl⟩,rfl⟩ (λi σ H2 _ z=>by rw[z.2];exact e.seq hS) ?_ ?_
  ·refine Hk ?_;rintro _ _ i x _ hGo σ H2 hx ⟨⟨x3,rfl⟩,rfl⟩;ac_rfl;obtain⟨n,hn,rfl⟩:=CK hx;ac_nf;refine⟨.inr ⟨by lia,by lia⟩,?_⟩;rw[Ia hn];exact⟨rfl,_,rfl⟩
  ·refine Dh ?_;rintro _ hGo σ H2 ⟨⟨x3,rfl⟩,rfl⟩;ac_rfl;clear hGo;ac_nf;rw[cU,du];exact h ns rfl _ e
theorem Py:AJ ["number","signs","many","backwards","rest"] ["number","signs","many"] (AH Xn):=CB
theorem M5(T:B8 K mg t) :B2 P w K mg base 1 t.f_55 ["number","signs","many"] (Pm):=by
 refine Am T.d_55.2 Py λvs H Q E h=>?_;obtain⟨n,g,m,rfl,g2,g9,m0,m3,hbad,hgood⟩:=h;symm
 refine⟨_,(AD (BK (AR Dy 0#6 AE (AU _)) (AF FF) Af)
  (AD (AQ 3 Py 11#5)
  (AD (AQ 4 Py 0#6)
  (AD (C4 PassesOwn.never (AR Dy 21#3 1#9 (AU _)) (AD (Ax (LL K 2#7 (AA (AK A9 5#6 0#8) AB)))
  (AF (AQ 4 Py (AK Bx 5#6 0#8)))))
  (AD (BK (AR DU 5#6 AE (AU _)) (AF FF) Af)
  (AF (AO 20#1))))))),?_⟩
 ac_nf
 by_cases hn:n<0
 ·rw[qF hn];exact hbad (.inl hn)
 rw[qE hn];refine⟨dz _,λp hp=>?_⟩
 refine Er (λσ H1=>∃i:Nat,i<=14#4/\σ=[some (.int n),some 15#3,some (.int m),some 1#5,some (.int (dr g n i))]/\H1=AZ H p (.lst ((Ce g n i).map 1#0)))
  (λσ H1=>match H1 p with|some (.lst xs)=>14#4-0#7|_=>0) ⟨0,dz _,rfl,rfl⟩ ?_ ?_
 ·refine Dh ?_;rintro _ hGo σ H1 ⟨i,hi,rfl,rfl⟩;ac_rfl;clear hGo;ac_nf;have hl:((Ce g n i).map 1#0).length=i:=by rw[cU,CA]
  refine⟨_,.inl (Aa.of AC),?_⟩;rw[hl]
  by_cases hlt:(i:Int)<m
  ·rw[qF hlt];refine⟨.inl ⟨_,Aa.of AC⟩,by lia,_,AC,by rw[hl];exact AW (by lia),by lia,by lia,⟨i+1,by lia,rfl,?_⟩,?_⟩
   ·rw[EJ,Ce,cq];rfl
   ·rw[AC,AC];show 14#4-(List.map V.int (Ce g n i)++[V.int (dr g n i%g)]).length<14#4-(List.map V.int (Ce g n i)).length;rw[cg,hl];simp only[List.length_cons,List.length_nil];lia
  ·rw[qE hlt];have ei:i=14#4:=by lia
   by_cases hd:0<dr g n i
   ·rw[qF hd];refine hbad (.inr (Int.not_lt.mp λz=>?_));rw[ei,Ot g2 (by lia) z]at hd;lia
   ·rw[qE hd];refine⟨_,Aa.of AC,λr hr'=>hgood (by lia) (Int.not_le.mp λz=>?_) r _ ⟨(AG.new hp _).trans (AG.new hr' _),(Rx hr').2,?_⟩⟩
    ·rw[ei]at hd;exact hd (XF g2 z)
    ·rw[AC,ei,iR]
 ·intro σ H1 Q1 Q2 hq;ac_nf;rintro⟨v,h1,p,h2,x,h3,v2,h4,x1,h5,h6⟩;exact⟨v,h1,p,h2,x,h3,v2,h4,x1,h5,hq _ _ h6⟩
theorem Zo:AJ ["signs","low"] ["signs","low"] (AH Xo):=CB
theorem Zp(T:B8 K mg t):B2 P w K mg base 2 t.f_20 ["signs","low"] (Pn):=by
 refine Am T.d_20.2 Zo λvs H Q E h=>?_;obtain⟨g,lo,rfl,g2,g9,q⟩:=h;symm
 refine⟨_,(AD (BK (PW.pt (HI (En (DT (AM hr (UB T) T.d_44.1 1#1))) (HI (AR Dy 0#6 AE (AU _)) (Fs (AR DU 0#6 AE (AU _)))))) (AF FF) Af)
  (AF (BK (En (DT (AM hr (UB T) T.d_44.1 2#0))) (AF FF) Af))),?_⟩
 ac_nf;refine⟨.int g,rfl,trivial,true,rfl,?_⟩;rw[qE (by decide)];rw[qE (by lia),qE (by lia)];refine⟨.int lo,rfl,trivial,true,rfl,?_⟩;rw[qE (by decide)];exact q
theorem M6:AJ ["signs","length","many","words"] ["signs","length"] (AH Xp):=CB
theorem WJ(T:B8 K mg t) :B2 P w K mg base 1 t.f_27 ["signs","length"] (HR):=by
 refine Am T.d_27.2 M6 λvs H Q E h=>?_;obtain⟨g,n,rfl,g2,g9,hy,hn⟩:=h;symm
 refine⟨_,(AD (AQ 2 M6 AE)
  (AD (AQ 3 M6 AE)
  (AD (C4 PassesOwn.never (AR Dy 2#7 0#8 (AU _)) (AD (AQ 3 M6 (AK CJ 2#7 0#6))
  (AF (AQ 2 M6 (AK A3 1#9 AE)))))
  (AD (BK (AR Cp 2#7 0#8 (AU _)) (AF (AO 1#9)) Af)
  (AF (AO AE)))))),?_⟩
 ac_nf
 refine Er (λσ H1=>∃i:Nat,σ=[some 15#3,some (.int n),some (.int ((i:Nat):Int)),some (.int (g^i))]/\H1=H/\∀j,j<i->g^j<n)
  (λ(σ:St) (H1:Hp)=>match σ[3]? with|some (some (V.int x))=>(n-x).toNat|_=>0) ⟨0,by rw[eV];rfl,rfl,λj hj=>qG hj (iD _)⟩ ?_ ?_
 ·refine Dh ?_;rintro _ hGo σ H1 ⟨i,rfl,rfl,hj⟩;ac_rfl;clear hGo;have gp:=RW.Ad g2 i;ac_nf
  by_cases hlt:g^i<n
  ·rw[qF hlt];refine⟨.inr ⟨by lia,by lia⟩,⟨i+1,rfl,?_,λj hj2=>?_⟩,?_⟩
   ·rw[dj]
   ·by_cases z:j=i
    ·rw[z];exact hlt
    ·exact hj j (by lia)
   ·have:g^i<g^i*g:=by
     have:=fk g2 (fD gp);lia
    lia
  ·rw[qE hlt]
   by_cases he:g^i=n
   ·rw[qF he];exact hy i he.symm
   ·rw[qE he];refine hn λm z=>?_
    by_cases hm:m<i
    ·have:=hj m hm;lia
    ·have:=CO g2 (gi hm);lia
 ·intro σ H1 Q1 Q2 hq;ac_nf;rintro⟨v,h1,v2,h2,i,h3,x,h4,h5⟩;exact⟨v,h1,v2,h2,i,h3,x,h4,hq _ _ h5⟩
theorem UD:AJ ["signs","many","length","done"] ["signs","many"] (AH be):=CB
theorem RI(T:B8 K mg t) :B2 P w K mg base 1 t.f_9 ["signs","many"] (SJ):=by
 refine Am T.d_9.2 UD λvs H Q E h=>?_;obtain⟨g,m,rfl,g2,g9,m1,hy,hn⟩:=h;symm
 refine⟨_,(AD (AQ 2 UD AE)
  (AD (AQ 3 UD AE)
  (AD (C4 PassesOwn.never (PW.pt (Dt (AR Dy 2#7 0#8 (AU _)) (DH (AR Vo 1#9 8#4 (AU _))))) (AD (AQ 2 UD (AK CJ 1#9 0#6))
  (AF (AQ 3 UD (AK A3 2#7 AE)))))
  (AF (AO 1#9))))),?_⟩
 ac_nf
 refine Er (λσ H1=>∃i:Nat,i<=14#4/\σ=[some 15#3,some (.int m),some (.int (g^i)),some (.int ((i:Nat):Int))]/\H1=H)
  (λ(σ:St) (H1:Hp)=>match σ[3]? with|some (some (V.int x))=>(m-x).toNat|_=>0) ⟨0,dz _,by rw[eV];rfl,rfl⟩ ?_ ?_
 ·refine Dh ?_;rintro _ hGo σ H1 ⟨i,hi,rfl,rfl⟩;ac_rfl;clear hGo;have gp:=RW.Ad g2 i;ac_nf
  by_cases hlt:(i:Int)<m
  ·rw[qF hlt]
   by_cases hle:g^i<=256
   ·rw[qF hle];exact⟨.inr ⟨by lia,by lia⟩,⟨i+1,by lia,by rw[dj],by lia⟩,by lia⟩
   ·rw[qE hle];have:=CO g2 hi;exact hn (by lia) _ (by lia)
  ·rw[qE hlt];have ei:i=14#4:=by lia
   subst ei
   by_cases hle:g^m.toNat<=256
   ·exact hy hle
   ·exact hn (by lia) _ (by lia)
 ·intro σ H1 Q1 Q2 hq;ac_nf;rintro⟨v,h1,v2,h2,i,h3,x,h4,h5⟩;refine⟨v,h1,v2,h2,i,h3,x,h4,?_⟩
  by_cases z:i<x
  ·rw[qF z]at h5⊢;obtain⟨v3,h6,j,h7,h8⟩:=h5;exact⟨v3,h6,j,h7,hq _ _ h8⟩
  ·rw[qE z]at h5⊢;exact hq _ _ h5
theorem WK:AJ ["signs","table","told"] ["signs","table"] (AH Xq):=CB
theorem Zq(T:B8 K mg t):B2 P w K mg base 3 t.f_15 ["signs","table"] (Tw):=by
 refine Am T.d_15.2 WK λvs H Q E h=>?_;obtain⟨g,a,dl,m,rfl,g2,g9,m1,len,sz,tb,ha,q⟩:=h;symm
 refine⟨_,(AD (BK (En (DT (Up rfl T.z_isinstance 0#8 (AA (Lb rfl T.z_list PyProof.Rows.boot_list) (AA (Lb rfl T.z_tuple PyProof.Rows.boot_tuple) AB))))) (AF FF) Af)
  (AD (BK (PW.pt (HI (AR DU 21#2 8#4 (AU _)) (Fs (AR Cp (AM hr (WJ T) T.d_27.1 (AA 0#6 (AA 21#2 AB))) AE (AU _))))) (AF FF) Af)
  (AF (A6 PassesOwn.never rfl (NI K 0#8) (BF 2 WK) (AF (BK (En (DT (AM hr (WI T) T.d_48.1 (AA 1#9 1#1)))) (AF FF) Af)))))),?_⟩
 ac_nf;refine⟨by decide,λp hp=>?_⟩;have e1:=AG.new hp (.tup [V.ty "list",V.ty "tuple"]);have h1:AZ H p (.tup [V.ty "list",V.ty "tuple"]) p=some (.tup [V.ty "list",V.ty "tuple"]):=AC;generalize AZ H p (HO.tup [V.ty "list",V.ty "tuple"])=H1 at e1 h1⊢;have ha1:=e1 _ _ ha;refine⟨_,.of (.lst ha1),_,h1,[.type "list",.type "tuple"],rfl,true,cT ZV _,?_⟩;rw[qE (by decide)];refine⟨_,.inl (Aa.of ha1),?_⟩;rw[cU,qE (by lia)];refine⟨_,.inl (Aa.of ha1),g,_,rfl,g2,g9,λm' hm=>⟨rfl,?_⟩,λno=>qG (by rw[cU];exact len) (no m)⟩;rw[cU,len]at hm;have:=FO g2 hm;rw[qE (by intro z;injection z with z;lia)];refine⟨_,rfl,a,rfl,⟨_,Aa.of ha1⟩,?_⟩;refine B3 (xs:=dl.map 1#0) (λi σ H2=>(∃x2,σ=[some 15#3,some 2#6,x2])/\H2=H1) ⟨⟨none,rfl⟩,rfl⟩ (λi σ H2 _ z=>by rw[z.2];exact Aa.of ha1) ?_ ?_
 ·refine Hk ?_;rintro _ _ i x _ hGo σ H2 hx ⟨⟨x2,rfl⟩,rfl⟩;ac_rfl;obtain⟨n,hn,rfl⟩:=CK hx;have b:=tb n (cw hn);ac_nf;refine⟨.int n,g,rfl,trivial,?_⟩;rw[show UQ g (.int n)=true by show (decide (0<=n)&&decide (n<g))=true;rw[qH b.1,qH b.2];rfl];ac_nf;exact⟨_,rfl⟩
 ·refine Dh ?_;rintro _ hGo σ H2 ⟨_,rfl⟩;ac_rfl;clear hGo;exact q _ e1
theorem Zr:AJ ["signs","low","table"] ["signs","low","table"] (AH Xr):=CB
theorem Pz(T:B8 K mg t):B2 P w K mg base 4 t.f_73 ["signs","low","table"] (OR):=by
 refine Am T.d_73.2 Zr λvs H Q E h=>?_;obtain⟨g,lo,a,dl,m,rfl,g2,g9,m1,len,sz,tb,ha,q⟩:=h;symm
 refine⟨_,(AD (Ax (AM hr (Zp T) T.d_20.1 15#2))
  (AD (Ax (AM hr (Zq T) T.d_15.1 (AA 0#6 4#9)))
  (AF (AO (DA (AA 0#6 (AA 0#8 (AA (FJ Fi rfl T.z_tuple PyProof.Rows.boot_tuple 4#9) AB)))))))),?_⟩
 ac_nf;refine⟨g,lo,rfl,g2,g9,g,a,dl,m,rfl,g2,g9,m1,len,sz,tb,ha,λH1 e1=>?_⟩;refine⟨_,.inl ⟨Aa.of (e1 _ _ ha),λl hl=>⟨by decide,λp hp=>?_⟩⟩⟩;have e2:=AG.new hl (.tup 14#9);have e3:=AG.new hp (.tup [.int g,.int lo,.ref l]);exact q p _ ((e1.trans e2).trans e3) ⟨l,AC,e3 _ _ AC⟩
theorem Zs:AJ ["one"] ["one"] (AH Xs):=CB
theorem Fm(T:B8 K mg t):B2 P w K mg base 2 t.f_63 ["one"] (Lf):=by
 refine Am T.d_63.2 Zs λvs H Q E h=>?_;obtain⟨r,g,lo,dl,m,rfl,g2,g9,⟨tb,h1,h2⟩,hl,q⟩:=h;symm;refine⟨_,(AF (AO (AM hr (WJ T) T.d_27.1 (AA (AL 3#5 0#6 AE (λ_ _=>rfl)) (AA (As 21#1 rfl T.z_len dm (AA (AL 3#5 0#6 AE (λ_ _=>rfl)) AB)) AB))))),?_⟩;ac_nf;refine (C9 (v:=.int g) 5#4 (CS rfl) (C9 (v:=.ref tb) 5#4 (CS rfl) ?_));ac_nf;refine⟨_,.inr (Ai.of h2),g,_,rfl,g2,g9,λm' e=>?_,λz=>?_⟩
 ·rw[cU,hl]at e;rw[<-FO g2 e];exact q
 ·exact qG (by rw[cU,hl]) (z m)
theorem Zt:AJ ["one","word"] ["one","word"] (AH Xt):=CB
theorem UE(T:B8 K mg t):B2 P w K mg base 5 t.f_37 ["one","word"] (Pl K):=by
 refine Am T.d_37.2 Zt λvs H Q E h=>?_;obtain⟨r,a,g,lo,dl,m,xs,rfl,g2,g9,hR,hl,hS,kd,h⟩:=h;symm
 refine⟨_,(AD (Ax (AM hr (b8 T) T.d_5.1 (AA 0#8 (AA (AL 3#5 0#6 AE (λ_ _=>rfl)) (AA (AM hr (Fm T) T.d_63.1 1#1) AB)))))
  (AF (AO (AL 3#5 (AL 3#5 0#6 AE (λ_ _=>rfl)) (AM hr (Zn T) T.d_38.1 (AA 0#8 (AA (AL 3#5 0#6 AE (λ_ _=>rfl)) AB))) (λ_ _=>rfl))))),?_⟩
 refine A8.el hR λtb h1 h2=>?_;ac_nf;refine (C9 5#4 rfl ⟨r,g,lo,dl,m,rfl,g2,g9,hR,hl,a,xs,g,m,rfl,hS,kd,?_⟩);cases hb:Ez g m xs with
 |some i =>
  rw[hb]at h;exact h
 |none =>
  rw[hb]at h;obtain⟨hlen,hbi⟩:=Lg hb;obtain⟨ns,rfl,hns⟩:=Fw hbi;rw[cU]at hlen;intro H1 e1;refine (C9 (Ai.of (e1 _ _ h1)) rfl (C9 (Ai.of (e1 _ _ h1)) rfl ⟨a,_,g,rfl,g2,g9,e1.seq hS,FN,?_⟩));rw[hbi];intro ms hms H2 e2;have:=D1 hms;subst this;have nb:=BR g2 hns;rw[hlen,<-hl]at nb;refine (C9 (v:=.int (dl.getD (An g ns).toNat 0)) (Ai.of (e2 _ _ (e1 _ _ h2))) ?_ (h ns rfl _ 20#7));have z:=Dn (ns:=dl) (k:=(An g ns).toNat) (by lia);rw[show (((An g ns).toNat:Nat):Int)=An g ns by lia]at z;exact z
theorem WL:AJ ["one","head","sign","first"] ["one","head","sign"] (AH Xu):=CB
theorem UF(T:B8 K mg t) :B2 P w K mg base 1 t.f_39 ["one","head","sign"] (SU):=by
 refine Am T.d_39.2 WL λvs H Q E h=>?_;obtain⟨r,g,lo,dl,m,h,s',rfl,ok,hh,q⟩:=h;symm
 refine⟨_,(AD (AQ 3 WL (AK CJ 0#8 (AL 3#5 0#6 AE (λ_ _=>rfl))))
  (AF (AO (C7 [(2,"sign"),(0,"one")] [("sign",_),("one",_)] (QI rfl T.z_range (AA 2#7 (AA (AK A3 2#7 (AL 3#5 0#6 AE (λ_ _=>rfl))) AB))) (λ_ _ _ _=>(Fy (AR Cp (AL (Oo (K:=K) rfl) (AL (Oo (K:=K) rfl) 1#9 AE (λ_ _=>rfl)) 0#6 (λ_ _=>rfl)) 0#8 (AU _)))) (λ_ _ _ _=>0#6))))),?_⟩
 refine A8.el ok.v λtb h1 h2=>?_;have g2:=ok.g2;have g9:=ok.g9;have m1:=ok.m1;have m8:=ok.m8;have hl:=20#4;have sz:=ok.sz;have hlm:(dl.map 1#0).length=0#0:=cU ..;have hd:=Ao g2 hl m1;ac_nf;have gn:((0#2:Nat):Int)=g:=by lia
 have hb2:h*0#2+0#2<=0#0:=by have:=gK g.toNat (show h+1<=0#0/0#2 from hh);rw[jI,Nat.one_mul]at this;lia
 refine (C9 5#4 rfl ⟨g,rfl,.inr ⟨by lia,by lia⟩,?_⟩);refine⟨_,rfl,_,rfl,_,rfl,r,_,0,_,rfl,rfl,Ai.of h1,rfl,_,_,rfl,rfl,_,_,rfl,?_⟩;have eh:(h:Int)*g=((h*0#2:Nat):Int):=by rw[eS,gn]
 rw[eh];refine⟨⟨by lia,by lia,by lia,by lia⟩,λD hD=>?_⟩;rw[show (((h*0#2:Nat):Int)+g-((h*0#2:Nat):Int)).toNat=0#2 by lia];refine Bb (lo:=((h*0#2:Nat):Int)) (n:=0#2) (λi j5 Hx=>j5=(Fc (((List.range i).filter λj=>decide (dl.getD (h*0#2+j) 0=s')).map λj=>h*0#2+j)).map 1#0/\Hx=AZ H D 5#0) ⟨rfl,rfl⟩ ?_ ?_
 ·refine Dg ?_;rintro i _ hGo j5 Hx hi ⟨rfl,rfl⟩;ac_rfl;have en:=AG.new hD (.lst ((Fc (((List.range i).filter λj=>decide (dl.getD (h*0#2+j) 0=s')).map λj=>h*0#2+j)).map 1#0));have ei:((h*0#2:Nat):Int)+(i:Int)=((h*0#2+i:Nat):Int):=by lia
  have fl:((List.range i).filter λj=>decide (dl.getD (h*0#2+j) 0=s')).length<=i:=by have:=fT (λj=>decide (dl.getD (h*0#2+j) 0=s')) (List.range i);rw[dL]at this;exact this
  rw[ei];ac_nf;refine (C9 (Ai.of (en _ _ h1)) rfl (C9 (Ai.of (en _ _ h2)) (Dn (by lia)) ⟨rfl,?_⟩))
  by_cases hc:dl.getD (h*g.toNat+i) 0=s'
  ·rw[qF (by rw[hc])];refine⟨AC,?_,?_,by rw[EJ]⟩
   ·unfold Fc;rw[cU,cU,cU];exact AW (by lia)
   ·unfold Fc;have f1:([i]:List Nat).filter (λj=>decide (dl.getD (h*0#2+j) 0=s'))=[i]:=by rw[List.filter_cons,qF (qH hc)];rfl
    rw[d8,fG,f1,cq,cq,cq];rfl
  ·rw[qE (by intro z;exact hc (V.int.inj z))];have f1:([i]:List Nat).filter (λj=>decide (dl.getD (h*0#2+j) 0=s'))=[]:=by rw[List.filter_cons,qE (by rw[qI hc];decide)];rfl
   rw[d8,fG,f1,dU];exact⟨rfl,rfl⟩
 ·refine Dh ?_;rintro _ hGo j5 Hx ⟨rfl,rfl⟩;ac_rfl;clear hGo;exact q D _ ⟨AG.new hD _,hD,AC⟩
theorem Zu:AJ ["one"] ["one"] (AH Xv):=CB
theorem Eh(T:B8 K mg t) :B2 P w K mg base 1 t.f_68 ["one"] (Oy):=by
 refine Am T.d_68.2 Zu λvs H Q E h=>?_;obtain⟨r,g,lo,dl,m,rfl,ok,q⟩:=h;symm;refine⟨_,(AF (AO (AK Bx (As 21#1 rfl T.z_len dm (AA (AL 3#5 0#6 AE (λ_ _=>rfl)) AB)) (AL 3#5 0#6 AE (λ_ _=>rfl))))),?_⟩;refine A8.el ok.v λtb h1 h2=>?_;have g2:=ok.g2;have g9:=ok.g9;have m1:=ok.m1;have m8:=ok.m8;have hl:=20#4;have sz:=ok.sz;have hlm:(dl.map 1#0).length=0#0:=cU ..;ac_nf;refine (C9 5#4 rfl ?_);ac_nf;refine⟨_,.inr (Ai.of h2),C9 5#4 rfl ⟨g,rfl,by lia,by lia,?_⟩⟩
 have e:(((dl.map 1#0).length:Nat):Int)/g=((0#0/0#2:Nat):Int):=by rw[hlm,gB,dE (by lia)]
 rw[e];exact q
theorem M7:AJ ["one","weight","table","number","told","there"] ["one","weight"] (AH Xw):=CB
theorem Zv(T:B8 K mg t) :B2 P w K mg base 1 t.f_59 ["one","weight"] (Ln):=by
 refine Am T.d_59.2 M7 λvs H Q E h=>?_;obtain⟨r,g,lo,dl,wt,rfl,g2,g9,hR,w0,w3,tl,q⟩:=h;symm
 refine⟨_,(AD (AQ 2 M7 (AL 3#5 0#6 AE (λ_ _=>rfl)))
  (AD (A6 PassesOwn.never rfl (Ii rfl T.z_enumerate 4#9) (Ep rfl (BV (BF 3 M7) (BV (BF 4 M7) Dl))) (AD (AQ 5 M7 (AK A9 (AK Bx 2#7 0#8) (AL 3#5 0#6 AE (λ_ _=>rfl))))
  (AF (BK (AR HJ 5#6 (AL 3#5 1#9 (AK BX 2#7 (AK CJ 8#8 0#8)) (λ_ _=>rfl)) (AU _)) (AF (AO Jy)) Af))))
  (AF (AO Jy)))),?_⟩
 refine A8.el hR λtb h1 h2=>?_;ac_nf;refine (C9 5#4 rfl ?_);ac_nf;refine⟨_,rfl,tb,_,rfl,Ai.of h2,?_⟩;refine J8 (xs:=dl.map 1#0) (λi σ H1=>(∃x3 x4 x5,σ=[some 2#4,some (.int wt),some (.ref tb),x3,x4,x5])/\AG H H1/\∀k,k<i->dl.getD k 0=dl.getD ((k:Int)-(k:Int)/wt%g*wt).toNat 0) ⟨⟨none,none,none,rfl⟩,AG.refl _,λk hk=>qG hk (iD _)⟩ (λi σ H1 _ z=>Ai.of (z.2.1 _ _ h2)) ?_ ?_
 ·intro i x p2;refine Pu ?_;rintro _ hGo σ H1 hx ⟨⟨x3,x4,x5,rfl⟩,e,hall⟩;refine hGo _ _ λhp2=>?_;clear hGo;obtain⟨n,hn,rfl⟩:=CK hx;have hi:i<0#0:=(cW.mp hn).1;have e2:AG H (AZ H1 p2 (.tup [.int ((i:Nat):Int),.int n])):=e.trans (AG.new hp2 _);refine⟨p2,_,rfl,Ai.of AC,rfl,_,_,rfl,_,_,rfl,rfl,?_⟩;ac_nf;have ix:=XG (k:=(i:Int)) (w:=wt) (g:=g) (by lia) w0 g2;have gA:=E2 (ns:=dl) ix.1 (by lia);have ng:n=dl.getD i 0:=by rw[cV,hn];rfl
  refine⟨w0,by lia,C9 (Ai.of (e2 _ _ h1)) rfl ⟨g,rfl,by lia,.inr ⟨by lia,by lia⟩,C9 (Ai.of (e2 _ _ h2)) gA ⟨rfl,?_⟩⟩⟩
  by_cases hd:V.int n=V.int (dl.getD ((i:Int)-(i:Int)/wt%g*wt).toNat 0)
  ·rw[qE (λz=>z hd)];refine⟨⟨_,rfl⟩,e2,λk hk=>?_⟩
   by_cases z:k=i
   ·subst z;rw[<-ng];exact V.int.inj hd
   ·exact hall k (by lia)
  ·rw[qF hd];have z:CY g dl wt=true:=Gu.mpr ⟨i,hi,λy=>hd (by rw[ng,y])⟩;rw[z]at q;exact q _ e2
 ·refine Dh ?_;rintro _ hGo σ H1 ⟨⟨x3,x4,x5,rfl⟩,e,hall⟩;ac_rfl;clear hGo;ac_nf;rw[cU]at hall
  have z:CY g dl wt=false:=by
   cases z:CY g dl wt with
   |false=>rfl
   |true =>
    obtain⟨k,hk,h⟩:=Gu.mp z;exact qG (hall k hk) h
  rw[z]at q;exact q H1 e
theorem M9:AJ ["one","found","weight","at"] ["one"] (AH Xx):=CB
theorem WM(T:B8 K mg t):B2 P w K mg base 3 t.f_43 ["one"] (Ij):=by
 refine Am T.d_43.2 M9 λvs H Q E h=>?_;obtain⟨r,g,lo,dl,m,rfl,g2,g9,hR,hl,m1,m8,gm,q⟩:=h;symm
 refine⟨_,(AD (AQ 1 M9 11#5)
  (AD (AQ 2 M9 (As 21#1 rfl T.z_len dm (AA (AL 3#5 0#6 AE (λ_ _=>rfl)) AB)))
  (AD (A6 PassesOwn.never rfl (Aj rfl T.z_range (AA (AM hr (Fm T) T.d_63.1 1#1) AB)) (BF 3 M9) (AD (AQ 2 M9 (AK Bx 1#9 (AL 3#5 0#6 AE (λ_ _=>rfl))))
  (AF (BK (DT (AM hr (Zv T) T.d_59.1 (AA 0#6 4#9))) (AF (Ax (LL K 0#8 (AA (AK A3 (AL 3#5 0#6 AE (λ_ _=>rfl)) 2#7) AB)))) Af))))
  21#9))),?_⟩
 refine A8.el hR λtb h1 h2=>?_;ac_nf;refine⟨dz _,λp hp=>?_⟩;have e0:=AG.new hp (.lst []);refine (C9 (Ai.of (e0 _ _ h1)) rfl ?_);ac_nf;refine⟨_,.inr (Ai.of (e0 _ _ h2)),?_⟩;rw[cU];refine⟨_,rfl,r,g,lo,dl,m,rfl,g2,g9,hR.same e0,hl,_,rfl,by lia,by lia,?_⟩;refine BN (n:=m) (λi σ H1=>∃x3,σ=[some 2#4,some 1#5,some (.int (g^(m-i))),x3]/\AG H H1/\H1 p=some (.lst ((((List.range i).filter λj=>CY g dl (g^(m-1-j))).map λj:Nat=>lo+(j:Int)).map 1#0))) ⟨none,by rw[hl,Nat.sub_zero],e0,AC⟩ ?_ ?_
 ·refine Ds ?_;rintro _ _ i _ hGo σ H1 hi ⟨x3,rfl,e,hp1⟩;ac_rfl;have dv:g^(m-i)/g=g^(m-1-i):=by rw[show m-i=(m-1-i)+1 by lia,dj,Int.mul_ediv_cancel _ (by lia)]
  have gp:=RW.Ad g2 (m-1-i);have gb:=CO g2 (show m-1-i<=m by lia);ac_nf;refine (C9 (Ai.of (e _ _ h1)) rfl ?_);ac_nf;rw[dv];refine⟨by lia,by lia,r,g,lo,dl,_,rfl,g2,g9,hR.same e,gp,by lia,by lia,λH2 e2=>?_⟩;have e3:=e.trans e2;refine⟨_,rfl,?_⟩;cases hc:CY g dl (g^(m-1-i)) with
  |true =>
   rw[qF rfl];refine⟨.inl ⟨_,Aa.of (e2 _ _ hp1)⟩,C9 (Ai.of (e3 _ _ h1)) rfl ⟨lo,rfl,_,e2 _ _ hp1,?_,by rw[show m-(i+1)=m-1-i by lia],e3.into hp,?_⟩⟩
   ·rw[cU,cU];have:=fT (λj=>CY g dl (g^(m-1-j))) (List.range i);rw[dL]at this;exact AW (by lia)
   ·rw[AC,d8,fG,cq,cq,dO];simp[List.filter,hc]
  |false =>
   rw[qE (by decide)];refine⟨by rw[show m-(i+1)=m-1-i by lia],e3,?_⟩;rw[e2 _ _ hp1,d8,fG];simp[List.filter,hc]
 ·refine Dh ?_;rintro _ hGo σ H1 ⟨x3,rfl,e,hp1⟩;ac_rfl;clear hGo;ac_nf;exact q p H1 ⟨e,hp,hp1⟩
theorem b9:AJ ["word","at"] ["word","at"] (AH bf):=CB
theorem cB(T:B8 K mg t) :B2 P w K mg base 1 t.f_1 ["word","at"] (Ly K):=by
 refine Am T.d_1.2 b9 λvs H Q E h=>?_;obtain⟨a,v,z,rfl,hS,q⟩:=h;symm
 refine⟨_,(AD (BK (PW.pt (HI (AR Dy 0#8 AE (AU _)) (Fs (AR Oc 0#8 21#4 (AU _))))) (AF (AO AE)) Af)
  (AF (AO (AL 3#7 0#6 0#8 (λ_ _=>rfl))))),?_⟩
 have hlm:(v.map 1#0).length=14#2:=cU ..;unfold sn at q;ac_nf
 by_cases h0:z<0
 ·rw[qF (.inl h0)]at q;rw[qF h0];exact q
 rw[qE h0];refine⟨_,.inl hS,?_⟩;rw[hlm]
 by_cases h1:(v.length:Int)<=z
 ·rw[qF (.inr h1)]at q;rw[qF h1];exact q
 rw[qE h1];rw[qE (by lia)]at q;exact⟨a,_,_,_,rfl,rfl,hS,E2 (by lia) (by lia),q⟩
theorem NA:AJ ["one","low","many","ahead","table","number","word"] ["one","low","many"] (AH Xy):=CB
theorem UG(T:B8 K mg t):B2 P w K mg base 6 t.f_36 ["one","low","many"] (Oz):=by
 refine Am T.d_36.2 NA λvs H Q E h=>?_;obtain⟨r,g,lo,dl,m,low,M,rfl,ok,M1,gM,q⟩:=h;symm
 refine⟨_,(AD (AQ 3 NA (AK BX (AL 3#5 0#6 AE (λ_ _=>rfl)) 0#8))
  (AD (AQ 4 NA 11#5)
  (AD (A6 PassesOwn.never rfl (Aj rfl T.z_range (AA (AM hr (RI T) T.d_9.1 (AA (AL 3#5 0#6 AE (λ_ _=>rfl)) 4#9)) AB)) (BF 5 NA) (AD (AQ 6 NA (AM hr (M5 T) T.d_55.1 (AA 8#8 (AA (AL 3#5 0#6 AE (λ_ _=>rfl)) 4#9))))
  (AF (Ax (LL K 5#6 (AA (AM hr (UE T) T.d_37.1 (AA 0#6 (AA (C7 [(6,"word"),(3,"ahead")] [("word",_),("ahead",_)] (Aj rfl T.z_range (AA (AM hr (Fm T) T.d_63.1 1#1) AB)) (λ_ _ _ _=>Cs) (λ_ _ _ _=>(AM hr (cB T) T.d_1.1 (AA 0#8 (AA (AK A3 1#9 0#6) AB))))) AB))) AB))))))
  (AF (AO (AM hr (Pz T) T.d_73.1 (AA (AL 3#5 0#6 AE (λ_ _=>rfl)) (AA 0#8 10#8)))))))),?_⟩
 refine A8.el ok.v λtb h1 h2=>?_;have g2:=ok.g2;have g9:=ok.g9;have m8:=ok.m8;have hl:=20#4;have gp:=RW.Ad g2 M;have M8:=EU g2 gM;ac_nf;refine (C9 5#4 rfl ⟨lo,rfl,dz _,λp hp=>?_⟩);have e0:=AG.new hp (.lst []);refine⟨_,rfl,r,_,0,_,rfl,rfl,Ai.of (e0 _ _ h1),rfl,_,rfl,?_⟩;refine⟨g,_,rfl,g2,g9,by lia,λ_=>?_,λz=>qG z (by rw[cp];lia)⟩;rw[cp];refine⟨_,rfl,by lia,by lia,?_⟩;refine BN (n:=(g^M).toNat) (λi σ H1=>∃x5 x6,σ=[some 2#4,some (.int low),some (.int ((M:Nat):Int)),some (.int (lo-low)),some 1#5,x5,x6]/\AG H H1/\H1 p=some (.lst (((List.range i).map λn:Nat=>dl.getD (An g (NH (Aw g (n:Int) M) (lo-low) m)).toNat 0).map 1#0))) ⟨none,none,rfl,e0,AC⟩ ?_ ?_
 ·refine Ds ?_;rintro _ _ i _ hGo σ H1 hi ⟨x5,x6,rfl,e,hp1⟩;ac_rfl;ac_nf;refine (C9 (Ai.of (e _ _ h1)) rfl ⟨_,g,_,rfl,g2,g9,by lia,by lia,λz=>qG z (by rw[cp];lia),λ_ _ pw H2 hN2=>?_⟩);rw[cp,dO]at hN2;have e2:=e.trans hN2.1;have hp2:=hN2.1 _ _ hp1;refine⟨.inl ⟨_,Aa.of hp2⟩,?_⟩;refine⟨_,rfl,r,g,lo,dl,m,rfl,g2,g9,ok.v.same e2,hl,_,rfl,by lia,by lia,λD hD=>?_⟩;rw[cp];have hw2:H2 pw=some (.lst ((Aw g (i:Int) M).map 1#0)):=hN2.2.2;refine Bb (n:=m) (λj j5 Hx=>j5=((List.range j).map λk:Nat=>sn (Aw g (i:Int) M) (lo-low+(k:Int))).map 1#0/\Hx=AZ H2 D 5#0) ⟨rfl,rfl⟩ ?_ ?_
  ·refine Dg ?_;rintro j _ hGo j5 Hx hj ⟨rfl,rfl⟩;ac_rfl;ac_nf;rw[dO];refine⟨pw,_,_,rfl,Aa.of (AG.new hD _ _ _ hw2),AC,?_,?_,by rw[EJ]⟩
   ·rw[cU,cU,dL];exact AW (by lia)
   ·rw[BE,cq];rfl
  ·refine Dh ?_;rintro _ hGo j5 Hx ⟨rfl,rfl⟩;ac_rfl;clear hGo;have en:=AG.new hD (.lst ((NH (Aw g (i:Int) M) (lo-low) m).map 1#0));have bb:=SO g2 (B4 g2 (i:Int) M) (lo-low) m;have bl:=E1 bb;rw[Do]at bl;refine⟨r,D,g,lo,dl,m,(NH (Aw g (i:Int) M) (lo-low) m).map 1#0,rfl,g2,g9,(ok.v.same e2).same en,hl,Aa.of AC,FN,?_⟩;rw[bl];intro ms hms H4 e4;have:=D1 hms;subst this;have e24:=en.trans e4;refine⟨_,e24 _ _ hp2,?_,(e2.trans e24).into hp,?_⟩
   ·rw[cU,cU,dL];exact AW (by lia)
   ·rw[AC,BE,cq];rfl
 ·refine Dh ?_;rintro _ hGo σ H1 ⟨x5,x6,rfl,e,hp1⟩;ac_rfl;clear hGo;ac_nf;refine (C9 (Ai.of (e _ _ h1)) rfl ?_);exact Ec (E:=E0) (dl:=Ek g lo dl m low M) g2 g9 M1 (By g2 _ _ _ _ _) gM (Gs g2 _ ok.tb _ _ _) (.inl hp1) λr' H' e' hR=>q r' H' (e.trans e') (ok.bw M1 gM hR)
theorem WN:AJ ["one","found"] ["one"] (AH Xz):=CB
theorem Kg(T:B8 K mg t):B2 P w K mg base 7 t.f_62 ["one"] (Lz):=by
 refine Am T.d_62.2 WN λvs H Q E h=>?_;obtain⟨r,g,lo,dl,m,rfl,ok,q⟩:=h;symm
 refine⟨_,(AD (AQ 1 WN (AM hr (WM T) T.d_43.1 1#1))
  (AD (BK (AR Cp 21#2 AE (AU _)) (AF (AO (AM hr (UG T) T.d_36.1 (AA 0#6 (BH 19#8))))) Af)
  (AF (AO (AM hr (UG T) T.d_36.1 (AA 0#6 (AA (AL 3#7 0#8 AE (λ_ _=>rfl)) (AA (AK A3 (AK BX (AL 3#7 0#8 (RT NO AE) (λ_ _=>rfl)) (AL 3#7 0#8 AE (λ_ _=>rfl))) AE) AB)))))))),?_⟩
 have g2:=ok.g2;have g9:=ok.g9;have m1:=ok.m1;have m8:=ok.m8;have sz:=ok.sz;ac_nf;refine⟨r,g,lo,dl,m,rfl,g2,g9,ok.v,20#4,m1,m8,sz,λp H1 hN1=>?_⟩;have hcl:((Br g lo dl m).map 1#0).length=(Br g lo dl m).length:=cU ..;ac_nf;refine⟨_,.inl (Aa.of hN1.2.2),?_⟩;rw[hcl]
 by_cases hc:Br g lo dl m=[]
 ·rw[qF (by rw[hc];rfl)];have g1:g^1=g:=by rw[dj,eV,fj]
  exact⟨r,g,lo,dl,m,0,1,rfl,ok.same hN1.1,cj _,by lia,λr' H' e' ok'=>q 0 1 (Lq hc) r' H' (hN1.1.trans e') ok'⟩
 ·obtain⟨M,hM,hMm,hW⟩:=KB hc;have hp0:0<(Br g lo dl m).length:=iT.mpr hc;rw[qE (by lia)];have gM:=CO g2 hMm;refine (B1 (Aa.of hN1.2.2) (E2 (by decide) (by show 0<_;lia)) (B1 (Aa.of hN1.2.2) (Qb hp0) (B1 (Aa.of hN1.2.2) (E2 (by decide) (by show 0<_;lia)) ⟨_,rfl,_,rfl,?_⟩)));refine⟨r,g,lo,dl,m,(Br g lo dl m).getD 0 0,M,?_,ok.same hN1.1,hW.one,by lia,λr' H' e' ok'=>q _ M hW r' H' (hN1.1.trans e') ok'⟩;rw[hM];rfl
theorem Zw:AJ ["one","other"] ["one","other"] (AH X0):=CB
theorem Zx(T:B8 K mg t):B2 P w K mg base 8 t.f_74 ["one","other"] (Se):=by
 refine Am T.d_74.2 Zw λvs H Q E h=>?_;obtain⟨r,r',g,lo,dl,m,g',lo',tab',m',rfl,ok,ok',q⟩:=h;symm;refine⟨_,(AF (AO (EK (DI Cp (AL 3#5 0#6 AE (λ_ _=>rfl)) (AL 3#5 0#8 AE (λ_ _=>rfl)) (AU _)) (Eo (DI (XB hr.units) (AM hr (Kg T) T.d_62.1 1#1) (AM hr (Kg T) T.d_62.1 2#0) (AU _)))))),?_⟩;refine A8.el ok.v λtb h1 h2=>?_;refine A8.el ok'.v λtb' h1' h2'=>?_;ac_nf;refine (C9 5#4 rfl (C9 (Ai.of h1') rfl ⟨rfl,?_⟩))
 by_cases e:g=g'
 ·subst e;rw[qF rfl];refine⟨r,g,lo,dl,m,rfl,ok,λlow M hW r2 H2 e2 ok2=>?_⟩;refine⟨r',g,lo',tab',m',rfl,ok'.same e2,λlow' M' hW' r3 H3 e3 ok3=>?_⟩;refine⟨_,_,(ok2.same e3).v.dat,ok3.v.dat,Lh ..,Lh ..,Nf ..,?_⟩;refine q _ _ (e2.trans e3) ?_;rw[K1,DJ ok.g2 ok.len ok'.len hW hW']
 ·rw[qE (λz=>e (V.int.inj z))];exact q false H (AG.refl _) ⟨(λz=>Bool.noConfusion z),λz=>qG z.1 e⟩
theorem WO:AJ ["one","low","high","place"] ["one","low","high"] (AH X1):=CB
theorem Zy(T:B8 K mg t):B2 P w K mg base 7 t.f_53 ["one","low","high"] (KG t.c_40 t.c_46):=by
 refine Fk T.d_53.2 WO λvs H Q E h=>?_;obtain⟨r,g,lo,dl,m,low,high,rfl,ok,hout,hwide,hok⟩:=h;symm
 refine⟨_,(AD (BK (AR DU 0#8 1#9 (AU _)) (AF (DV rfl T.x_40 rfl T.m_40 B9 (AA Fq AB))) Af)
  (AD (A6 PassesOwn.leaving rfl (NI K (AM hr (WM T) T.d_43.1 1#1)) (BF 3 WO) (AF (BK (PW.pt (HI (AR Dy 2#7 0#8 (AU _)) (Fs (AR DU 2#7 1#9 (AU _))))) (AF (DV rfl T.x_40 rfl T.m_40 B9 (AA Fq AB))) Af)))
  (AD (BK (AR DU (AM hr (RI T) T.d_9.1 (AA (AL 3#5 0#6 AE (λ_ _=>rfl)) (AA (AK A3 (AK BX 1#9 0#8) AE) AB))) 8#4 (AU _)) (AF (DV rfl T.x_46 rfl T.m_46 B9 (AA Fq AB))) Af)
  (AF (AO (AM hr (UG T) T.d_36.1 (AA 0#6 (AA 0#8 (AA (AK A3 (AK BX 1#9 0#8) AE) AB))))))))),?_⟩
 refine A8.el ok.v λtb h1 h2=>?_;have g2:=ok.g2;have g9:=ok.g9;have m1:=ok.m1;have m8:=ok.m8;ac_nf
 by_cases hlh:high<low
 ·rw[qF hlh];exact⟨by decide,hout (.inl hlh) _ (AG.refl _)⟩
 rw[qE hlh];refine⟨_,rfl,r,g,lo,dl,m,rfl,g2,g9,ok.v,20#4,m1,m8,ok.sz,λp H1 hN1=>?_⟩;refine⟨p,rfl,⟨_,Aa.of hN1.2.2⟩,?_⟩;refine B3 (xs:=(Br g lo dl m).map 1#0) (λi σ H2=>(∃x3,σ=[some 2#4,some (.int low),some (.int high),x3])/\H2=H1/\∀z∈(Br g lo dl m).take i,low<=z/\z<=high) ⟨⟨none,rfl⟩,rfl,λz hz=>qG hz (by simp)⟩ (λi σ H2 _ z=>by rw[z.2.1];exact Aa.of hN1.2.2) ?_ ?_
 ·refine Hk ?_;rintro _ _ i x _ hGo σ H2 hx ⟨⟨x3,rfl⟩,rfl,hall⟩;ac_rfl;obtain⟨n,hn,rfl⟩:=CK hx;have nm:=cw hn;ac_nf
  by_cases c1:n<low
  ·rw[qF c1];exact⟨by decide,hout (.inr ⟨n,nm,.inl c1⟩) _ hN1.1⟩
  rw[qE c1]
  by_cases c2:high<n
  ·rw[qF c2];exact⟨by decide,hout (.inr ⟨n,nm,.inr c2⟩) _ hN1.1⟩
  rw[qE c2];refine⟨⟨_,rfl⟩,λz hz=>?_⟩;rw[gu,hn]at hz;rcases cZ.mp hz with y|y
  ·exact hall z y
  ·have:z=n:=by simpa using y
   lia
 ·refine Dh ?_;rintro _ hGo σ H2 ⟨⟨x3,rfl⟩,rfl,hall⟩;ac_rfl;clear hGo;rw[cU,du]at hall
  have nout:¬Uz g lo dl m low high:=by
   rintro (z|⟨z,hz,y⟩)
   ·exact hlh z
   ·have:=hall z hz;lia
  ac_nf;refine (C9 (Ai.of (hN1.1 _ _ h1)) rfl ⟨g,_,rfl,g2,g9,by lia,λhle=>?_,λhgt rr hrr=>?_⟩)
  ·refine⟨_,rfl,?_⟩;rw[qE (by lia)];exact⟨r,g,lo,dl,m,low,(high-low+1).toNat,by rw[show (((high-low+1).toNat:Nat):Int)=high-low+1 by lia],ok.same hN1.1,by lia,hle,λr' H' e' ok'=>hok nout hle r' H' (hN1.1.trans e') ok'⟩
  ·refine⟨_,rfl,?_⟩;rw[qF hrr];exact⟨by decide,hwide nout hgt _ hN1.1⟩
theorem Gf:AJ ["one","row","signs","table","short","number","told","at","sign"] ["one","row"] (AH X3):=CB
theorem Zz(T:B8 K mg t):B2 P w K mg base 3 t.f_71 ["one","row"] (SM K):=by
 refine Am T.d_71.2 Gf λvs H Q E h=>?_;obtain⟨r,a,g,lo,dl,m,ns,rfl,g2,g9,hR,hl,m1,hS,hb,hn,q⟩:=h;symm
 refine⟨_,(AD (AQ 2 Gf (AL 3#5 0#6 AE (λ_ _=>rfl)))
  (AD (AQ 3 Gf (AL 3#5 0#6 AE (λ_ _=>rfl)))
  (AD (AQ 4 Gf (AK BX (AM hr (Fm T) T.d_63.1 1#1) AE))
  (AD (AQ 5 Gf AE)
  (AD (AQ 6 Gf 11#5)
  (AD (A6 PassesOwn.never rfl (IA rfl T.z_enumerate 2#0) (Ep rfl (BV (BF 7 Gf) (BV (BF 8 Gf) Dl))) (AD (AQ 5 Gf (AK A9 (AK A3 (AK CJ 8#8 1#9) (pv 8)) 21#3))
  (AF (BK (AR Oc (pv 7) 5#6 (AU _)) (AF (Ax (LL K 20#0 (AA (AL 3#5 2#7 8#8 (λ_ _=>rfl)) AB)))) Af))))
  (AF (AO 20#0)))))))),?_⟩
 refine A8.el hR λtb h1 h2=>?_;ac_nf;refine (C9 5#4 rfl ?_);ac_nf;refine (C9 5#4 rfl ?_);ac_nf;refine⟨r,g,lo,dl,m,rfl,g2,g9,hR,hl,?_⟩;ac_nf;refine⟨dz _,λp hp=>?_⟩;have gp:=RW.Ad g2 m;refine⟨_,rfl,a,_,rfl,(AG.new hp _).seq hS,?_⟩;refine GK (xs:=ns.map 1#0) (λi σ H1=>(∃x7 x8,σ=[some 2#4,some 2#6,some 15#3,some (.ref tb),some (.int ((m:Int)-1)),some (.int (An g (ns.take i)%g^m)),some 1#5,x7,x8])/\AG H H1/\H1 p=some (.lst (((List.range (i+1-m)).map (Gp g dl m ns)).map 1#0))) ⟨⟨none,none,by rw[List.take_zero];rfl⟩,AG.new hp _,by rw[AC,show 0+1-m=0 by lia];rfl⟩ (λi σ H1 _ z=>z.2.1.seq hS) ?_ ?_
 ·intro i x p2;refine Pu ?_;rintro _ hGo σ H1 hx ⟨⟨x7,x8,rfl⟩,e,hp1⟩;refine hGo _ _ λhp2=>?_;clear hGo;obtain⟨n,hn1,rfl⟩:=CK hx;have hi:i<1#6:=(cW.mp hn1).1;have e2:AG H (AZ H1 p2 (.tup [.int ((i:Nat):Int),.int n])):=e.trans (AG.new hp2 _);have hp3:=AG.new hp2 (.tup [.int ((i:Nat):Int),.int n]) _ _ hp1;refine⟨p2,_,rfl,Ai.of AC,rfl,_,_,rfl,_,_,rfl,rfl,?_⟩;ac_nf;have htl:((dl.map 1#0).length:Int)=g^m:=by rw[cU,hl]
  have hst:(An g (ns.take i)%g^m*g+n)%g^m=An g (ns.take (i+1))%g^m:=by rw[SL,Ia hn1]
  refine⟨.inr ⟨by lia,by lia⟩,_,.inr (Ai.of (e2 _ _ h2)),by lia,?_⟩;rw[htl,hst]
  by_cases hge:(m:Int)-1<=(i:Int)
  ·rw[qF hge];have hw:=Uv g2 hb (k:=i+1-m) (m:=m) (by lia);rw[show i+1-m+m=i+1 by lia]at hw;have wi:=Ng g2 hb hl (k:=i+1-m) (by lia);rw[hw];refine⟨.inl ⟨_,Aa.of hp3⟩,C9 (Ai.of (e2 _ _ h2)) (E2 wi.1 wi.2) ⟨_,hp3,?_,rfl,⟨_,rfl⟩,e2.into hp,?_⟩⟩
   ·rw[cU,cU,dL];exact AW (by lia)
   ·rw[AC,show i+1+1-m=(i+1-m)+1 by lia,BE,cq];rfl
  ·rw[qE hge];refine⟨rfl,⟨_,rfl⟩,e2,?_⟩;rw[hp3,show i+1-m=0 by lia,show i+1+1-m=0 by lia]
 ·refine Dh ?_;rintro _ hGo σ H1 ⟨⟨x7,x8,rfl⟩,e,hp1⟩;ac_rfl;clear hGo;ac_nf;rw[cU]at hp1;exact q p H1 ⟨e,hp,hp1⟩
theorem Z0:AJ ["one","row"] ["one","row"] (AH X4):=CB
theorem Z1(T:B8 K mg t):B2 P w K mg base 4 t.f_76 ["one","row"] (T6 K):=by
 refine Am T.d_76.2 Z0 λvs H Q E h=>?_;obtain⟨r,a,g,lo,dl,m,ns,rfl,g2,g9,hR,hl,m1,hS,hb,hn,q⟩:=h;symm
 refine⟨_,(AD (Ax (AM hr (Pw T) T.d_21.1 (AA 0#8 (AA (AL 3#5 0#6 AE (λ_ _=>rfl)) AB))))
  (AF (AO (AM hr (Zz T) T.d_71.1 15#2)))),?_⟩
 refine A8.el hR λtb h1 h2=>?_;ac_nf;refine (C9 5#4 rfl ⟨a,_,g,rfl,hS,FN,?_⟩);rw[Fx hb];intro H1 e;exact⟨r,a,g,lo,dl,m,ns,rfl,g2,g9,hR.same e,hl,m1,e.seq hS,hb,hn,λp H' hN=>q p H' ⟨e.trans hN.1,e.free hN.2.1,hN.2.2⟩⟩
theorem P0:AJ ["one","many","table","number"] ["one"] (AH X5):=CB
theorem WP(T:B8 K mg t):B2 P w K mg base 6 t.f_65 ["one"] (Lx):=by
 refine Am T.d_65.2 P0 λvs H Q E h=>?_;obtain⟨r,g,lo,dl,m,rfl,ok,q⟩:=h;symm
 refine⟨_,(AD (AQ 1 P0 (AM hr (Fm T) T.d_63.1 1#1))
  (AD (AQ 2 P0 11#5)
  (AD (A6 PassesOwn.never rfl (Aj rfl T.z_range (AA (As 21#1 rfl T.z_len dm (AA (AL 3#5 0#6 AE (λ_ _=>rfl)) AB)) AB)) (BF 3 P0) (AF (Ax (LL K 1#9 (AA (AM hr (UE T) T.d_37.1 (AA 0#6 (AA (Hz rfl rfl T.z_reversed rfl T.z_list (AA (AM hr (M5 T) T.d_55.1 (AA 2#7 (AA (AL 3#5 0#6 AE (λ_ _=>rfl)) 2#0))) AB)) AB))) AB)))))
  (AF (AO (AM hr (Pz T) T.d_73.1 (AA (AL 3#5 0#6 AE (λ_ _=>rfl)) (AA (AK BX (AK BX AE (AL 3#5 0#6 AE (λ_ _=>rfl))) 0#8) 4#9)))))))),?_⟩
 refine A8.el ok.v λtb h1 h2=>?_;have g2:=ok.g2;have g9:=ok.g9;have m8:=ok.m8;have hl:=20#4;have sz:=ok.sz;have hlm:(dl.map 1#0).length=0#0:=cU ..;ac_nf;refine⟨r,g,lo,dl,m,rfl,g2,g9,ok.v,hl,?_⟩;ac_nf;refine⟨dz _,λp hp=>?_⟩;have e0:=AG.new hp (.lst []);refine⟨_,rfl,r,_,2,_,rfl,rfl,Ai.of (e0 _ _ h1),rfl,tb,rfl,_,.inr (Ai.of (e0 _ _ h2)),_,rfl,by lia,by lia,?_⟩;rw[hlm];refine BN (n:=0#0) (λi σ H1=>∃x3,σ=[some 2#4,some (.int ((m:Nat):Int)),some 1#5,x3]/\AG H H1/\H1 p=some (.lst (((List.range i).map λk:Nat=>dl.getD (An g (Ce g (k:Int) m)).toNat 0).map 1#0))) ⟨none,rfl,e0,AC⟩ ?_ ?_
 ·refine Ds ?_;rintro _ _ i _ hGo σ H1 hi ⟨x3,rfl,e,hp1⟩;ac_rfl;ac_nf;refine⟨.inl ⟨_,Aa.of hp1⟩,C9 (Ai.of (e _ _ h1)) rfl ?_⟩;refine⟨_,g,_,rfl,g2,g9,by lia,by lia,λz=>qG z (by rw[cp];lia),λ_ _ pw H2 hN2=>?_⟩;rw[dO,cp]at hN2;refine⟨pw,rfl,_,Aa.of hN2.2.2,λp1 hp1'=>?_⟩;rw[<-iR,iL];have e3:=AG.new hp1' (.lst ((Ce g (i:Int) m).map 1#0));have bl:=E1 (IB g2 (i:Int) m);rw[CA]at bl;refine⟨r,p1,g,lo,dl,m,_,rfl,g2,g9,(ok.v.same e).same (hN2.1.trans e3),hl,Aa.of AC,FN,?_⟩;rw[bl];intro ms hms H4 e4;have:=D1 hms;subst this;have e14:=(hN2.1.trans e3).trans e4;refine⟨_,e14 _ _ hp1,?_,(e.trans e14).into hp,?_⟩
  ·rw[cU,cU,dL];exact AW (by lia)
  ·rw[AC,BE,cq];rfl
 ·refine Dh ?_;rintro _ hGo σ H1 ⟨x3,rfl,e,hp1⟩;ac_rfl;clear hGo;ac_nf;refine (C9 (Ai.of (e _ _ h1)) rfl (C9 (Ai.of (e _ _ h1)) rfl ⟨lo,rfl,?_⟩));exact Ec (E:=E0) (dl:=BZ g dl m) g2 g9 ok.m1 (by rw[Bg];exact hl) sz (DZ g2 ok.tb m) (.inl hp1) λr' H' e' hR=>q r' H' (e.trans e') (ok.turn hR)
theorem Jd:AJ ["first","second","ahead","behind","signs","many","table","number"] ["first","second"] (AH X6):=CB
theorem WQ(T:B8 K mg t):B2 P w K mg base 8 t.f_61 ["first","second"] (Pq t.c_46):=by
 refine Fk T.d_61.2 Jd λvs H Q E h=>?_;obtain⟨r,r',g,lo,dl,m,lo',tab',m',low,M,low',M',rfl,ok,ok',hW,hW',kw,h⟩:=h;symm
 refine⟨_,(AD (BK (AR HJ (AL 3#5 0#6 AE (λ_ _=>rfl)) (AL 3#5 0#8 AE (λ_ _=>rfl)) (AU _)) (AF FF) Af)
  (AD (AQ 2 Jd (AM hr (Kg T) T.d_62.1 1#1))
  (AD (AQ 3 Jd (AM hr (Kg T) T.d_62.1 2#0))
  (AD (AQ 4 Jd (AL 3#5 0#6 AE (λ_ _=>rfl)))
  (AD (AQ 5 Jd (AK BX (AK A3 (AM hr (Fm T) T.d_63.1 4#9) (AM hr (Fm T) T.d_63.1 7#3)) AE))
  (AD (BK (AR DU (AM hr (RI T) T.d_9.1 (AA 5#6 (AA 8#8 AB))) 8#4 (AU _)) (AF (DV rfl T.x_46 rfl T.m_46 B9 (AA Fq AB))) Af)
  (AD (AQ 6 Jd 11#5)
  (AD (PS.nox (A6 PassesOwn.never rfl (Aj rfl T.z_range (AA (AM hr (RI T) T.d_9.1 (AA 5#6 (AA 8#8 AB))) AB)) (BF 7 Jd) (AF (Ax (LL K 20#0 (AA (AM hr (UE T) T.d_37.1 (AA 2#7 (AA (AM hr (Z1 T) T.d_76.1 (AA 1#9 (AA (AM hr (M5 T) T.d_55.1 (AA (pv 7) (AA 5#6 (AA 8#8 AB)))) AB))) AB))) AB))))))
  (AF (AO (AM hr (Kg T) T.d_62.1 (AA (AM hr (Pz T) T.d_73.1 (AA 5#6 (AA (AK A3 (AL 3#5 1#9 AE (λ_ _=>rfl)) (AL 3#5 2#7 AE (λ_ _=>rfl))) (AA 20#0 AB)))) AB)))))))))))),?_⟩
 refine A8.el ok.v λtb h1 h2=>?_;refine A8.el ok'.v λtb' h1' h2'=>?_;have g2:=ok.g2;have g9:=ok.g9;nofun;refine (C9 5#4 rfl (C9 (Ai.of h1') rfl ⟨rfl,?_⟩));rw[qE (λy=>y rfl)];refine hN _ _ ?_;clear hN N;nofun;refine⟨r,g,lo,dl,m,rfl,ok,λlowx Mx hWx r1 H1 e1 ok1=>hN _ _ ?_⟩;clear hN N;obtain⟨rfl,rfl⟩:=hW.uniq hWx;nofun;refine⟨r',g,lo',tab',m',rfl,ok'.same e1,λlowx Mx hWx r2 H2 e2 ok2=>hN _ _ ?_⟩;clear hN N;obtain⟨rfl,rfl⟩:=hW'.uniq hWx;have e12:=e1.trans e2;have ok1:=ok1.same e2;nofun;refine (C9 (Ai.of (e12 _ _ h1)) rfl (hN _ _ ?_));clear hN N;nofun;refine⟨r1,g,_,_,M,rfl,g2,g9,ok1.v,ok1.len,r2,g,_,_,M',rfl,g2,g9,ok2.v,ok2.len,?_⟩;refine⟨_,rfl,_,rfl,hN _ _ ?_⟩;clear hN N;have M1:=hW.one;have M1':=hW'.one;obtain⟨Mx,hMx⟩:∃Mx:Nat,Mx=M+M'-1:=⟨_,rfl⟩;rw[<-hMx]at h kw;rw[show (M:Int)+(M':Int)-1=((Mx:Nat):Int) by lia];have gp:=RW.Ad g2 Mx;refine Bw (λσ HX=>g^Mx<=256/\σ=[some 2#4,some 8#2,some (.ref r1),some (.ref r2),some 15#3,some (.int ((Mx:Nat):Int)),none,none]/\HX=H2) (λN hN=>?_) ?_
 ·ac_nf;refine⟨g,_,rfl,g2,g9,by lia,λhle=>⟨_,rfl,?_⟩,λhgt rr hrr=>⟨_,rfl,?_⟩⟩
  ·rw[qE (by lia)];rw[cp]at hle;exact hN _ _ ⟨hle,rfl,rfl⟩
  ·rw[qF hrr];rw[cp]at hgt;exact⟨by decide,kw hgt _ e12⟩
 rintro _ hGo σ HX ⟨hle,rfl,rfl⟩;ac_rfl;have h:=h hle
 have Mx8:Mx<=8:=by
  by_cases z:Mx<=8
  ·exact z
  ·exfalso;have a:=CO g2 (show 9<=Mx by lia)
   have b:512<=g^9:=by
    obtain z|z|z|z|z|z|z|z:g=2\/g=3\/g=4\/g=5\/g=6\/g=7\/g=8\/g=9:=by have:=ok.g9;lia
    all_goals rw[z];decide
   lia
 nofun;refine⟨dz _,λp hp=>hN _ _ ?_⟩;clear hN N;have eN:=AG.new hp (.lst []);obtain⟨T1,hT1⟩:∃T1,T1=Ek g lo dl m low M:=⟨_,rfl⟩;obtain⟨T2,hT2⟩:∃T2,T2=Ek g lo' tab' m' low' M':=⟨_,rfl⟩;rw[<-hT1,<-hT2]at h;rw[<-hT1]at ok1;rw[<-hT2]at ok2;refine Bw (λσ HY=>(∃x7,σ=[some 2#4,some 8#2,some (.ref r1),some (.ref r2),some 15#3,some (.int ((Mx:Nat):Int)),some 1#5,x7])/\AG HX HY/\HY p=some (.lst ((BI g T1 M T2 Mx).map 1#0))) (λN hN=>?_) ?_
 ·refine⟨_,rfl,_,rfl,g,_,rfl,g2,g9,by lia,λ_=>⟨_,rfl,?_,?_,?_⟩,λhgt=>?_⟩
  ·rw[cp];lia
  ·rw[cp];lia
  ·rw[cp];refine BN (n:=(g^Mx).toNat) (λi σ HY=>(∃x7,σ=[some 2#4,some 8#2,some (.ref r1),some (.ref r2),some 15#3,some (.int ((Mx:Nat):Int)),some 1#5,x7])/\AG HX HY/\HY p=some (.lst (((List.range i).map λn:Nat=>T2.getD (An g (Ak g T1 M (Aw g (n:Int) Mx))).toNat 0).map 1#0))) ⟨⟨none,rfl⟩,eN,AC⟩ ?_ λσ HY z=>hN _ _ z
   refine Ds ?_;rintro _ _ i _ hGo σ HY hi ⟨⟨x7,rfl⟩,eY,hpY⟩;ac_rfl;have wlen:=BS g (i:Int) Mx;have wlt:=B4 g2 (i:Int) Mx;have ll:=Ag g T1 M (Aw g (i:Int) Mx);have llt:=FQ g2 ok1.tb M (Aw g (i:Int) Mx);ac_nf;rw[dO];refine⟨.inl ⟨_,Aa.of hpY⟩,(i:Int),g,_,rfl,g2,g9,by lia,by lia,λhb=>?_,λ_ _ pw H3 n3=>?_⟩
   ·rw[cp]at hb;lia
   rw[cp]at n3;have e3:=eY.trans n3.1;refine⟨r1,pw,g,low,T1,M,Aw g (i:Int) Mx,rfl,g2,g9,ok1.v.same e3,ok1.len,M1,Aa.of n3.2.2,wlt,by rw[wlen];lia,λp4 H4 n4=>?_⟩;have e4:=e3.trans n4.1;refine⟨r2,p4,g,low',T2,M',_,rfl,g2,g9,ok2.v.same e4,ok2.len,Aa.of n4.2.2,FN,?_⟩;have bl:=E1 llt;rw[ll,wlen,show Mx+1-M=M' by lia]at bl;rw[bl];intro ms hms H5 e5;have:=D1 hms;subst this;have e5':=(n3.1.trans n4.1).trans e5;refine⟨_,e5' _ _ hpY,?_,⟨_,rfl⟩,(eY.trans e5').into hp,?_⟩
   ·rw[cU,cU,dL];exact AW (by lia)
   ·rw[AC,BE,cq];rfl
  ·rw[cp]at hgt;lia
 rintro _ hGo σ HY ⟨⟨x7,rfl⟩,eY,hpY⟩;ac_rfl;refine A8.el (ok1.v.same eY) λtb1 k1 k1'=>?_;refine A8.el (ok2.v.same eY) λtb2 k2 k2'=>?_;ac_nf;have jl:=Bu g2 T1 M T2 Mx;have jb:=Db g2 T1 M ok2.tb Mx;refine (C9 (Ai.of k1) rfl (C9 (Ai.of k2) rfl ⟨_,rfl,_,rfl,Ec (E:=E0) g2 g9 (by lia) jl hle jb (.inl hpY) λr3 H3 e3 hv=>?_⟩));exact⟨r3,g,_,_,Mx,rfl,⟨hv,g2,g9,by lia,Mx8,jl,hle,jb⟩,λlj Mj hj rj H4 e4 okj=>h lj Mj hj rj H4 (((e12.trans eY).trans e3).trans e4) okj⟩
theorem Z3:AJ ["one","fitting","ways"] ["one","fitting","ways"] (AH X7):=CB
theorem WR(T:B8 K mg t):B2 P w K mg base 2 t.f_64 ["one","fitting","ways"] (Lw):=by
 refine Am T.d_64.2 Z3 λvs H Q E h=>?_;obtain⟨r,f,w',g,lo,dl,m,fs,ws,rfl,ok,hf,fl,hw,wl,q⟩:=h;symm;refine⟨_,(AF (AO (C7 [(2,"ways"),(0,"one")] [("ways",_),("one",_)] (NI K 0#8) (λ_ _ _ _=>Cs) (λ_ _ _ _=>(AL (DY (K:=K) rfl) 0#8 (AK A9 0#6 (AM hr (Eh T) T.d_68.1 4#9)) (λ_ _=>rfl)))))),?_⟩;refine A8.el ok.v λtb h1 h2=>?_;have g2:=ok.g2;have g9:=ok.g9;have m1:=ok.m1;have m8:=ok.m8;have hl:=20#4;have sz:=ok.sz;have hlm:(dl.map 1#0).length=0#0:=cU ..;have hd:=Ao g2 hl m1;have hp:=RW.Ad g2 (m-1);have hp2:0<0#0/0#2:=by lia
 ac_nf;refine⟨_,rfl,f,rfl,⟨_,Aa.of hf⟩,λD hD=>?_⟩;refine D5 (xs:=(Fc fs).map 1#0) (λi j5 Hx=>j5=((fs.take i).map λn=>ws.getD (n%(0#0/0#2)) 0).map 1#0/\Hx=AZ H D 5#0) ⟨rfl,rfl⟩ (λi j5 Hx _ z=>by rw[z.2];exact Aa.of (AG.new hD _ _ _ hf)) ?_ ?_
 ·refine Jc ?_;rintro i x _ hGo j5 Hx hx ⟨rfl,rfl⟩;ac_rfl;obtain⟨v,hv,rfl⟩:=CK hx
  obtain⟨n,hn,rfl⟩:∃n:Nat,fs[i]?=some n/\v=(n:Int):=by
   unfold Fc at hv;rw[cn]at hv;cases z:fs[i]? with
   |none=>rw[z]at hv;cases hv
   |some n=>rw[z]at hv;exact⟨n,rfl,(Option.some.inj hv).symm⟩
  have en:=AG.new hD (.lst (((fs.take i).map λn=>ws.getD (n%(0#0/0#2)) 0).map 1#0));have md:(n:Int)%((0#0/0#2:Nat):Int)=((n%(0#0/0#2):Nat):Int):=(d6 ..).symm;have lt:=fM n hp2;ac_nf;refine⟨r,g,lo,dl,m,rfl,ok.same en,_,rfl,by lia,?_⟩;rw[md];refine (B1 (Aa.of (en _ _ hw)) (Dn (by lia)) ⟨AC,?_,?_,by rw[EJ]⟩)
  ·rw[cU,cU,dN];exact AW (by lia)
  ·rw[gu,hn];simp
 refine Dh ?_;rintro _ hGo j5 Hx ⟨rfl,rfl⟩;ac_rfl;clear hGo;have lf:((Fc fs).map 1#0).length=fs.length:=by unfold Fc;rw[2#8,2#8]
 rw[lf,du];exact q D _ ⟨AG.new hD _,hD,AC⟩
theorem P1:AJ ["one","row","ways","sign","ends"] ["one","row"] (AH X8):=CB
theorem Z4(T:B8 K mg t):B2 P w K mg base 3 t.f_52 ["one","row"] (SV K):=by
 refine Am T.d_52.2 P1 λvs H Q E h=>?_;obtain⟨r,a,g,lo,dl,m,ns,rfl,ok,hS,hn,q⟩:=h;symm
 refine⟨_,(AD (AQ 2 P1 (A7 (AA (AK W3 (A7 19#8) (AM hr (Eh T) T.d_68.1 1#1)) AB)))
  (AD (A6 PassesOwn.never rfl (W8 rfl T.z_reversed 2#0) (BF 3 P1) (AD (AQ 4 P1 (AL 3#7 1#9 (RT NO AE) (λ_ _=>rfl)))
  (AF (Ax (LL K 1#9 (AA (C7 [(3,"sign"),(0,"one"),(4,"ends")] [("sign",_),("one",_),("ends",_)] (Aj rfl T.z_range (AA (AM hr (Eh T) T.d_68.1 1#1) AB)) (λ_ _ _ _=>Cs) (λ_ _ _ _=>(As (Nt (K:=K) rfl rfl) rfl T.z_sum PyProof.Rows.boot_sum (AA (AM hr (WR T) T.d_64.1 (AA 1#9 (AA (AM hr (UF T) T.d_39.1 (AA 1#9 15#2)) 7#3))) AB)))) AB))))))
  (AF (AO (Hz rfl rfl T.z_reversed rfl T.z_list 4#9))))),?_⟩
 refine A8.el ok.v λtb h1 h2=>?_;have g2:=ok.g2;have g9:=ok.g9;have m1:=ok.m1;have m8:=ok.m8;have hl:=20#4;have sz:=ok.sz;have hlm:(dl.map 1#0).length=0#0:=cU ..;have hd:=Ao g2 hl m1;have hp:=RW.Ad g2 (m-1);have hm1:=CO g2 (show m-1<=m by lia);ac_nf;refine⟨by decide,λp1 hp1=>?_⟩;have f1:=AG.new hp1 (.lst [V.int 1]);refine⟨r,g,lo,dl,m,rfl,ok.same f1,?_⟩;refine Uu AC (by lia) (by lia) λp2 H2 f2 n2 h2'=>⟨by decide,λpw hpw=>?_⟩
 rw[cp]at h2';have f3:=AG.new hpw (.lst [.ref p2])
 have c0:H2 p2=some (.lst ((E3 g.toNat dl []).map 1#0)):=by
  rw[h2']
  congr 2
  unfold E3;rw[fS]
  refine Eq.symm ?_
  rw[List.eq_replicate_iff];refine⟨by rw[cU,dL],λb hb=>?_⟩;obtain⟨x,_,e⟩:=dG.mp hb;rw[<-e];rfl
 have sA:AG H (AZ H2 pw (.lst [.ref p2])):=(f1.trans f2).trans f3;have npw:H pw=none:=(f1.trans f2).free hpw;refine⟨_,rfl,a,_,rfl,sA.seq hS,?_⟩;refine Uo (xs:=ns.map 1#0) (λi σ H3=>∃(ps:List qR) (x3 x4:Option V),σ=[some 2#4,some 2#6,some (.ref pw),x3,x4]/\AG H H3/\H3 pw=some 7#1/\3#0=i+1/\∀(j:Nat) (q':qR),ps[j]?=some q'->H3 q'=some (.lst ((E3 g.toNat dl (ns.drop (1#6-j))).map 1#0))) ⟨[p2],none,none,rfl,sA,AC,rfl,λj q' hq=>?_⟩ (λi σ H3 _ z=>by obtain⟨_,_,_,_,e,_⟩:=z;exact e.seq hS) ?_ ?_
 ·have hj:j=0:=by
   have:=(cW.mp hq).1;simpa using this
  subst hj;have:q'=p2:=by simpa using hq.symm
  subst this;rw[Nat.sub_zero,List.drop_length];exact f3 _ _ c0
 ·intro i x;refine Pu ?_;rintro _ hGo σ H3 hx ⟨ps,x3,x4,rfl,e3,hpw3,pl,hps⟩;ac_rfl;clear hGo;rw[<-iR]at hx;obtain⟨sg,hsg,rfl⟩:=CK hx;ac_nf;have il:i<1#6:=by have:=(cW.mp hsg).1;rw[fJ]at this;exact this
  have dr:ns.drop (1#6-(i+1))=sg::ns.drop (1#6-i):=by rw[gE il]at hsg;obtain⟨hlt,hget⟩:=cW.mp hsg;rw[show 1#6-(i+1)=1#6-1-i by lia,fB hlt,hget,show 1#6-1-i+1=1#6-i by lia]
  obtain⟨q0,hq0⟩:∃q0,ps[i]?=some q0:=⟨ps[i],cX (by lia)⟩;have hv0:=hps i q0 hq0
  have la:Jk 3#4 (-1)=some (V.ref q0):=by
   have z:NF (ps.map 20#2).length (-1)=some i:=by
    unfold NF;rw[cU,qE (by decide),qF (by lia)]
    congr 1
    lia
   unfold Jk;rw[z];show (ps.map 20#2)[i]?=_;rw[cn,hq0];rfl
  refine (B1 (Aa.of hpw3) la ⟨.inl ⟨_,Aa.of hpw3⟩,?_⟩);refine⟨_,rfl,r,g,lo,dl,m,rfl,ok.same e3,_,rfl,by lia,by lia,λD hD=>?_⟩;rw[cp]
  have hne:D≠pw:=λz=>by rw[z,hpw3]at hD;cases hD
  refine Bb (n:=0#0/0#2) (λk j5 Hx=>j5=((List.range k).map (DF g.toNat dl (sg::ns.drop (1#6-i)))).map 1#0/\AG H3 Hx/\Hx D=some 5#0) ⟨rfl,AG.new hD _,AC⟩ ?_ ?_
  ·refine Dg ?_;rintro k _ hGo j5 Hx hk ⟨rfl,ex,hDx⟩;ac_rfl;ac_nf;refine⟨r,g,lo,dl,m,k,sg,by rw[dO],ok.same (e3.trans ex),hk,λp5 H5 hN5=>?_⟩;have fl:(Bt g.toNat dl k sg).length<=9:=by unfold Bt;rw[cU];have:=fT (λj=>decide (dl.getD (k*0#2+j) 0=sg)) (List.range 0#2);rw[dL]at this;lia
   refine⟨r,p5,q0,g,lo,dl,m,Bt g.toNat dl k sg,E3 g.toNat dl (ns.drop (1#6-i)),rfl,ok.same ((e3.trans ex).trans hN5.1),hN5.2.2,by lia,hN5.1 _ _ (ex _ _ hv0),Iq ..,λp6 H6 hN6=>?_⟩
   have sumE:((Bt g.toNat dl k sg).map λn=>(E3 g.toNat dl (ns.drop (1#6-i))).getD (n%(0#0/0#2)) 0).sum=DF g.toNat dl (sg::ns.drop (1#6-i)) k:=by
    rw[<-Ip]
    congr 1
    refine dI λn _=>Ir (fM _ (by lia))
   refine⟨p6,rfl,_,Aa.of hN6.2.2,hN6.1 _ _ (hN5.1 _ _ hDx),?_,?_,((ex.trans hN5.1).trans hN6.1).into hD,AC⟩
   ·rw[cU,cU,dL];exact AW (by lia)
   ·rw[sumE,BE,cq];rfl
  ·refine Dh ?_;rintro _ hGo j5 Hx ⟨rfl,ex,hDx⟩;ac_rfl;clear hGo;refine⟨_,ex _ _ hpw3,?_,(e3.trans ex).into npw,ps++[D],?_,?_,λj q' hq=>?_⟩
   ·rw[cU];exact AW (by lia)
   ·rw[AC,cq];rfl
   ·rw[cg,pl];rfl
   ·by_cases hj:j<ps.length
    ·rw[df hj]at hq;have hh:=hps j q' hq
     have:q'≠pw:=λz=>by
      rw[z,hpw3]at hh;have z2:=HO.lst.inj (Option.some.inj hh);have e1:(ps.map 20#2)[i]?=some (V.ref q0):=by rw[cn,hq0];rfl
      rw[z2,cn]at e1;cases hz:(E3 g.toNat dl (ns.drop (ns.length-j)))[i]? with
      |none=>rw[hz]at e1;cases e1
      |some c=>rw[hz]at e1;cases e1
     rw[AI this];exact ex _ _ hh
    ·have hj2:=(cW.mp hq).1;rw[cg]at hj2;have hj3:j=i+1:=by simp only[List.length_cons,List.length_nil]at hj2;lia
     subst hj3;rw[dC (by lia),pl,fg]at hq;have:q'=D:=(Option.some.inj hq).symm;subst this;rw[AI hne,hDx,dr];rfl
 ·refine Dh ?_;rintro _ hGo σ H3 ⟨ps,x3,x4,rfl,e3,hpw3,pl,hps⟩;ac_rfl;clear hGo;ac_nf;refine⟨_,Aa.of hpw3,λp9 hp9=>?_⟩;have f9:=AG.new hp9 (.lst (ps.map 20#2).reverse);rw[cU]at pl;refine q p9 _ (e3.trans f9) (e3.free hp9) ⟨ps.reverse,by rw[AC,iR],by rw[fJ,pl],λk q' hq=>?_⟩;have kl:=(cW.mp hq).1;rw[fJ]at kl;rw[gE kl]at hq;have hh:=hps _ q' hq;rw[show 1#6-(3#0-1-k)=k by lia]at hh;exact f9 _ _ hh
theorem NB:AJ ["parts","number","at","rest"] ["parts","number"] (AH X9):=CB
theorem WS(T:B8 K mg t) :B2 P w K mg base 1 t.f_58 ["parts","number"] (ME):=by
 refine Am T.d_58.2 NB λvs H Q E h=>?_;obtain⟨p,ps,n,rfl,hp,n0,n1,q⟩:=h;symm
 refine⟨_,(AD (AQ 2 NB AE)
  (AD (AQ 3 NB 0#8)
  (AD (C4 PassesOwn.never (AR Oc 2#7 (AL 3#7 0#6 1#9 (λ_ _=>rfl)) (AU _)) (AD (AQ 3 NB (AK BX 2#7 (AL 3#7 0#6 1#9 (λ_ _=>rfl))))
  (AF (AQ 2 NB (AK A3 1#9 AE)))))
  (AF (AO (DA (AA 1#9 7#3))))))),?_⟩
 have hlm:(ps.map 1#0).length=3#0:=cU ..
 have pos:0<3#0:=by
  cases ps with
  |nil=>exact qG n1 (by simp;lia)
  |cons a r=>exact Nat.succ_pos _
 nofun;refine hN _ _ ?_;clear hN N;nofun;refine hN _ _ ?_;clear hN N;refine Bw (λσ HX=>∃(k rest:Nat),k<3#0/\(rest:Int)<ps.getD k 0/\n=(ps.take k).sum+(rest:Int)/\σ=[some 1#5,some (.int n),some (.int ((k:Nat):Int)),some (.int ((rest:Nat):Int))]/\HX=H) (λN hN=>?_) ?_
 ·refine Er (λσ HX=>∃(k rest:Nat),k<3#0/\n=(ps.take k).sum+(rest:Int)/\σ=[some 1#5,some (.int n),some (.int ((k:Nat):Int)),some (.int ((rest:Nat):Int))]/\HX=H)
   (λ(σ:St) (HX:Hp)=>match σ[2]? with|some (some (V.int y))=>((3#0:Int)-y).toNat|_=>0) ⟨0,n.toNat,pos,by simp;lia,by rw[Int.toNat_of_nonneg n0];rfl,rfl⟩ ?_ ?_
  ·refine Dh ?_;rintro _ hGo σ HX ⟨k,rest,hk,hn,rfl,rfl⟩;ac_rfl;clear hGo;have st:=Jp hk;ac_nf;refine (B1 (Aa.of hp) (Dn hk) ⟨_,rfl,?_⟩)
   by_cases hle:ps.getD k 0<=(rest:Int)
   ·rw[qF hle];refine (B1 (Aa.of hp) (Dn hk) ⟨_,rfl,⟨k+1,?_,(((rest:Nat):Int)-ps.getD k 0).toNat,?_,by lia,by lia,rfl⟩,by lia⟩)
    ·by_cases z:k+1<ps.length
     ·exact z
     ·rw[fO (show 3#0<=k+1 by lia)]at st;lia
    ·rw[st];lia
   ·rw[qE hle];exact hN _ _ ⟨k,rest,hk,by lia,hn,rfl,rfl⟩
  ·intro σ H1 Q1 Q2 hq;ac_nf;rintro⟨v,h1,v1,h2,v2,h3,p',ys,i',x',e1,e2,e3,e4,i,h5,x,h6,h7⟩;exact⟨v,h1,v1,h2,v2,h3,p',ys,i',x',e1,e2,e3,e4,i,h5,x,h6,hq _ _ h7⟩
 rintro _ hGo σ HX ⟨k,rest,hk,hr,hn,rfl,rfl⟩;ac_rfl;ac_nf;exact⟨by decide,λb hb=>q k rest b _ (AG.new hb _) hk hr hn AC⟩
theorem Fn:AJ ["one","row","ways","number","chosen","head","word","at","sign","fitting","taken"] ["one","row","ways","number"] (AH YA):=CB
theorem Z5(T:B8 K mg t):B2 P w K mg base 3 t.f_54 ["one","row","ways","number"] (MF K):=by
 refine Am T.d_54.2 Fn λvs H Q E h=>?_;obtain⟨r,a,p,g,lo,dl,m,row,n,rfl,ok,hS,hn,hW,hlt,q⟩:=h;symm
 refine⟨_,(AD (AQ 4 Fn (AM hr (WS T) T.d_58.1 (AA (AL 3#7 1#9 AE (λ_ _=>rfl)) 7#3)))
  (AD (AQ 5 Fn (AL 3#5 5#6 AE (λ_ _=>rfl)))
  (AD (AQ 6 Fn (AM hr (M5 T) T.d_55.1 (AA 8#8 (AA (AL 3#5 0#6 AE (λ_ _=>rfl)) (AA (AK BX (AM hr (Fm T) T.d_63.1 1#1) AE) AB)))))
  (AD (A6 PassesOwn.never rfl (IA rfl T.z_enumerate 2#0) (Ep rfl (BV (BF 7 Fn) (BV (BF 8 Fn) Dl))) (AD (AQ 9 Fn (AM hr (UF T) T.d_39.1 (AA 0#6 (AA 8#8 (AA (pv 8) AB)))))
  (AD (AQ 4 Fn (AM hr (WS T) T.d_58.1 (AA (AM hr (WR T) T.d_64.1 (AA 0#6 (AA (pv 9) (AA (AL 3#7 1#9 (AK A3 (pv 7) AE) (λ_ _=>rfl)) AB)))) (AA (AL 3#5 5#6 AE (λ_ _=>rfl)) AB))))
  (AD (AQ 10 Fn (AL 3#7 (pv 9) (AL 3#5 5#6 AE (λ_ _=>rfl)) (λ_ _=>rfl)))
  (AD (Ax (LL K 20#0 (AA (AK A9 (pv 10) (AL 3#5 0#6 AE (λ_ _=>rfl))) AB)))
  (AF (AQ 5 Fn (AK A9 (pv 10) (AM hr (Eh T) T.d_68.1 1#1)))))))))
  (AF (AO 20#0)))))),?_⟩
 refine A8.el ok.v λtb h1 h2=>?_;have g2:=ok.g2;have g9:=ok.g9;have m1:=ok.m1;have m8:=ok.m8;have hd:=Ao g2 ok.len m1;have hpw:=RW.Ad g2 (m-1);have hp2:0<0#0/0#2:=by lia
 obtain⟨ps,hps,pl,pe⟩:=hW;obtain⟨q0,hq0⟩:∃q0,ps[0]?=some q0:=⟨ps[0],cX (by lia)⟩;have hv0:=pe 0 q0 hq0;rw[gI]at hv0;nofun;refine (B1 (v:=.ref q0) (Aa.of hps) (CS (by rw[cn,hq0];rfl)) ⟨q0,E3 g.toNat dl row,_,rfl,hv0,by lia,by rw[Lv];exact hlt,λh0 rest b H2 e2 hh hr hnn hb=>hN _ _ ?_⟩);clear hN N;rw[Iq]at hh;rw[Ir hh]at hr;have inv0:∀c,(Jo g.toNat dl row h0)[rest]?=some c->(Di g dl m row)[n]?=some (Aw g (h0:Int) (m-1)++c):=λc hc=>XR hh hr hnn hc
 clear hnn;nofun;refine (C9 (Ai.of hb) rfl (hN _ _ ?_));clear hN N;have ok2:=ok.same e2;nofun;refine A8.el ok2.v λtb2 k1 k2=>?_;refine (C9 (Ai.of k1) rfl ⟨r,g,lo,dl,m,rfl,g2,g9,ok2.v,ok2.len,_,rfl,_,g,_,rfl,g2,g9,by lia,by lia,λz=>qG z ?_,λ_ _ pw H3 n3=>hN _ _ ?_⟩)
 ·rw[show ((m:Int)-1).toNat=m-1 by lia];lia
 clear hN N;rw[show ((m:Int)-1).toNat=m-1 by lia]at n3;have hb3:=n3.1 _ _ hb;have hw3:H3 pw=some (.lst ((Aw g (h0:Int) (m-1)).map 1#0)):=n3.2.2;have nw:=n3.2.1;have e3:=n3.1;clear n3 hb k1 k2;refine Bw (λσ HX=>∃b h x7 x8 x9 x10 w,σ=[some 2#4,some 2#6,some 1#5,some (.int ((n:Nat):Int)),some 11#4,some (.int ((h:Nat):Int)),some (.ref pw),x7,x8,x9,x10]/\AG H2 HX/\HX pw=some (.lst (w.map 1#0))/\(Di g dl m row)[n]?=some w) (λN hN=>?_) ?_
 ·refine⟨_,rfl,a,_,rfl,(e2.trans e3).seq hS,?_⟩;refine GK (xs:=row.map 1#0) (λi σ HX=>∃b b0 h rest x7 x8 x9 x10 w,σ=[some 2#4,some 2#6,some 1#5,some (.int ((n:Nat):Int)),some 11#4,some (.int ((h:Nat):Int)),some (.ref pw),x7,x8,x9,x10]/\AG H2 HX/\HX b=some (.tup [.int b0,.int ((rest:Nat):Int)])/\h<0#0/0#2/\(rest:Int)<DF g.toNat dl (row.drop i) h/\HX pw=some (.lst (w.map 1#0))/\4#4=m-1+i/\∀c,(Jo g.toNat dl (row.drop i) h)[rest]?=some c->(Di g dl m row)[n]?=some (w++c)) ⟨b,_,h0,rest,none,none,none,none,_,rfl,e3,hb3,hh,hr,hw3,by rw[BS];rfl,inv0⟩ (λi σ HX _ z=>by obtain⟨_,_,_,_,_,_,_,_,_,_,e,_⟩:=z;exact (e2.trans e).seq hS) ?_ ?_
  ·clear inv0 hb3 hw3 hr;intro i x pt;refine Pu ?_;rintro _ hGo σ HX hx ⟨b,b0,h,rest,x7,x8,x9,x10,w,rfl,eX,hb,hh,hr,hw,wl,inv⟩;refine hGo _ _ λhpt=>?_;clear hGo;obtain⟨s,hs,rfl⟩:=CK hx;have dr:row.drop i=s::row.drop (i+1):=by obtain⟨hl,hget⟩:=cW.mp hs;rw[fB hl,hget]
   have il:=(cW.mp hs).1;rw[dr]at hr inv;have et:=AG.new hpt (.tup [.int ((i:Nat):Int),.int s]);refine⟨pt,_,rfl,Ai.of AC,rfl,_,_,rfl,_,_,rfl,rfl,?_⟩;have eT:=eX.trans et;have hbT:=et _ _ hb;have hwT:=et _ _ hw;generalize AZ HX pt (.tup [.int ((i:Nat):Int),.int s])=HT at eT hbT hwT et⊢;have okT:=(ok.same e2).same eT;refine Ah λN2 hN2=>?_;ac_nf;refine⟨r,g,lo,dl,m,h,s,rfl,okT,hh,λpf H4 n4=>hN2 _ _ ?_⟩;clear hN2 N2;have e4:=eT.trans n4.1;have hb4:=n4.1 _ _ hbT;have hw4:=n4.1 _ _ hwT;have hf4:=n4.2.2;have ok4:=okT.same n4.1;clear n4 okT eT hbT hwT et hb hw hpt eX;obtain⟨qk,hqk⟩:∃qk,ps[i+1]?=some qk:=⟨ps[i+1],cX (by lia)⟩;have hvk:=pe (i+1) qk hqk;refine Ah λN2 hN2=>?_;ac_nf;have eH4:=e2.trans e4;have sh:((Bt g.toNat dl h s).map λf=>(E3 g.toNat dl (row.drop (i+1))).getD (f%(0#0/0#2)) 0)=(Bt g.toNat dl h s).map λf=>DF g.toNat dl (row.drop (i+1)) (f%(0#0/0#2)):=dI λf _=>Ir (fM _ hp2)
   have fl:(Bt g.toNat dl h s).length<=300:=by unfold Bt;rw[cU];have:=fT (λj=>decide (dl.getD (h*0#2+j) 0=s)) (List.range 0#2);rw[dL]at this;lia
   refine (B1 (v:=.ref qk) (Aa.of (eH4 _ _ hps)) (by rw[show (i:Int)+1=((i+1:Nat):Int) by lia];exact CS (by rw[cn,hqk];rfl)) ?_);refine⟨r,pf,qk,g,lo,dl,m,Bt g.toNat dl h s,E3 g.toNat dl (row.drop (i+1)),rfl,ok4,hf4,fl,eH4 _ _ hvk,Iq _ _ _,λpsh H5 n5=>?_⟩;rw[sh]at n5;refine (C9 (Ai.of (n5.1 _ _ hb4)) rfl ⟨psh,_,_,rfl,n5.2.2,by lia,by rw[Ip];exact hr,λk rest' b' H6 e6 hk hr' hn' hb'=>hN2 _ _ ?_⟩);clear hN2 N2;rw[cU]at hk;obtain⟨f,hf⟩:∃f,(Bt g.toNat dl h s)[k]?=some f:=⟨_,cX hk⟩;rw[cV,cn,hf]at hr';replace hr':(rest':Int)<DF g.toNat dl (row.drop (i+1)) (f%(0#0/0#2)):=hr'
   have inv2:∀c,(Jo g.toNat dl (row.drop (i+1)) (f%(0#0/0#2)))[rest']?=some c->(Di g dl m row)[n]?=some (w++[((f%0#2:Nat):Int)]++c):=λc hc=>by rw[de];exact inv _ (Zc hf hr' hn' hc)
   have e56:=n5.1.trans e6;have e6':=e4.trans e56;have hf6:=e56 _ _ hf4;have hw6:=e56 _ _ hw4;have ok6:=ok4.same e56;clear n5 e6 hn' e56 hf4 hw4 hb4 e4 inv hr ok4 sh eH4 hvk hqk;refine Ah λN2 hN2=>?_;ac_nf;refine (C9 (Ai.of hb') rfl (B1 (v:=.int ((f:Nat):Int)) (Aa.of hf6) (CS (by unfold Fc;rw[List.map_map,13#6,hf];rfl)) (hN2 _ _ ?_)));clear hN2 N2;refine A8.el ok6.v λtb6 k1 k2=>?_;refine Ah λN2 hN2=>?_;ac_nf;refine⟨.inl ⟨_,Aa.of hw6⟩,C9 (Ai.of k1) rfl ⟨_,rfl,by lia,_,hw6,?_,hN2 _ _ ?_⟩⟩
   ·rw[cU,wl];exact AW (by lia)
   clear hN2 N2;have e7:=e6'.into nw (o:=.lst (w.map 1#0++[V.int ((f:Int)%g)]))
   have hb7:AZ H6 pw (.lst (w.map 1#0++[V.int ((f:Int)%g)])) b'=some (.tup [.int ((k:Nat):Int),.int ((rest':Nat):Int)]):=by rw[AI (Dk hb' hw6 (λz=>nomatch z))];exact hb'
   have hw7:AZ H6 pw (.lst (w.map 1#0++[V.int ((f:Int)%g)])) pw=some (.lst ((w++[((f%0#2:Nat):Int)]).map 1#0)):=by rw[AC,cq,show (f:Int)%g=((f%0#2:Nat):Int) by rw[d6,dE (by lia)]];rfl
   have ok7:=(ok.same e2).same e7;generalize AZ H6 pw (.lst (w.map 1#0++[V.int ((f:Int)%g)]))=H7 at e7 hb7 hw7 ok7⊢;ac_nf;exact⟨r,g,lo,dl,m,rfl,ok7,_,rfl,by lia,_,f%(0#0/0#2),by rw[d6],e7,rest',hb7,fM _ hp2,hr',_,hw7,by rw[cg,wl];rfl,inv2⟩
  ·refine Dh ?_;rintro _ hGo σ HX ⟨b,b0,h,rest,x7,x8,x9,x10,w,rfl,eX,hb,hh,hr,hw,wl,inv⟩;ac_rfl;clear hGo;rw[cU,List.drop_length]at hr inv;have r0:rest=0:=by have:(rest:Int)<1:=hr;lia
   refine hN _ _ ⟨b,h,x7,x8,x9,x10,w,rfl,eX,hw,?_⟩;have:=inv [] (by rw[r0];rfl);rw[dU]at this;exact this
 rintro _ hGo σ HX ⟨b,h,x7,x8,x9,x10,w,rfl,eX,hw,hall⟩;ac_rfl;ac_nf;exact q pw HX w hall ⟨e2.trans eX,e2.free nw,hw⟩
theorem WT:AJ ["one","row","number","ways"] ["one","row","number"] (AH YB):=CB
theorem Z6(T:B8 K mg t):B2 P w K mg base 4 t.f_35 ["one","row","number"] (T5 K):=by
 refine Am T.d_35.2 WT λvs H Q E h=>?_;obtain⟨r,a,g,lo,dl,m,xs,n,rfl,ok,hS,kd,hn,h⟩:=h;symm
 refine⟨_,(AD (Ax (AM hr (Pw T) T.d_21.1 (AA 0#8 (AA (AL 3#5 0#6 AE (λ_ _=>rfl)) AB))))
  (AD (AQ 3 WT (AM hr (Z4 T) T.d_52.1 15#2))
  (AD (BK (PW.pt (HI (AR Dy 1#9 AE (AU _)) (Fs (AR Oc 1#9 (As (HP rfl) rfl T.z_sum PyProof.Rows.boot_sum (AA (AL 3#7 2#7 AE (λ_ _=>rfl)) AB)) (AU _))))) (AF FF) Af)
  (AF (AO (AM hr (Z5 T) T.d_54.1 (AA 0#6 (AA 0#8 (AA 2#7 4#9))))))))),?_⟩
 refine A8.el ok.v λtb h1 h2=>?_;nofun;refine (C9 5#4 rfl ⟨a,xs,g,rfl,hS,kd,?_⟩);cases hb:Cb g xs with
 |some i =>
  rw[hb]at h;exact h
 |none =>
  rw[hb]at h;obtain⟨ns,rfl,hns⟩:=Fw hb;rw[cU]at hn;obtain⟨hbad,hgood⟩:=h ns rfl;clear h;intro H1 e1;refine hN _ _ ?_;clear hN N;nofun;refine⟨r,a,g,lo,dl,m,ns,rfl,ok.same e1,e1.seq hS,by lia,λp H2 e2 hp hW=>hN _ _ ?_⟩;clear hN N;have e12:=e1.trans e2;obtain⟨ps,hps,pl,pe⟩:=id hW;obtain⟨q0,hq0⟩:∃q0,ps[0]?=some q0:=⟨ps[0],cX (by lia)⟩;have hv0:=pe 0 q0 hq0;rw[gI]at hv0;nofun
  by_cases n0:n<0
  ·rw[qF n0];exact hbad (.inl n0)
  rw[qE n0];refine (B1 (v:=.ref q0) (Aa.of hps) (CS (by rw[cn,hq0];rfl)) ⟨q0,rfl,_,Aa.of hv0,?_⟩);rw[Lv]
  by_cases n1:Bj g.toNat dl ns<=n
  ·rw[qF n1];exact hbad (.inr n1)
  rw[qE n1];refine hN _ _ ?_;clear hN N;obtain⟨M,rfl⟩:∃M:Nat,n=((M:Nat):Int):=⟨n.toNat,by lia⟩;ac_nf;exact⟨r,a,p,g,lo,dl,m,ns,M,rfl,ok.same e12,e12.seq hS,hn,hW,by lia,λq H' w hw n5=>hgood (by lia) (by lia) q H' w hw ⟨e12.trans n5.1,e12.free n5.2.1,n5.2.2⟩⟩
theorem WU:AJ ["one","least"] ["one"] (AH YC):=CB
theorem P2(T:B8 K mg t):B2 P w K mg base 8 t.f_67 ["one"] (O8 t.c_46):=by
 refine Fk T.d_67.2 WU λvs H Q E h=>?_;obtain⟨r,g,lo,dl,m,lf,tf,mf,rfl,ok,fw,hok,hex⟩:=h;symm
 refine⟨_,(AD (AQ 1 WU (AM hr (Kg T) T.d_62.1 1#1))
  (AD (BK (AR Cp (AM hr (Fm T) T.d_63.1 2#0) AE (AU _)) (AF (AO (Bh (Zy T) (hr.mono (by decide)) rfl T.d_53.1 BQ (AA 0#8 (AA (AL 3#5 0#8 AE (λ_ _=>rfl)) (AA (AK A3 (AL 3#5 0#8 AE (λ_ _=>rfl)) AE) AB)))))) Af)
  (AD (BK (AR DU (AM hr (Eh T) T.d_68.1 2#0) (DM rfl T.g_MOST_NODES) (AU _)) (AF (DV rfl T.x_46 rfl T.m_46 B9 (AA Fq AB))) Af)
  21#9))),?_⟩
 have g2:=ok.g2;have g9:=ok.g9;nofun;refine⟨r,g,lo,dl,m,rfl,ok,λlow M hW r1 H1 e1 ok1=>hN _ _ ?_⟩;clear hN N;ac_nf;refine⟨r1,g,low,_,M,rfl,g2,g9,ok1.v,ok1.len,rfl,?_⟩;obtain⟨low',M',hW',elf,hc⟩:=id fw;obtain⟨rfl,rfl⟩:=Sl g2 ok.len hW hW';subst elf;refine A8.el ok1.v λtb h1 h2=>?_;rcases hc with⟨rfl,rfl,rfl⟩|⟨hM,rfl,rfl⟩
 ·rw[qF (show V.int ((1:Nat):Int)=V.int 1 from rfl)];have g1:g^(2-1)=g:=by show g^(0+1)=g;rw[dj,eV,fj]
  have e2:(lf+1-lf+1).toNat=2:=by lia
  refine (C9 5#4 rfl (C9 5#4 rfl ⟨lf,rfl,?_⟩));refine⟨r1,g,lf,_,1,lf,lf+1,rfl,ok1,λho=>?_,λ_ hw=>?_,λ_ _ r2 H2 f2 ok2=>?_⟩
  ·exfalso;rcases ho with z|⟨z,hz,y⟩
   ·lia
   ·unfold Br at hz;obtain⟨j,hj,rfl⟩:=dG.mp hz;have:=dA.mp (db.mp hj).1;lia
  ·exfalso;rw[e2]at hw;have:g^2<=9*9:=by rw[show (2:Nat)=(2-1)+1 from rfl,dj,g1];exact iq g9 g9 (by lia) (by lia)
   lia
  ·rw[e2]at ok2;exact hok (by lia) r2 H2 (e1.trans f2) ok2
 ·rw[qE (λz=>by have:=V.int.inj z;lia)];refine⟨r1,g,lf,_,mf,rfl,ok1,_,rfl,?_⟩;rw[(Ao g2 ok1.len ok1.m1).1]
  by_cases h9:9<g^(mf-1)
  ·rw[qF h9];exact⟨by decide,hex h9 _ e1⟩
  ·rw[qE h9];exact hok (by lia) r1 H1 e1 ok1
theorem Z7:AJ ["one"] ["one"] (AH YD):=CB
theorem Z8(T:B8 K mg t):B2 P w K mg base 9 t.f_69 ["one"] (O9 t.c_46):=by refine Fk T.d_69.2 Z7 λvs H Q E h=>?_;obtain⟨r,g,lo,dl,m,lf,tf,mf,rfl,ok,fw,hok,hex⟩:=h;symm;refine⟨_,(AF (AO (AM hr (Eh T) T.d_68.1 (AA (Bh (P2 T) (hr.mono (by decide)) rfl T.d_67.1 BQ 1#1) AB)))),?_⟩;ac_nf;refine⟨r,g,lo,dl,m,lf,tf,mf,rfl,ok,fw,λh9 r1 H1 e1 ok1=>⟨r1,g,lf,tf,mf,rfl,ok1,?_⟩,hex⟩;rw[(Ao ok1.g2 ok1.len ok1.m1).1];exact hok h9 _ e1
theorem Z9:AJ ["one"] ["one"] (AH YE):=CB
theorem aB(T:B8 K mg t):B2 P w K mg base 10 t.f_22 ["one"] (PB t.c_46):=by refine Fk T.d_22.2 Z9 λvs H Q E h=>?_;obtain⟨r,g,lo,dl,m,lf,tf,mf,rfl,ok,fw,hok,hex⟩:=h;symm;refine⟨_,(AF (AO (AK BX (AK RX AE (Bh (Z8 T) (hr.mono (by decide)) rfl T.d_69.1 BQ 1#1)) AE))),?_⟩;ac_nf;refine⟨r,g,lo,dl,m,lf,tf,mf,rfl,ok,fw,λh9 H1 e1=>⟨_,rfl,fD (RW.Ad ok.g2 _),by lia,by decide,?_⟩,hex⟩;rw[fj];exact hok h9 _ e1
theorem P3:AJ ["framed","fitting","some","number"] ["framed","fitting"] (AH YF):=CB
theorem aC(T:B8 K mg t):B2 P w K mg base 2 t.f_47 ["framed","fitting"] (Su):=by
 refine Am T.d_47.2 P3 λvs H Q E h=>?_;obtain⟨r,f,g,lo,dl,m,ks,rfl,ok,hf,q⟩:=h;symm
 refine⟨_,(AD (AQ 2 P3 AE)
  (AD (A6 PassesOwn.never rfl (NI K 0#8) (BF 3 P3) (AF (AQ 2 P3 (AK Vn 1#9 (AK RX AE (AK A9 2#7 (AM hr (Eh T) T.d_68.1 1#1)))))))
  (AF (AO 1#9)))),?_⟩
 have g2:=ok.g2;have hd:=Ao g2 ok.len ok.m1
 have h1:1<=0#0/0#2:=by have:=RW.Ad g2 (m-1);lia
 obtain⟨h,hh⟩:∃h,h=0#0/0#2:=⟨_,rfl⟩;rw[<-hh]at h1 q;nofun;refine hN _ _ ?_;clear hN N;refine Bw (λσ HX=>(∃x3,σ=[some 2#4,some 5#7,some (.int (Be h (Fe h ks))),x3])/\HX=H) (λN hN=>?_) ?_
 ·refine⟨_,rfl,f,rfl,⟨_,Aa.of hf⟩,?_⟩;refine B3 (xs:=(Fc ks).map 1#0) (λi σ HX=>(∃x3,σ=[some 2#4,some 5#7,some (.int (Be h (Fe h (ks.take i)))),x3])/\HX=H) ⟨⟨none,by rw[List.take_zero,show Fe h []=λ_=>false from rfl,FW]⟩,rfl⟩ (λi σ HX _ z=>by rw[z.2];exact Aa.of hf) ?_ ?_
  ·refine Hk ?_;rintro _ _ i x _ hGo σ HX hx ⟨⟨x3,rfl⟩,rfl⟩;ac_rfl;obtain⟨v,hv,rfl⟩:=CK hx
   obtain⟨n,hn,rfl⟩:∃n:Nat,ks[i]?=some n/\v=(n:Int):=by
    unfold Fc at hv;rw[cn]at hv;cases z:ks[i]? with
    |none=>rw[z]at hv;cases hv
    |some n=>rw[z]at hv;exact⟨n,rfl,(Option.some.inj hv).symm⟩
   ac_nf;have md:(n:Int)%((h:Nat):Int)=((n%h:Nat):Int):=(d6 ..).symm;have lt:=fM n h1;have hle:0#0/0#2<=0#0:=Nat.div_le_self ..;have sz:=ok.sz;have tl:=20#4;refine⟨r,g,lo,dl,m,rfl,ok,_,rfl,?_⟩;rw[<-hh,md,cp,fj];refine⟨by lia,by lia,by lia,by decide,?_,⟨_,rfl⟩,rfl⟩;rw[Sr h1,gu,hn];rfl
  ·rintro σ HX ⟨⟨x3,rfl⟩,rfl⟩;have lf:((Fc ks).map 1#0).length=ks.length:=by unfold Fc;rw[2#8,2#8]
   rw[lf,du];exact hN _ _ ⟨⟨_,rfl⟩,rfl⟩
 rintro _ hGo σ HX ⟨⟨x3,rfl⟩,rfl⟩;ac_rfl;ac_nf;exact q
theorem Yq:AJ ["framed","singles","node"] ["framed"] (AH bg):=CB
theorem cC(T:B8 K mg t):B2 P w K mg base 3 t.f_8 ["framed"] (KJ):=by
 refine Am T.d_8.2 Yq λvs H Q E h=>?_;obtain⟨r,g,lo,dl,m,rfl,ok,h9,q⟩:=h;symm
 refine⟨_,(AD (AQ 1 Yq 11#5)
  (AD (A6 PassesOwn.never rfl (Aj rfl T.z_range (AA (AM hr (Eh T) T.d_68.1 1#1) AB)) (BF 2 Yq) (AF (Ax (LL K 0#8 (AA (C7 [(2,"node"),(0,"framed")] [("node",_),("framed",_)] (Aj rfl T.z_range (AA (AL 3#5 0#6 AE (λ_ _=>rfl)) AB)) (λ_ _ _ _=>Cs) (λ_ _ _ _=>(AM hr (aC T) T.d_47.1 (AA 1#9 (AA (AM hr (UF T) T.d_39.1 (AA 1#9 (AA 0#8 1#1))) AB))))) AB)))))
  21#9)),?_⟩
 refine A8.el ok.v λtb h1 h2=>?_;have g2:=ok.g2;have g9:=ok.g9;have hd:=Ao g2 ok.len ok.m1;obtain⟨h,hh⟩:∃h,h=0#0/0#2:=⟨_,rfl⟩;rw[<-hh]at h9 q;nofun;refine⟨dz _,λp hp=>hN _ _ ?_⟩;clear hN N;refine Bw (λσ HX=>(∃x2,σ=[some 2#4,some 1#5,x2])/\AG H HX/\∃ps,UT HX p ps (Ef g.toNat dl h h)/\p∉ps) (λN hN=>?_) ?_
 ·refine⟨_,rfl,r,g,lo,dl,m,rfl,ok.same (AG.new hp _),_,rfl,by lia,by lia,?_⟩;rw[<-hh,cp];refine BN (n:=h) (λi σ HX=>(∃x2,σ=[some 2#4,some 1#5,x2])/\AG H HX/\∃ps,UT HX p ps (Ef g.toNat dl h i)/\p∉ps) ⟨⟨none,rfl⟩,AG.new hp _,[],⟨AC,rfl,λi q w hq=>qG hq (by simp)⟩,by simp⟩ ?_ λσ HX z=>hN _ _ z
  refine Ds ?_;rintro _ _ i _ hGo σ HX hi ⟨⟨x2,rfl⟩,eX,ps,hs,np⟩;ac_rfl;ac_nf;have npH:H p=none:=hp;refine⟨.inl ⟨_,Aa.of hs.l⟩,?_⟩;refine⟨_,rfl,r,_,0,_,rfl,rfl,Ai.of (eX _ _ h1),rfl,_,rfl,by lia,by lia,λD hD=>?_⟩;refine Bb (n:=0#2) (λs j5 Hx=>j5=((List.range s).map λs:Nat=>Be h (Fe h (Bt g.toNat dl i (s:Int)))).map 1#0/\AG HX Hx/\Hx D=some 5#0) ⟨rfl,AG.new hD _,AC⟩ ?_ ?_
  ·refine Dg ?_;rintro s _ hGo j5 Hx hs' ⟨rfl,ex,hDx⟩;ac_rfl;ac_nf;simp only[Int.zero_add];refine⟨r,g,lo,dl,m,i,_,rfl,ok.same (eX.trans ex),by lia,λp2 H2 n2=>?_⟩;refine⟨r,p2,g,lo,dl,m,_,rfl,ok.same ((eX.trans ex).trans n2.1),n2.2.2,?_⟩;rw[<-hh];refine⟨n2.1 _ _ hDx,?_,?_,(ex.trans n2.1).into hD,AC⟩
   ·rw[cU,cU,dL];exact AW (by lia)
   ·rw[BE,cq];rfl
  refine Dh ?_;rintro _ hGo j5 H5 ⟨rfl,e5,h5⟩;ac_rfl;clear hGo
  have Dp:D≠p:=λz=>by rw[z,hs.l]at hD;cases hD
  have sl:(Ef g.toNat dl h i).length=i:=by unfold Ef;rw[2#8,4#1]
  have ss:Ef g.toNat dl h (i+1)=Ef g.toNat dl h i++[JD g.toNat dl h i]:=by unfold Ef;rw[List.range_succ,List.map_append];rfl
  have pl:3#0=i:=by rw[hs.n,sl]
  refine⟨_,e5 _ _ hs.l,?_,⟨_,rfl⟩,(eX.trans e5).into npH,ps++[D],⟨?_,?_,λk q' w hq hw=>?_⟩,?_⟩
  ·rw[cU];exact AW (by lia)
  ·rw[AC,cq];rfl
  ·rw[ss,cg,cg,hs.n];rfl
  ·have qp:q'≠p:=λz=>by
    have:=cw hq;rw[z]at this;rcases cZ.mp this with y|y
    ·exact np y
    ·exact Dp (ce.mp y).symm
   rw[AI qp];rw[ss]at hw
   by_cases kl:k<i
   ·rw[df (by lia)]at hq hw;exact e5 _ _ (hs.e k q' w hq hw)
   ·rw[dC (by lia)]at hq hw;have k0:k-i=0:=by rw[pl]at hq;have:=(cW.mp hq).1;rw[dB]at this;lia
    rw[pl,k0]at hq;rw[sl,k0]at hw;cases hq;cases hw;exact h5
  ·intro z;rcases cZ.mp z with y|y
   ·exact np y
   ·exact Dp (ce.mp y).symm
 rintro _ hGo σ HX ⟨⟨x2,rfl⟩,eX,ps,hs,np⟩;ac_rfl;ac_nf;exact q p ps _ eX hs
theorem NC:AJ ["singles","some","sign","come","node","steps"] ["singles","some","sign"] (AH YG):=CB
theorem aD(T:B8 K mg t) :B2 P w K mg base 1 t.f_51 ["singles","some","sign"] (MJ):=by
 refine Am T.d_51.2 NC λvs H Q E h=>?_;obtain⟨p,ps,G,dl,h,x,s',rfl,hs,x0,sG,q⟩:=h;symm
 refine⟨_,(AD (AQ 3 NC AE)
  (AD (A6 PassesOwn.never rfl (IA rfl T.z_enumerate 1#1) (Ep rfl (BV (BF 4 NC) (BV (BF 5 NC) Dl))) (AF (BK (AR Cp (AK Wv (AK Wu 0#8 5#6) AE) AE (AU _)) (AF (AQ 3 NC (AK Vn 2#7 (AL 3#7 8#8 1#9 (λ_ _=>rfl))))) Af)))
  (AF (AO 2#7)))),?_⟩
 nofun;refine hN _ _ ?_;clear hN N;have sn:(Ef G dl h h).length=h:=by unfold Ef;rw[2#8,4#1]
 refine Bw (λσ HX=>(∃x4 x5,σ=[some 1#5,some (.int x),some (.int ((s':Nat):Int)),some (.int (Fl G dl h x (s':Int))),x4,x5])/\AG H HX) (λN hN=>?_) ?_
 ·refine⟨_,rfl,p,_,rfl,Aa.of hs.l,?_⟩;refine GK (xs:=ps.map 20#2) (λi σ HX=>(∃x4 x5,σ=[some 1#5,some (.int x),some (.int ((s':Nat):Int)),some (.int (Be h (D7 G dl h x (s':Int) i))),x4,x5])/\AG H HX) ⟨⟨none,none,by rw[show D7 G dl h x (s':Int) 0=λ_=>false from rfl,FW]⟩,AG.refl _⟩ (λi σ HX _ z=>Aa.of (z.2 _ _ hs.l)) ?_ ?_
  ·intro i y p2;refine Pu ?_;rintro _ hGo σ HX hy ⟨⟨x4,x5,rfl⟩,eX⟩;refine hGo _ _ λhp2=>?_;clear hGo
   obtain⟨pk,hpk,rfl⟩:∃pk,ps[i]?=some pk/\y=.ref pk:=by
    rw[cn]at hy;cases z:ps[i]? with
    |none=>rw[z]at hy;cases hy
    |some pk=>rw[z]at hy;exact⟨pk,rfl,(Option.some.inj hy).symm⟩
   have e2:=eX.trans (AG.new hp2 (.tup [.int ((i:Nat):Int),.ref pk]));have il:i<h:=by rw[<-sn,<-hs.n];exact (cW.mp hpk).1
   have hw:=e2 _ _ (hs.e i pk (JD G dl h i) hpk (by unfold Ef;rw[13#6,List.getElem?_range il];rfl));refine⟨p2,_,rfl,Ai.of AC,rfl,_,_,rfl,_,_,rfl,rfl,?_⟩;generalize AZ HX p2 (.tup [.int ((i:Nat):Int),.ref pk])=HT at e2 hw⊢;ac_nf;refine⟨by lia,?_⟩;rw[cp,U7 (Int.ediv_nonneg x0 (fD (Int.pow_pos (by decide))))]
   by_cases z:x/2^i%2=1
   ·rw[qF z];have gl:s'<(JD G dl h i).length:=by unfold JD;rw[2#8,4#1];exact sG
    refine (B1 (Aa.of hw) (Dn gl) ⟨_,rfl,?_,⟨_,rfl⟩,e2⟩);rw[show (JD G dl h i).getD s' 0=Be h (Fe h (Bt G dl i (s':Int))) by unfold JD;rw[AT sG]];exact U8 z
   ·rw[qE z];exact⟨Ss z,⟨_,rfl⟩,e2⟩
  ·rintro σ HX ⟨⟨x4,x5,rfl⟩,eX⟩;rw[cU,hs.n,sn];exact hN _ _ ⟨⟨_,_,rfl⟩,eX⟩
 rintro _ hGo σ HX ⟨⟨x4,x5,rfl⟩,eX⟩;ac_rfl;ac_nf;exact q _ eX
theorem P4:AJ ["starts","nexts_of","nexts","waiting","here"] ["starts","nexts_of"] (AH YH):=CB
theorem aE(T:B8 K mg t) :B2 P w K mg base 3 t.f_50 ["starts","nexts_of"] (KR P w K mg base 2):=by
 refine Am T.d_50.2 P4 λvs H Q E h=>?_;obtain⟨a,f,S,N,F,rfl,hS,sl,n5,lS,lF,⟨fd,ps,sp,oc,od,fd',sl',fok,fb,hf,hsp⟩,q⟩:=h;symm
 refine⟨_,(AD (AQ 2 P4 Ix)
  (AD (AQ 3 P4 (FJ Kq rfl T.z_list ie 1#1))
  (AD (C4 PassesOwn.never (AR DU 21#3 AE (AU _)) (AD (AQ 4 P4 (W0 fU PySem.F.slot_list_pop PySem.F.type_list_pop W1 2#7))
  (AF (BK (NJ (KH 8#9 5#6 1#9)) (AD (O7 8#9 1#9 5#6 (Tl (k:=2) 1 (hr.mono (by decide)) 10#8) rfl)
  (AF (Ax (IW fU gT gU FM 2#7 (AA (K2 8#9 1#9 5#6 (λ_ _=>rfl)) AB))))) Af))))
  (AF (AO 1#9))))),?_⟩
 refine Ah λN1 hN=>?_;intro d hd;refine hN _ _ ?_;clear hN N1;have e0:=AG.new hd (.dK []);refine Ah λN1 hN=>?_;ac_nf;refine⟨_,.inl (e0.seq hS),λp hp=>hN _ _ ?_⟩;clear hN N1;have pd:d≠p:=λz=>by rw[<-z,AC]at hp;cases hp
 have dw:Js S F=Js S F:=rfl;have low:∀{A W:qW},G8 S F A W->(∀a∈A,0<=a/\a<(N:Int))/\(∀a∈W,0<=a/\a<(N:Int)):=λr=>⟨λa ha=>(r.co a (.inl ha)).low lS λx h0 h1=>(lF x h0 h1).2,λa ha=>(r.co a (.inr ha)).low lS λx h0 h1=>(lF x h0 h1).2⟩
 refine Bw (λσ HX=>∃x4,σ=[some 2#6,some 5#7,some 2#2,some 1#5,x4]/\∃A,bT H HX d p S F A []) (λN1 hN=>?_) ?_
 ·refine⟨λm σ HX=>(∃x4,σ=[some 2#6,some 5#7,some 2#2,some 1#5,x4])/\∃A W,bT H HX d p S F A W/\m=(512-4#3)*10+W.length/\m<=5220,⟨_,⟨none,rfl⟩,[],S,⟨[],(e0.trans (AG.new hp _)),λl hl=>qG hl cu,?_,FE.nil,AC,cu,G8.start⟩,rfl,by rw[List.length_nil];lia⟩,?_⟩
  ·rw[AI pd];exact AC
  intro m;refine Dh ?_;rintro _ hGo σ HX ⟨⟨x4,rfl⟩,A,W,⟨ls,eX,ln,hdX,gX,hpX,np,rc⟩,rfl,m5⟩;ac_rfl;clear hGo;obtain⟨lA,lW⟩:=low rc;have cA:=HD rc.nd lA;refine⟨_,rfl,p,_,rfl,.inl (Aa.of hpX),_,_,rfl,rfl,_,rfl,?_⟩;rw[cU]
  by_cases z:W=[]
  ·subst z;rw[qE (by decide)];exact hN _ _ ⟨_,rfl,A,ls,eX,ln,hdX,gX,hpX,np,rc⟩
  obtain⟨W',x,rfl⟩:=OO z;rw[qF (by rw[cg,dB];exact qH (by lia))];refine⟨λσ' H'=>∃m',m'<(512-4#3)*10+(W'++[x]).length/\((∃x4,σ'=[some 2#6,some 5#7,some 2#2,some 1#5,x4])/\∃A W,bT H H' d p S F A W/\m'=(512-4#3)*10+W.length/\m'<=5220),λ_ _ h=>h,?_⟩;obtain⟨x0,x1⟩:=lW x (cZ.mpr (.inr 10#3));obtain⟨fx9,fxl⟩:=lF x x0 x1;refine Ah λN2 hN2=>?_;refine⟨_,rfl,.inl ⟨rfl,_,Aa.of hpX⟩,p,_,.int x,rfl,rfl,hpX,?_,?_⟩
  ·rw[cU,cg,dB,fh,cn,dC (cj _),fg];rfl
  rw[show ((W'++[x]).map 1#0).dropLast=W'.map 1#0 by rw[cq,d9,ir,List.dropLast_concat]];refine hN2 _ _ ?_;clear hN2 N2;have pn:H p=none:=e0.free hp;have dX2:AZ HX p 18#0 d=some 13#2:=by rw[AI pd];exact hdX
  have eX2:AG H (AZ HX p 18#0):=eX.into pn;have gX2:=gX.keep np 18#0;have pX2:AZ HX p 18#0 p=some 18#0:=AC;generalize AZ HX p 18#0=HY at dX2 eX2 gX2 pX2⊢;clear hdX eX gX hpX HX hp;have rl:(ls.map 20#2).length=4#3:=by rw[cU];exact gX2.n
  refine⟨_,rfl,_,rfl,d,_,rfl,Fd.k (k:=Sum.inl x) dX2,_,rfl,?_⟩;rw[Gc rl rc.nd]
  by_cases m:x∈A
  ·rw[qH m];rw[cg,dB]at m5⊢;exact Rg ⟨_,by lia,⟨_,rfl⟩,A,W',⟨ls,eX2,ln,dX2,gX2,pX2,np,rc.old m⟩,rfl,by lia⟩
  rw[qI m];refine W6 ?_;refine Ah λN2 hN2=>?_;refine⟨f,fd,ps,sp,oc,od,fd',sl',rfl,fok,fb,eX2 _ _ hf,_,rfl,eX2 _ _ hf,hsp x x0 x1 HY _ eX2 λl HZ eZ hl hlZ=>?_⟩
  have cA2:4#3<512:=by have nd2:=rc.next m;have:=HD nd2.nd (low nd2).1;rw[cg,dB]at this;lia
  refine⟨_,rfl,_,rfl,d,_,rfl,Qe.k (k:=Sum.inl x) (eZ _ _ dX2) (by rw[ED rl];exact AW (by lia)),hN2 _ _ ?_⟩;clear hN2 N2;rw[JX rl m];have nl:=gX2.new hl;have ld:l≠d:=λz=>by rw[z,dX2]at hl;cases hl
  have lp:l≠p:=λz=>by rw[z,pX2]at hl;cases hl
  have dn:d∉ls:=gX2.out λxs z=>by rw[dX2]at z;cases z
  have gQ:=(gX2.same eZ).keep dn (.dK (BB (A++[x]) (ls.map 20#2++[V.ref l])));have lQ:AZ HZ d (.dK (BB (A++[x]) (ls.map 20#2++[V.ref l]))) l=some (.lst ((F x).map 1#0)):=by rw[AI ld];exact hlZ
  have pQ:AZ HZ d (.dK (BB (A++[x]) (ls.map 20#2++[V.ref l]))) p=some 18#0:=by rw[AI (Ne.symm pd)];exact eZ _ _ pX2
  have eQ:AG H (AZ HZ d (.dK (BB (A++[x]) (ls.map 20#2++[V.ref l])))):=(eX2.trans eZ).into hd;have dQ:AZ HZ d (.dK (BB (A++[x]) (ls.map 20#2++[V.ref l]))) d=some (.dK (BB (A++[x]) ((ls++[l]).map 20#2))):=by rw[AC,cq];rfl
  generalize AZ HZ d (.dK (BB (A++[x]) (ls.map 20#2++[V.ref l])))=HQ at gQ lQ pQ eQ dQ⊢;have gQ2:=gQ.snoc nl lQ;have rl2:((ls++[l]).map 20#2).length=(A++[x]).length:=by rw[cU];exact gQ2.n
  refine⟨_,rfl,.inl ⟨rfl,_,Aa.of pQ⟩,_,rfl,_,rfl,d,_,rfl,?_,p,l,_,_,rfl,rfl,pQ,lQ,?_,?_⟩
  ·have:=Fd.k (k:=Sum.inl x) dQ;rw[Cd (rc.next m).nd (i:=4#3) (by rw[dC (cj _),fg];rfl) (v:=.ref l) (by rw[cn,dC (by rw[gQ.n];exact cj _),gQ.n,fg];rfl)]at this;exact this
  ·rw[cg,dB]at m5;rw[cU,cU,sizeLine_eq];lia
  ·rw[<-cq];rw[cg,dB]at m5⊢;have pl:p∉ls++[l]:=λz=>(cZ.mp z).elim np λz=>lp (ce.mp z).symm
   refine⟨_,?_,⟨_,rfl⟩,A++[x],W'++F x,⟨ls++[l],eQ.into pn,λy hy=>?_,?_,gQ2.keep pl _,AC,pl,rc.next m⟩,rfl,?_⟩
   ·rw[cg,cg,dB];lia
   ·rcases cZ.mp hy with z|z
    ·exact ln y z
    ·rw[ce.mp z];exact eX2.free hl
   ·rw[AI pd];exact dQ
   ·rw[cg,cg,dB];lia
 rintro _ hGo σ HX ⟨x4,rfl,A,ls,eX,ln,hdX,gX,hpX,np,rc⟩;ac_rfl;ac_nf;exact q d HX ls A eX hd ln hdX gX rc.done (low rc).1
theorem P5:AJ ["nexts","ahead","here","come"] ["nexts"] (AH YI):=CB
theorem aG(T:B8 K mg t) :B2 P w K mg base 1 t.f_17 ["nexts"] (PX P w K):=by
 refine Am T.d_17.2 P5 λvs H Q E h=>?_;obtain⟨d,u,ls,A0,F,rfl,dr,gr,nd,cl,lA,lF,q⟩:=h;symm
 refine⟨_,(AD (IR (i:=1) P5.nd rfl 3#8 (JF (P:=P) (w:=w) (K:=K) rfl rfl rfl))
  (AD (A6 PassesOwn.never rfl (FX (P:=P) (w:=w) (K:=K) rfl rfl rfl 0#6) (BF 2 P5) (AD (Ax (S8 (P:=P) (w:=w) (K:=K) rfl rfl rfl fH fu (He (P:=P) (w:=w) (K:=K) rfl rfl rfl 8#9) 0#8 (AA 1#9 (AA 11#5 AB))))
  (AF (A6 PassesOwn.never rfl (NI K (Dc (P:=P) (w:=w) (K:=K) rfl rfl rfl 8#9 0#6 1#9 (λ_ _=>rfl))) (BF 3 P5) (AF (Ax (LL K (S8 (P:=P) (w:=w) (K:=K) rfl rfl rfl fH fu (He (P:=P) (w:=w) (K:=K) rfl rfl rfl 8#9) 0#8 (AA 2#7 (AA 11#5 AB))) 4#9)))))))
  21#9)),?_⟩
 nofun;intro d2 u2 hd2 dw;refine hN _ _ ?_;clear hN N;have e0:=AG.new hd2 u2;generalize AZ H d2 u2=H0 at dw e0⊢;refine Bw (λσ HX=>(∃x2 x3,σ=[some 2#2,some 5#3,x2,x3])/\∃u' ls2 A2 B,AG 4#8 HX/\DR P w K HX d u' 14#1/\(∀l∈ls2,H l=none)/\DW P w K HX d2 14#0/\EI K HX ls2 A2 B/\PV A0 F A2 B) (λN hN=>?_) ?_
 ·refine⟨_,rfl,d,u,_,rfl,dr.same e0,λu' dr'=>?_⟩;have nd2:d≠d2:=λe=>by obtain⟨φ,h1,_⟩:=dr.isX;rw[e,hd2]at h1;cases h1
  have eF:=AG.both e0 d u';have gF:=(dr.same e0).grl (gr.same e0) u'
  have aF:WB P w K H (AZ H0 d u') d2 [] (λ_=>[]):=by obtain⟨bs,h1,h3,h4⟩:=dw;have hb:bs=[]:=List.map_eq_nil_iff.mp h3;subst hb;exact⟨[],λl hl=>qG hl 14#7,⟨[],by rw[AI 12#8];exact h1,rfl,λp hp=>qG hp 14#7⟩,⟨rfl,18#5,λi a l z=>by simp at z⟩⟩
  generalize AZ H0 d u'=HF at dr' eF gF aF⊢;refine Qr (P:=P) (w:=w) (K:=K) (d:=d) (u:=u') (kvs:=Ar A0 1#7) (λi σ HX=>(∃x2 x3,σ=[some 2#2,some 5#3,x2,x3])/\AG 4#8 HX/\DR P w K HX d u' 14#1/\EI K HX ls A0 F/\∃A2 B,WB P w K H HX d2 A2 B/\RL A0 F i (λ_ _=>False) (i*70000) A2 B) ⟨⟨none,none,rfl⟩,eF,dr',gF,[],λ_=>[],aF,⟨18#5,λp hp=>qG hp 14#7,λp hp=>qG hp (by simp),λ_ _=>rfl,λp q=>by simp,λ_=>Nat.zero_le _⟩⟩ (λi σ HX _ z=>z.2.2.1) ?_ ?_
  ·intro i b k v;refine a6 ?_;rintro _ hGo σ HX hk sb ⟨⟨x2,x3,rfl⟩,eX,dX,gX,A2,B,aX,tX⟩;ac_rfl;clear hGo;obtain⟨a,l,ha,hl,rfl,rfl⟩:=K7 hk;dsimp only[Fg];have aA:a∈A0:=cw ha;have lA2:∀{A2:List (qX)} {B:qX->List (qX)} {D:(qX)->(qX)->Prop} {n:Nat},RL A0 F i D n A2 B->A2.length<=100:=λt=>dM (t.nd.length_le_of_subset t.sub) lA
   have Hn:∀{HX:Hp} {l:qR},AG 4#8 HX->HX l=none->H l=none:=λ{HX l} e z=>by have y:=e.free z;rw[AI λx=>by rw[x,AC]at y;cases y]at y;exact y
   have hd2':AZ H d u' d2=none:=by rw[AI 12#8];exact hd2
   refine Bw (λσ HY=>(∃x3,σ=[some 2#2,some 5#3,some 11#4,x3])/\AG 4#8 HY/\DR P w K HY d u' 14#1/\EI K HY ls A0 F/\Ai K HY b (TD a)/\∃A2 B,WB P w K H HY d2 A2 B/\RL A0 F i (λ_ _=>False) (i*70000) A2 B/\a∈A2) (λN2 hN2=>?_) ?_
   ·obtain⟨ls2,ln,wX,g2⟩:=aX;obtain⟨v2,r2⟩:=wX.r;have lr:(Ar A2 3#1).length<=100:=by rw[CC (by rw[cU];exact g2.n)];exact lA2 tX
    refine⟨_,rfl,⟨d2,v2,_,rfl,r2⟩,_,rfl,by decide,λl' hl'=>?_⟩;have f1:=AG.new hl' (.lst []);have h0:=Hn eX hl';have nl:=g2.out hl';have lY:AZ HX l' (.lst []) l'=some (.lst []):=AC;have eY:=eX.trans f1;have dY:=dX.same f1;have gY:=gX.same f1;have wY:=wX.same f1;have g2Y:=g2.same f1;have sY:=Ai.same' f1 sb;generalize AZ HX l' (.lst [])=HY at lY eY dY gY wY g2Y sY⊢;refine⟨d2,b,_,Bf a,.ref l',rfl,rfl,wY,sY,AW (by lia),λz hz=>hN2 _ _ ⟨⟨_,rfl⟩,eY,dY,gY,sY,A2,B,⟨ls2,ln,wY,g2Y⟩,tX,?_⟩,λhz u3 w3=>hN2 _ _ ?_⟩
    ·by_cases m:a∈A2
     ·exact m
     ·rw[EB m]at hz;cases hz
    ·have m:a∉A2:=λm=>by
      obtain⟨j,hj⟩:=d4.mp m;have jl:=(cW.mp hj).1;rw[CD tX.nd hj (v:=.ref (ls2[j]'(by rw[g2.n];exact jl))) (by rw[cn,cX (by rw[g2.n];exact jl)];rfl)]at hz;cases hz
     exact⟨⟨_,rfl⟩,eY.into hd2',dY.updX wY nd2 u3,wY.grl gY u3,(by obtain⟨_,h1,_⟩:=wY;exact sY.upd' h1),A2++[a],B,WB.put ln wY g2Y lY nl h0 m (tX.no a m) w3,tX.key m aA,cZ.mpr (.inr 10#3)⟩
   clear tX aX eX dX gX sb;rintro _ hGo σ HY ⟨⟨x3,rfl⟩,eX,dX,gX,sb,A2,B,aX,tX,mA⟩;ac_rfl;obtain⟨ps,hps,pp⟩:=gX.e i a l ha hl;have pn:=Paired.length pp;have fa:=lF a aA;have i100:i<=100:=by have:=(cW.mp ha).1;lia
   have nls:∀{x:qR},H x=none->x∉ls:=λhx=>gr.out hx
   refine⟨_,rfl,_,rfl,d,b,u',_,Bf a,.ref l,rfl,rfl,dX,sb,CD nd ha (by rw[cn,hl];rfl),l,rfl,⟨_,Aa.of hps⟩,?_⟩;refine B3 (xs:=ps.map 20#2) (λj σ HZ=>(∃x3,σ=[some 2#2,some 5#3,some 11#4,x3])/\AG 4#8 HZ/\HZ l=some 7#1/\C8 K HZ ps (F a)/\DR P w K HZ d u' 14#1/\EI K HZ ls A0 F/\Ai K HZ b (TD a)/\∃A2 B,WB P w K H HZ d2 A2 B/\RL A0 F i (λp q=>q=a/\p∈(F a).take j) (i*70000+j) A2 B/\a∈A2) ⟨⟨_,rfl⟩,eX,hps,pp,dX,gX,sb,A2,B,aX,⟨tX.nd,tX.sub,tX.got,tX.no,λp q=>by rw[tX.on];simp,λp=>Nat.le_trans (tX.len p) (Nat.le_add_right ..)⟩,mA⟩ (λj σ HZ _ z=>Aa.of z.2.2.1) ?_ ?_
   ·clear tX aX eX dX gX sb mA hps pp;intro j x;refine Pu ?_;rintro _ hGo σ HZ hx ⟨⟨x3,rfl⟩,eX,hps,pp,dX,gX,sb,A2,B,⟨ls2,ln,wX,g2⟩,tX,mA⟩;ac_rfl;clear hGo;obtain⟨c,hci,rfl⟩:∃c,ps[j]?=some c/\x=V.ref c:=by rw[cn]at hx;obtain⟨c,h1,h2⟩:=dq.mp hx;exact⟨c,h1,h2.symm⟩
    obtain⟨p0,hp0,sc⟩:=Bc pp hci;have p0A:p0∈A0:=cl a aA p0 (cw hp0);have j7:j<70000:=by have:=(cW.mp hp0).1;lia
    have i7:=gK 70000 i100;obtain⟨v2,r2⟩:=wX.r
    have lr:(Ar A2 3#1).length<=100:=by rw[CC (by rw[cU];exact g2.n)];exact lA2 tX
    have app:∀(HQ:Hp) (A2:List (qX)) (ls2:List qR) (j2:Nat) (l2:qR),AG 4#8 HQ->HQ l=some 7#1->C8 K HQ ps (F a)->DR P w K HQ d u' 14#1->EI K HQ ls A0 F->Ai K HQ b (TD a)->(∀l∈ls2,H l=none)->DW P w K HQ d2 14#0->EI K HQ ls2 A2 B->RL A0 F i (λp q=>q=a/\p∈(F a).take j) (i*70000+j) A2 B->a∈A2->A2[j2]?=some p0->ls2[j2]?=some l2 ->
      ∃qs:List qR,HQ l2=some (.lst (qs.map 20#2))/\(qs.map 20#2).length<sizeLine/\∃HW,HW=AZ HQ l2 (.lst (qs.map 20#2++[V.ref b]))/\AG 4#8 HW/\HW l=some 7#1/\C8 K HW ps (F a)/\DR P w K HW d u' 14#1/\EI K HW ls A0 F/\Ai K HW b (TD a)/\∃A2 B,WB P w K H HW d2 A2 B/\RL A0 F i (λp q=>q=a/\p∈(F a).take (j+1)) (i*70000+(j+1)) A2 B/\a∈A2:=by
     intro HQ A2 ls2 j2 l2 e h1 h2 h3 h4 h5 ln w2 g2 t m hj2 hl2;obtain⟨qs,hq,hqp⟩:=g2.e j2 p0 l2 hj2 hl2;have ml:=cw hl2;have h0:=ln l2 ml;have nl:=nls h0;have ne:l≠l2:=λz=>nl (by rw[<-z];exact cw hl)
     have lq:=Paired.length hqp;have lb:=t.len p0;have tp:=t.push hp0 (cw hj2);rw[iI]at tp;refine⟨qs,hq,by rw[cU,sizeLine_eq];lia,_,rfl,?_⟩;rw[show qs.map 20#2++[V.ref b]=(qs++[b]).map 20#2 by rw[cq];rfl];refine⟨e.into (by rw[AI λz=>by obtain⟨φ,y,_⟩:=dr.isX;rw[<-z,h0]at y;cases y];exact h0),by rw[AI ne];exact h1,C8.upd hq h2,h3.updL hq _,h4.keep hq nl _,Ai.updL hq h5,A2,_,⟨ls2,ln,w2.updL hq _,g2.push t.nd hj2 hl2 hq hqp h5 λ_=>rfl⟩,tp,m⟩
    refine⟨_,rfl,⟨d2,v2,_,rfl,r2⟩,_,rfl,by decide,λl' hl'=>?_⟩;have f1:=AG.new hl' (.lst []);have h0:=Hn eX hl';have nl:=g2.out hl';have lY:AZ HZ l' (.lst []) l'=some (.lst []):=AC;have eY:=eX.trans f1;have dY:=dX.same f1;have gY:=gX.same f1;have wY:=wX.same f1;have g2Y:=g2.same f1;have sY:=Ai.same' f1 sb;have cY:=Ai.same' f1 sc;have hY:=f1 _ _ hps;have pY:=C8.same f1 pp;generalize AZ HZ l' (.lst [])=HY at lY eY dY gY wY g2Y sY cY hY pY⊢;refine⟨d2,c,_,Bf p0,.ref l',rfl,rfl,wY,cY,AW (by lia),λz hz=>?_,λhz u3 w3=>?_⟩
    ·have m:p0∈A2:=by
      by_cases m:p0∈A2
      ·exact m
      ·rw[EB m]at hz;cases hz
     obtain⟨j2,hj2⟩:=d4.mp m;have jl:=(cW.mp hj2).1;obtain⟨l2,hl2⟩:∃l2,ls2[j2]?=some l2:=⟨ls2[j2]'(by rw[g2.n];exact jl),cX _⟩;rw[CD tX.nd hj2 (v:=.ref l2) (by rw[cn,hl2];rfl)]at hz;cases hz;obtain⟨qs,h1,h2,HW,hW,h3⟩:=app HY A2 ls2 j2 l2 eY hY pY dY gY sY ln wY g2Y tX mA hj2 hl2;refine⟨.inl ⟨rfl,_,Aa.of h1⟩,_,rfl,l2,_,_,rfl,rfl,h1,h2,?_⟩;rw[<-hW];exact⟨⟨_,rfl⟩,h3⟩
    ·have m:p0∉A2:=λm=>by
      obtain⟨j2,hj2⟩:=d4.mp m;have jl:=(cW.mp hj2).1;rw[CD tX.nd hj2 (v:=.ref (ls2[j2]'(by rw[g2.n];exact jl))) (by rw[cn,cX (by rw[g2.n];exact jl)];rfl)]at hz;cases hz
     obtain⟨ln3,w3',g3⟩:=TM ln wY g2Y lY nl h0 m (tX.no p0 m) w3;have hj2:(A2++[p0])[A2.length]?=some p0:=by rw[dC (cj _),fg];rfl
     have hl2:(ls2++[l'])[A2.length]?=some l':=by rw[<-g2.n,dC (cj _),fg];rfl
     have wx:∃φ,HY d2=some (.ext φ):=by obtain⟨_,y,_⟩:=wY;exact⟨_,y⟩
     obtain⟨φ,hφ⟩:=wx;obtain⟨qs,h1,h2,HW,hW,h3⟩:=app (AZ HY d2 u3) (A2++[p0]) (ls2++[l']) A2.length l' (eY.into hd2') (wY.lst hY u3) (wY.prv pY u3) (dY.updX wY nd2 u3) (wY.grl gY u3) (sY.upd' hφ) ln3 w3' g3 (tX.key m p0A) (cZ.mpr (.inl mA)) hj2 hl2;refine⟨.inl ⟨rfl,_,Aa.of h1⟩,_,rfl,l',_,_,rfl,rfl,h1,h2,?_⟩;rw[<-hW];exact⟨⟨_,rfl⟩,h3⟩
   ·refine Dh ?_;rintro _ hGo σ HZ ⟨⟨x3,rfl⟩,eX,hps,pp,dX,gX,sb,A2,B,aX,tX,mA⟩;ac_rfl;clear hGo;rw[cU,pn]at tX;refine⟨⟨_,_,rfl⟩,eX,dX,gX,A2,B,aX,tX.nd,tX.sub,λp hp=>?_,tX.no,λp q=>?_,λp=>dM (tX.len p) (by lia)⟩
    ·rw[eJ,ha]at hp;rcases cZ.mp hp with z|z
     ·exact tX.got p z
     ·rw[ce.mp z];exact mA
    ·rw[tX.on,du,eJ,ha,show (some a).toList=[a] from rfl,cZ,ce,or_false];constructor
     ·rintro (⟨h1,h2⟩|⟨h1,h2⟩)
      ·exact⟨.inl h1,h2⟩
      ·exact⟨.inr h1,by rw[h1];exact h2⟩
     ·rintro⟨h1|h1,h2⟩
      ·exact .inl ⟨h1,h2⟩
      ·exact .inr ⟨h1,by rw[h1]at h2;exact h2⟩
  ·rintro σ HX ⟨⟨x2,x3,rfl⟩,eX,dX,gX,A2,B,⟨ls2,ln,wX,gX2⟩,tX⟩;rw[CC (by rw[cU];exact gX.n)]at tX;exact hN _ _ ⟨⟨_,_,rfl⟩,u',ls2,A2,B,eX,dX,ln,wX,gX2,⟨tX.nd,λp=>⟨tX.sub p,λh=>tX.got p (by rw[List.take_length];exact h)⟩,λp q=>by rw[tX.on,List.take_length];simp,λp=>Nat.le_trans (tX.len p) (Nat.mul_le_mul_right 70000 lA)⟩⟩
 rintro _ hGo σ HX ⟨⟨x2,x3,rfl⟩,u',ls2,A2,B,eX,dX,ln,wX,gX,tX⟩;ac_rfl;ac_nf;exact q u' HX d2 ls2 A2 B eX dX hd2 ln wX gX tX
theorem P6:AJ ["nexts","ahead","here","come"] ["nexts"] (AH bh):=CB
theorem aH(T:B8 K mg t) :B2 P w K mg base 1 t.f_17 ["nexts"] (Pk):=by
 refine Am T.d_17.2 P6 λvs H Q E h=>?_;obtain⟨d,ls,A0,F,rfl,dr,gr,nd,cl,lA,lF,q⟩:=h;symm
 refine⟨_,(AD (AQ 1 P6 Ix)
  (AD (A6 PassesOwn.never rfl (Sz 0#6) (BF 2 P6) (AD (Ax (IW fm fH fu JG 0#8 (AA 1#9 (AA 11#5 AB))))
  (AF (A6 PassesOwn.never rfl (NI K (K2 8#9 0#6 1#9 (λ_ _=>rfl))) (BF 3 P6) (AF (Ax (LL K (IW fm fH fu JG 0#8 (AA 2#7 (AA 11#5 AB))) 4#9)))))))
  21#9)),?_⟩
 refine Ah λN hN=>?_;intro d2 hd2;refine hN _ _ ?_;clear hN N;have e0:=AG.new hd2 (.dK []);obtain⟨u0,hu0,nu0⟩:=dr.is;have nd2:d≠d2:=λe=>by rw[e,hd2]at hu0;cases hu0
 refine Bw (λσ HX=>(∃x2 x3,σ=[some 2#2,some 5#3,x2,x3])/\∃o A2 B,AG (AZ H d (.frz o (.dK (BB A0 1#7)))) HX/\VV H HX d2 A2 B/\LC A0 F A2 B) (λN hN=>?_) ?_
 ·have dr0:Rd (AZ H d2 (.dK [])) d (.dK (BB A0 1#7)):=by
   rcases dr with r|⟨o,r⟩
   ·exact .inl (e0 _ _ r)
   ·exact .inr ⟨o,e0 _ _ r⟩
  refine⟨_,rfl,d,_,rfl,dr0,λo=>?_⟩;obtain⟨U,hU⟩:∃U,U=HO.frz o (.dK (BB A0 1#7)):=⟨_,rfl⟩;rw[<-hU];have eF:=e0.bothI d U;have dF:AZ (AZ H d2 (.dK [])) d U d=some U:=AC;have dn:d∉ls:=gr.out λxs z=>by rw[hu0]at z;exact nu0 xs (Option.some.inj z)
  have gF:=(gr.same e0).keep dn U;have aF:VV H (AZ (AZ H d2 (.dK [])) d U) d2 [] (λ_=>[]):=⟨[],λl hl=>qG hl cu,by rw[AI 12#8];exact AC,FE.nil⟩;generalize AZ (AZ H d2 (.dK [])) d U=HF at eF dF gF aF⊢;have uU:∀{HX:Hp},AG 21#7 HX->HX d=some U:=λe=>e _ _ AC
  refine Qs (d:=d) (o:=o) (kvs:=BB A0 1#7) (λi σ HX=>(∃x2 x3,σ=[some 2#2,some 5#3,x2,x3])/\AG 21#7 HX/\FE HX ls A0 F/\∃A2 B,VV H HX d2 A2 B/\JZ A0 F i (λ_ _=>False) (i*9) A2 B) ⟨⟨none,none,rfl⟩,eF,gF,[],λ_=>[],aF,JZ.start⟩ (λi σ HX _ z=>by rw[<-hU];exact uU z.2.1) ?_ ?_
  ·intro i k v;refine Pu ?_;rintro _ hGo σ HX hk ⟨⟨x2,x3,rfl⟩,eX,gX,A2,B,aX,tX⟩;ac_rfl;clear hGo;obtain⟨a,ha,hv,rfl⟩:=VU hk;rw[cn]at hv;obtain⟨l,hl,rfl⟩:=dq.mp hv;have aA:a∈A0:=cw ha;have i5:i<=512:=by have:=(cW.mp ha).1;lia
   have lA2:∀{A2:qW} {B:Int->qW} {D:Int->Int->Prop} {n:Nat},JZ A0 F i D n A2 B->A2.length<=512:=λt=>dM (t.nd.length_le_of_subset t.sub) lA
   have Hn:∀{HX:Hp} {l:qR},AG 21#7 HX->HX l=none->H l=none:=λ{HX l} e z=>by have y:=e.free z;rw[AI λx=>by rw[x,AC]at y;cases y]at y;exact y
   have hd2':AZ H d U d2=none:=by rw[AI 12#8];exact hd2
   have frn:∀{l:qR},H l=none->AZ H d U l=none:=λ{l} h=>by rw[AI λz=>by rw[z,hu0]at h;cases h];exact h
   refine Bw (λσ HY=>(∃x3,σ=[some 2#2,some 5#3,some (.int a),x3])/\AG 21#7 HY/\FE HY ls A0 F/\∃A2 B,VV H HY d2 A2 B/\JZ A0 F i (λ_ _=>False) (i*9) A2 B/\a∈A2) (λN2 hN2=>?_) ?_
   ·obtain⟨ls2,ln,wX,g2⟩:=aX;have rl:(BB A2 3#1).length=A2.length:=ED (by rw[cU];exact g2.n);refine⟨_,rfl,.inr (.inr (.inl ⟨rfl,.inl ⟨_,wX⟩⟩)),_,rfl,by decide,λl' hl'=>?_⟩;have f1:=AG.new hl' (.lst []);have h0:=Hn eX hl';have nl:=g2.new hl';have lY:AZ HX l' (.lst []) l'=some (.lst []):=AC;have eY:=eX.trans f1;have gY:=gX.same f1;have wY:=f1 _ _ wX;have g2Y:=g2.same f1;generalize AZ HX l' (.lst [])=HY at lY eY gY wY g2Y⊢;refine⟨d2,_,Sum.inl a,.ref l',rfl,rfl,wY,by rw[rl];have:=lA2 tX;exact AW (by lia),λz hz=>hN2 _ _ ⟨⟨_,rfl⟩,eY,gY,A2,B,⟨ls2,ln,wY,g2Y⟩,tX,?_⟩,λhz=>hN2 _ _ ?_⟩
    ·by_cases m:a∈A2
     ·exact m
     ·rw[Cz m]at hz;cases hz
    ·have m:a∉A2:=λm=>by
      have y:=Gc (a:=a) (vs:=ls2.map 20#2) (by rw[cU];exact g2.n) tX.nd;rw[hz,qH m]at y;cases y
     have d2n:d2∉ls:=gY.out λxs z=>by rw[wY]at z;cases z
     exact⟨⟨_,rfl⟩,eY.into hd2',gY.keep d2n _,A2++[a],B,⟨_,VV.put ln wY g2Y lY nl h0 m (tX.no a m)⟩,tX.key m aA,cZ.mpr (.inr 10#3)⟩
   clear tX aX eX gX;rintro _ hGo σ HY ⟨⟨x3,rfl⟩,eX,gX,A2,B,aX,tX,mA⟩;ac_rfl;have hps:=gX.e i a l ha hl;have fa:=lF a aA;refine⟨_,rfl,_,rfl,d,.ref l,rfl,.inl ⟨_,Sum.inl a,.inr ⟨o,by rw[<-hU];exact uU eX⟩,rfl,?_⟩,l,rfl,⟨_,Aa.of hps⟩,?_⟩
   ·rw[Cd nd ha (by rw[cn,hl];rfl)]
   refine B3 (xs:=(F a).map 1#0) (λj σ HZ=>(∃x3,σ=[some 2#2,some 5#3,some (.int a),x3])/\AG 21#7 HZ/\FE HZ ls A0 F/\∃A2 B,VV H HZ d2 A2 B/\JZ A0 F i (λp q=>q=a/\p∈(F a).take j) (i*9+j) A2 B/\a∈A2) ⟨⟨_,rfl⟩,eX,gX,A2,B,aX,tX.inner a,mA⟩ (λj σ HZ _ z=>Aa.of (z.2.2.1.e i a l ha hl)) ?_ ?_
   ·clear tX aX eX gX mA hps;intro j x;refine Pu ?_;rintro _ hGo σ HZ hx ⟨⟨x3,rfl⟩,eX,gX,A2,B,⟨ls2,ln,wX,g2⟩,tX,mA⟩;ac_rfl;clear hGo;obtain⟨p0,hp0,rfl⟩:=CK hx;have p0A:p0∈A0:=cl a aA p0 (cw hp0);have j9:j<9:=by have:=(cW.mp hp0).1;lia
    have rl:(BB A2 3#1).length=A2.length:=ED (by rw[cU];exact g2.n)
    have app:∀(HQ:Hp) (A2:qW) (ls2:List qR) (j2:Nat) (l2:qR),AG 21#7 HQ->FE HQ ls A0 F->(∀l∈ls2,H l=none)->HQ d2=some (.dK (BB A2 3#1))->FE HQ ls2 A2 B->JZ A0 F i (λp q=>q=a/\p∈(F a).take j) (i*9+j) A2 B->a∈A2->A2[j2]?=some p0->ls2[j2]?=some l2 ->
      HQ l2=some (.lst ((B p0).map 1#0))/\((B p0).map 1#0).length<sizeLine/\∃HW,HW=AZ HQ l2 (.lst ((B p0).map 1#0++[V.int a]))/\AG 21#7 HW/\FE HW ls A0 F/\∃A2 B,VV H HW d2 A2 B/\JZ A0 F i (λp q=>q=a/\p∈(F a).take (j+1)) (i*9+(j+1)) A2 B/\a∈A2:=by
     intro HQ A2 ls2 j2 l2 e h4 ln w2 g2 t m hj2 hl2;have hq:=g2.e j2 p0 l2 hj2 hl2;have ml:=cw hl2;have h0:=ln l2 ml;have nl:l2∉ls:=gr.new h0;have lb:=t.len p0;have tp:=t.push hp0 (cw hj2);rw[iI]at tp;refine⟨hq,by rw[cU,sizeLine_eq];lia,_,rfl,?_⟩;rw[show (B p0).map 1#0++[V.int a]=(B p0++[a]).map 1#0 by rw[cq];rfl];refine⟨e.into (frn h0),h4.keep nl _,A2,_,⟨ls2,ln,?_,g2.push t.nd hj2 hl2⟩,tp,m⟩;rw[AI (Dk w2 hq λz=>by cases z)];exact w2
    refine⟨_,rfl,.inr (.inr (.inl ⟨rfl,.inl ⟨_,wX⟩⟩)),_,rfl,by decide,λl' hl'=>?_⟩;have f1:=AG.new hl' (.lst []);have h0:=Hn eX hl';have nl:=g2.new hl';have lY:AZ HZ l' (.lst []) l'=some (.lst []):=AC;have eY:=eX.trans f1;have gY:=gX.same f1;have wY:=f1 _ _ wX;have g2Y:=g2.same f1;generalize AZ HZ l' (.lst [])=HY at lY eY gY wY g2Y⊢;refine⟨d2,_,Sum.inl p0,.ref l',rfl,rfl,wY,by rw[rl];have:=lA2 tX;exact AW (by lia),λz hz=>?_,λhz=>?_⟩
    ·have m:p0∈A2:=by
      by_cases m:p0∈A2
      ·exact m
      ·rw[Cz m]at hz;cases hz
     obtain⟨j2,hj2⟩:=G7 m;obtain⟨l2,hl2⟩:=Md g2Y.n hj2;rw[Cd tX.nd hj2 (v:=.ref l2) (by rw[cn,hl2];rfl)]at hz;cases hz;obtain⟨h1,h2,HW,hW,h3⟩:=app HY A2 ls2 j2 l2 eY gY ln wY g2Y tX mA hj2 hl2;refine⟨.inl ⟨rfl,_,Aa.of h1⟩,_,rfl,l2,_,_,rfl,rfl,h1,h2,⟨_,rfl⟩,?_⟩;rw[<-hW];exact h3
    ·have m:p0∉A2:=λm=>by
      have y:=Gc (a:=p0) (vs:=ls2.map 20#2) (by rw[cU];exact g2.n) tX.nd;rw[hz,qH m]at y;cases y
     have d2n:d2∉ls:=gY.out λxs z=>by rw[wY]at z;cases z
     obtain⟨k1,k2,k3⟩:=VV.put ln wY g2Y lY nl h0 m (tX.no p0 m);obtain⟨h1,h2,HW,hW,h3⟩:=app _ (A2++[p0]) (ls2++[l']) A2.length l' (eY.into hd2') (gY.keep d2n _) k1 k2 k3 (tX.key m p0A) (cZ.mpr (.inl mA)) (by rw[dC (cj _),fg];rfl) (by rw[dC (by rw[g2.n];exact cj _),g2.n,fg];rfl);refine⟨.inl ⟨rfl,_,Aa.of h1⟩,_,rfl,l',_,_,rfl,rfl,h1,h2,⟨_,rfl⟩,?_⟩;rw[<-hW];exact h3
   ·refine Dh ?_;rintro _ hGo σ HZ ⟨⟨x3,rfl⟩,eX,gX,A2,B,aX,tX,mA⟩;ac_rfl;clear hGo;rw[cU]at tX;exact⟨⟨_,_,rfl⟩,eX,gX,A2,B,aX,tX.outer ha mA (by lia)⟩
  ·rintro σ HX ⟨⟨x2,x3,rfl⟩,eX,gX,A2,B,aX,tX⟩;rw[ED (by rw[cU];exact gr.n)]at tX;exact hN _ _ ⟨⟨_,_,rfl⟩,o,A2,B,by rw[<-hU];exact eX,aX,tX.done (by lia)⟩
 rintro _ hGo σ HX ⟨⟨x2,x3,rfl⟩,o,A2,B,eX,⟨ls2,ln,wX,g2⟩,tI⟩;ac_rfl;ac_nf;exact q o HX d2 ls2 A2 B eX hd2 ln wX g2 tI
theorem LK:AJ ["nexts","ends","ahead","left","found","steps","further","come"] ["nexts","ends"] (AH bj):=CB
theorem cD(T:B8 K mg t):B2 P w K mg base 2 t.f_6 ["nexts","ends"] (Tu):=by
 refine Am T.d_6.2 LK λvs H Q E h=>?_;obtain⟨d,e,ls,A0,F,E0,rfl,dr,gr,nd,cl,lA,lF,he,lE,q⟩:=h;symm
 refine⟨_,(AD (AQ 2 LK (AM hr (aH T) T.d_17.1 1#1))
  (AD (AQ 3 LK Ix)
  (AD (AQ 4 LK 0#8)
  (AD (AQ 5 LK AE)
  (AD (C4 PassesOwn.never (AR DU (As 21#1 rfl T.z_len dm 10#8) AE (AU _)) (AD (AQ 6 LK 11#5)
  (AD (A6 PassesOwn.never rfl (NI K 5#6) (BF 7 LK) (AF (BK (NJ (KH 8#9 (pv 7) 2#7)) (AD (O7 8#9 2#7 (pv 7) 8#8 rfl)
  (AF (Ax (IW fU gT gU FM 20#0 (AA (Sk 8#9 1#9 (pv 7) 11#5 ⟨rfl,rfl,rfl,rfl⟩) AB))))) Af)))
  (AD (AQ 4 LK 20#0)
  (AF (AQ 5 LK (AK A3 8#8 AE)))))))
  (AF (AO 2#7))))))),?_⟩
 nofun;refine⟨d,ls,A0,F,rfl,dr,gr,nd,cl,lA,lF,λo H1 d1 ls1 A1 B e1 hd1 hls1 w1 g1 ti=>hN _ _ ?_⟩;clear hN N;obtain⟨u0,hu0,nu0⟩:=dr.is;have he1:H1 e=some (.lst (E0.map 1#0)):=e1 _ _ (by rw[AI λz=>by rw[z,hu0]at he;exact nu0 _ (Option.some.inj he)];exact he)
 have fr1:∀{l:qR},H1 l=none->H l=none:=λ{l} h=>by have y:=e1.free h;rw[AI λx=>by rw[x,AC]at y;cases y]at y;exact y
 refine Ah λN hN=>?_;intro d2 hd2;refine hN _ _ ?_;clear hN N;have e2:=AG.new hd2 (.dK (Em [] λ_=>0));nofun;refine hN _ _ ?_;clear hN N;nofun;refine hN _ _ ?_;clear hN N;refine Bw (λσ HX=>(∃x4 x5 x6 x7,σ=[some 2#2,some 16#9,some (.ref d1),some 5#3,x4,x5,x6,x7])/\AG H1 HX/\∃M f,HX d2=some (.dK (Em M f))/\LD A0 F E0 M f) (λN hN=>?_) ?_
 ·refine⟨λm σ HX=>∃(p:qR) (n:Nat) (L M:qW) (f:Int->Nat),(∃x6 x7,σ=[some 2#2,some 16#9,some (.ref d1),some 5#3,some 1#5,some (.int ((n:Nat):Int)),x6,x7])/\AG H1 HX/\HX d2=some (.dK (Em M f))/\HX p=some (.lst (L.map 1#0))/\LF A0 F E0 M f n L []/\m=2*(A0.length+E0.length-14#6)+(if L=[] then 0 else 1),⟨_,e,0,E0,[],λ_=>0,⟨none,none,rfl⟩,e2,AC,e2 _ _ he1,LF.start,rfl⟩,?_⟩;refine Xi ?_;rintro m _ hGo σ HX ⟨p,n,L,M,f,⟨x6,x7,rfl⟩,eX,hX,hpX,fw,rfl⟩;ac_rfl;refine⟨_,rfl,p,_,rfl,.inl (Aa.of hpX),_,_,rfl,rfl,_,rfl,?_⟩;rw[cU]
  by_cases z:L=[]
  ·subst z;rw[qE (by decide)];exact hN _ _ ⟨⟨_,_,_,_,rfl⟩,eX,M,f,hX,fw.done⟩
  dsimp only;rw[qF (qH (by have:=iT.mpr z;lia)),qE z];refine⟨λσ' H'=>∃m',m'<2*(A0.length+E0.length-14#6)+1/\∃(p:qR) (n:Nat) (L M:qW) (f:Int->Nat),(∃x6 x7,σ'=[some 2#2,some 16#9,some (.ref d1),some 5#3,some 1#5,some (.int ((n:Nat):Int)),x6,x7])/\AG H1 H'/\H' d2=some (.dK (Em M f))/\H' p=some (.lst (L.map 1#0))/\LF A0 F E0 M f n L []/\m'=2*(A0.length+E0.length-14#6)+(if L=[] then 0 else 1),λ_ _ h=>h,?_⟩;refine Ah λN2 hN2=>?_;ac_nf;refine⟨by decide,λr hr'=>hN2 _ _ ?_⟩;clear hN2 N2;have e3:=AG.new hr' (.lst []);have rp:p≠r:=λz=>by rw[<-z,hpX]at hr';cases hr'
  have rd2:d2≠r:=λz=>by rw[<-z,hX]at hr';cases hr'
  have rH:H1 r=none:=eX.free hr';refine Bw (λσ HY=>(∃x7,σ=[some 2#2,some 16#9,some (.ref d1),some 5#3,some 1#5,some (.int ((n:Nat):Int)),some 2#4,x7])/\bU H1 HY d2 r A0 F E0 M n []) (λN2 hN2=>?_) ?_
  ·refine⟨_,rfl,p,rfl,⟨_,Aa.of (e3 _ _ hpX)⟩,?_⟩;refine B3 (xs:=L.map 1#0) (λi σ HY=>(∃x7,σ=[some 2#2,some 16#9,some (.ref d1),some 5#3,some 1#5,some (.int ((n:Nat):Int)),some 2#4,x7])/\HY p=some (.lst (L.map 1#0))/\bU H1 HY d2 r A0 F E0 M n (L.drop i)) ⟨⟨_,rfl⟩,e3 _ _ hpX,M,f,[],eX.trans e3,e3 _ _ hX,AC,dz _,.inl rfl,cj _,fw⟩ (λi σ HY _ z=>Aa.of z.2.1) ?_ ?_
   ·refine Hk ?_;rintro _ _ i x _ hGo σ HY hx ⟨⟨x7,rfl⟩,hpY,M1,f1,R,eY,hY,hrY,lR,nR,mM,fw1⟩;ac_rfl;obtain⟨x,hxi,rfl⟩:=CK hx;have hdr:L.drop i=x::L.drop (i+1):=by have:=(cW.mp hxi);rw[fB this.1,this.2]
    rw[hdr]at fw1;dsimp only[Fg];refine⟨_,rfl,_,rfl,d2,_,rfl,Fd.k (k:=Sum.inl x) hY,_,rfl,?_⟩;rw[Gc (by rw[cU]) fw1.nd]
    by_cases m:x∈M1
    ·rw[qH m];exact Rg ⟨⟨_,rfl⟩,hpY,M1,f1,R,eY,hY,hrY,lR,nR,mM,fw1.skip m⟩
    rw[qI m];refine W6 ?_;have few:=fw1.few;refine Ah λN3 hN3=>?_;refine⟨_,rfl,_,rfl,_,rfl,d2,_,rfl,Qe.k (k:=Sum.inl x) hY (by rw[Tr,sizeLine_eq];lia),hN3 _ _ ?_⟩;clear hN3 N3;rw[Ts m];have fw2:=fw1.take m (B:=B) λq=>ti.on x q
    have few2:=fw2.few;have pd2:p≠d2:=Dk hpY hY λz=>by cases z
    have eQ:AG H1 (AZ HY d2 (.dK (Em (M1++[x]) (λp=>if p∈M1 then f1 p else n)))):=eY.into hd2;have dQ:AZ HY d2 (.dK (Em (M1++[x]) (λp=>if p∈M1 then f1 p else n))) d2=some (.dK (Em (M1++[x]) (λp=>if p∈M1 then f1 p else n))):=AC;have pQ:AZ HY d2 (.dK (Em (M1++[x]) (λp=>if p∈M1 then f1 p else n))) p=some (.lst (L.map 1#0)):=by rw[AI pd2];exact hpY
    have rQ:AZ HY d2 (.dK (Em (M1++[x]) (λp=>if p∈M1 then f1 p else n))) r=some (.lst (R.map 1#0)):=by rw[AI (Ne.symm rd2)];exact hrY
    generalize AZ HY d2 (.dK (Em (M1++[x]) (λp=>if p∈M1 then f1 p else n)))=HQ at eQ dQ pQ rQ⊢;refine⟨_,rfl,.inl ⟨rfl,_,Aa.of rQ⟩,_,rfl,d1,rfl,.inl ⟨_,.inl (eQ _ _ w1)⟩,_,rfl,by decide,λz hz=>?_⟩;have f4:=AG.new hz (.lst []);have zr:AZ HQ z (.lst []) z=some (.lst ([].map 1#0)):=AC;have eZ:=eQ.trans f4;have rl:(ls1.map 20#2).length=A1.length:=by rw[cU];exact g1.n
    have fin:∀(l2:qR),AZ HQ z (.lst []) l2=some (.lst ((B x).map 1#0))->∃(l b:qR) (xs zs:List V),V.ref r=.ref l/\[V.ref l2]=[.ref b]/\AZ HQ z (.lst []) l=some 3#6/\AZ HQ z (.lst []) b=some (.lst zs)/\0#7+zs.length<=sizeLine/\((∃x7,[some (V.ref d),some 16#9,some (.ref d1),some 5#3,some 1#5,some (.int ((n:Nat):Int)),some 2#4,some (.int x)]=[some 2#2,some 16#9,some (.ref d1),some 5#3,some 1#5,some (.int ((n:Nat):Int)),some 2#4,x7])/\AZ (AZ HQ z (.lst [])) l (.lst (xs++zs)) p=some (.lst (L.map 1#0))/\bU H1 (AZ (AZ HQ z (.lst [])) l (.lst (xs++zs))) d2 r A0 F E0 M n (L.drop (i+1))):=by
     intro l2 h2;have lb:=ti.len x;refine⟨r,l2,_,_,rfl,rfl,f4 _ _ rQ,h2,by rw[cU,cU,sizeLine_eq];lia,⟨_,rfl⟩,by rw[AI rp];exact f4 _ _ pQ,M1++[x],_,R++B x,eZ.into rH,by rw[AI rd2];exact f4 _ _ dQ,by rw[AC,cq],?_,.inr ?_,?_,fw2⟩
     ·rw[cg,cg,dB];lia
     ·rw[cg,dB];lia
     ·rw[cg];lia
    by_cases mA:x∈A1
    ·obtain⟨j,hj⟩:=G7 mA;obtain⟨l2,hl2⟩:=Md g1.n hj;refine⟨some (.ref l2),.inl ⟨_,Sum.inl x,.inl (eZ _ _ w1),rfl,?_⟩,?_⟩
     ·rw[Cd ti.nd hj (by rw[cn,hl2];rfl)]
     ·exact fin l2 (eZ _ _ (g1.e j x l2 hj hl2))
    ·refine⟨none,.inl ⟨_,Sum.inl x,.inl (eZ _ _ w1),rfl,?_⟩,?_⟩
     ·rw[Cz mA]
     ·refine fin z ?_;have bn:B x=[]:=List.eq_nil_iff_forall_not_mem.mpr λy hy=>by obtain⟨h1,h2⟩:=(ti.on x y).mp hy;exact mA ((ti.all x).mpr (cl y h1 x h2))
      rw[bn];exact zr
   ·refine Dh ?_;rintro _ hGo σ HY ⟨⟨x7,rfl⟩,_,fv⟩;ac_rfl;clear hGo;rw[cU,List.drop_length]at fv;exact hN2 _ _ ⟨⟨_,rfl⟩,fv⟩
  rintro _ hGo σ HY ⟨⟨x7,rfl⟩,M1,f1,R,eY,hY,hrY,lR,nR,mM,fw1⟩;ac_rfl;have few:=fw1.few;refine Ah λN3 hN3=>?_;ac_nf;refine hN3 _ _ ?_;clear hN3 N3;refine⟨_,rfl,_,_,rfl,rfl,_,?_,r,n+1,R,M1,f1,⟨_,_,rfl⟩,eY,hY,hrY,fw1.round,rfl⟩
  by_cases z:R=[]
  ·rw[qF z];lia
  ·rw[qE z];have:=nR.resolve_left z;lia
 rintro _ hGo σ HX ⟨⟨x4,x5,x6,x7,rfl⟩,eX,M,f,hX,fw⟩;ac_rfl;ac_nf;exact q o HX d2 M f (e1.trans eX) (fr1 hd2) hX fw
theorem Je:AJ ["ahead","most","free","steps","here"] ["ahead"] (AH YJ):=CB
theorem WV(T:B8 K mg t) :B2 P w K mg base 1 t.f_23 ["ahead"] (TN P w K):=by
 refine Am T.d_23.2 Je λvs H Q E h=>?_;obtain⟨d,u,ls,A0,B,rfl,dr,gr,nd,cl,lA,lB,q⟩:=h;symm
 refine⟨_,(AD (IR (i:=1) Je.nd rfl 10#5 (JF (P:=P) (w:=w) (K:=K) rfl rfl rfl))
  (AD (Oq (iy:=2) (fv:=[(0,"ahead")]) (cl:=[("ahead",_)]) rfl Je.nd rfl 3#8 (FX (P:=P) (w:=w) (K:=K) rfl rfl rfl 0#6) (by with_unfolding_all rfl) (by with_unfolding_all rfl) (by decide +kernel) rfl (by decide +kernel) rfl ⟨(by with_unfolding_all rfl),trivial⟩ (by with_unfolding_all rfl) ⟨⟨rfl,rfl,(by with_unfolding_all rfl),rfl⟩,trivial⟩ (by decide) (λ_ _ _ _=>(Fy (AR Cp (As (Nr (K:=K) rfl) rfl T.z_len dm (AA (by exact Dc (P:=P) (w:=w) (K:=K) rfl rfl rfl 8#9 0#8 0#6 (λ_ _=>rfl)) AB)) AE (AU _)))) (λ_ _ _ _=>0#6))
  (AD (AQ 3 Je AE)
  (AD (C4 PassesOwn.never (AR DU (As 21#1 rfl T.z_len dm 4#9) AE (AU _)) (AD (A6 PassesOwn.never rfl (NI K 1#9) (BF 4 Je) (AF (ML (P:=P) (w:=w) (K:=K) rfl rfl rfl 8#9 0#8 5#6 2#7 rfl)))
  (AD (AQ 3 Je (AK A3 2#7 AE))
  (AF (Oq (iy:=2) (fv:=[(1,"most"),(0,"ahead")]) (cl:=[("most",_),("ahead",_)]) rfl Je.nd rfl 3#8 (FX (P:=P) (w:=w) (K:=K) rfl rfl rfl 0#6) (by with_unfolding_all rfl) (by with_unfolding_all rfl) (by decide +kernel) rfl (by decide +kernel) rfl ⟨(by with_unfolding_all rfl),⟨(by with_unfolding_all rfl),trivial⟩⟩ (by with_unfolding_all rfl) ⟨⟨rfl,rfl,(by with_unfolding_all rfl),rfl⟩,⟨⟨rfl,rfl,(by with_unfolding_all rfl),rfl⟩,trivial⟩⟩ (by decide) (λ_ _ _ _=>(Fy (PW.pt (Dt (NJ (N7 (P:=P) (w:=w) (K:=K) rfl rfl rfl 8#9 0#6 0#8)) (DH (DT (As (OB (K:=K) rfl rfl) rfl T.z_all PyProof.Rows.boot_all (AA (C7 [(1,"most")] [("most",_)] (TR (K:=K) rfl (by exact Dc (P:=P) (w:=w) (K:=K) rfl rfl rfl 8#9 1#9 0#6 (λ_ _=>rfl))) (λ_ _ _ _=>Cs) (λ_ _ _ _=>(Wn (VF (P:=P) (w:=w) (K:=K) rfl rfl rfl 8#9 0#6 0#8)))) AB)))))))) (λ_ _ _ _=>0#6))))))
  21#9)))),?_⟩
 nofun;intro d2 u2 hd2 dw;refine hN _ _ ?_;clear hN N
 have nd2:d≠d2:=λe=>by obtain⟨φ,h1,_⟩:=dr.isX;rw[e,hd2]at h1;cases h1
 have e0:=AG.new hd2 u2;generalize AZ H d2 u2=H0 at dw e0⊢
 have Hn:∀{HX:Hp} {l:qR} {u':HO},AG 4#8 HX->HX l=none->H l=none:=λ{HX l u'} e z=>by have y:=e.free z;rw[AI λx=>by rw[x,AC]at y;cases y]at y;exact y
 refine Bw (λσ HX=>∃D,σ=[some 2#2,some 5#3,some 2#1,none,none]/\av P w K H d d2 ls A0 B D [] (λ_=>0) (A0.filter λp=>decide (B p=[])) HX) (λN hN=>?_) ?_
 ·refine⟨_,rfl,d,u,_,rfl,dr.same e0,λu' dr' D hD=>?_⟩;have eF:=AG.both e0 d u';have gF:=(dr.same e0).grl (gr.same e0) u';have wF:DW P w K (AZ H0 d u') d2 (Ar [] []):=by obtain⟨bs,h1,h3,h4⟩:=dw;have hb:bs=[]:=List.map_eq_nil_iff.mp h3;subst hb;exact⟨[],by rw[AI 12#8];exact h1,rfl,λp hp=>qG hp cu⟩
  generalize AZ H0 d u'=HF at dr' eF gF wF hD⊢;refine F6 (P:=P) (w:=w) (K:=K) (λi j5 Hx=>∃ps:List qR,j5=ps.map 20#2/\3#0<=i/\AG HF Hx/\Hx D=some 5#0/\C8 K Hx ps ((A0.take i).filter λp=>decide (B p=[]))) ⟨[],rfl,cj _,AG.new hD _,AC,.nil⟩ (λi j5 Hx _ z=>by obtain⟨_,_,_,e,_⟩:=z;exact dr'.same e) ?_ ?_
  ·intro i b k v;refine a6 ?_;rintro _ hGo j5 Hx hk sb ⟨ps,rfl,lp,ex,hDx,hp⟩;ac_rfl;clear hGo;obtain⟨a,l,ha,hl,rfl,rfl⟩:=K7 hk;have i100:i<=100:=by have:=(cW.mp ha).1;lia
   obtain⟨qs,hq,pq⟩:=(gF.same ex).e i a l ha hl;have lq:=Paired.length pq;refine⟨_,rfl,_,rfl,d,b,u',_,Bf a,.ref l,rfl,rfl,dr'.same ex,sb,CD nd ha (by rw[cn,hl];rfl),l,_,rfl,.inl (Aa.of hq),rfl,_,rfl,?_⟩;dsimp only;rw[KO ha,cU,lq]
   by_cases z:B a=[]
   ·rw[qF (by rw[z];rfl),qF (qH z)];refine⟨_,rfl,hDx,by rw[cU];exact AW (by lia),ps++[b],by rw[cq];rfl,by rw[cg,dB];lia,ex.into hD,AC,?_⟩;exact Paired.app (C8.upd hDx hp) (.cons (Ai.updL hDx sb) .nil)
   ·have nz:(B a).length≠0:=λy=>z (gf.mp y)
    rw[qE (λy=>nz (by have:=qN y;injection this with this;lia)),qE (λy=>z (qN y)),dU];exact⟨ps,rfl,by lia,ex,hDx,hp⟩
  ·rintro j5 H2 ⟨ps,rfl,lp,ex,hDx,hp⟩;rw[CC (by rw[cU];exact gF.n),du]at hp;exact hN _ _ ⟨D,rfl,u',ps,eF.trans ex,dr'.same ex,gF.same ex,Hn eF hD,hDx,hp,wF.same ex⟩
 rintro _ hGo σ HX ⟨D,rfl,mv⟩;ac_rfl;refine Ah λN hN=>?_;refine hN _ _ ?_;clear hN N dw e0;refine Bw (λσ HX=>∃D M f n x4,σ=[some 2#2,some 5#3,some 2#1,some (.int (n:Nat)),x4]/\av P w K H d d2 ls A0 B D M f [] HX/\TU A0 B M f [] n) (λN hN=>?_) ?_
 ·refine⟨λm σ HX=>∃D M f FL n x4,m=101-n/\σ=[some 2#2,some 5#3,some 2#1,some (.int (n:Nat)),x4]/\av P w K H d d2 ls A0 B D M f FL HX/\TU A0 B M f FL n,⟨_,D,[],_,_,0,none,rfl,rfl,mv,TV nd _⟩,?_⟩;clear mv HX D;intro m;refine Dh ?_;rintro _ hGo σ HX ⟨D,M,f,FL,n,x4,rfl,rfl,⟨u',ps,eX,dX,gX,hD0,hD,pX,wX⟩,mp⟩;ac_rfl;clear hGo;have lp:=Paired.length pX;refine⟨_,rfl,D,_,rfl,.inl (Aa.of hD),_,_,rfl,rfl,_,rfl,?_⟩;dsimp only;rw[cU,lp];have few:=mp.few;have nle:=mp.le
  by_cases z:FL=[]
  ·subst z;rw[qE (λy=>qG (qN y) (by decide))];exact hN _ _ ⟨D,M,f,n,x4,rfl,⟨u',ps,eX,dX,gX,hD0,hD,pX,wX⟩,mp⟩
  have fl:0<FL.length:=iT.mpr z;rw[qF (qH (by lia))];refine⟨λσ HX=>∃D M' f' FL' x4,σ=[some 2#2,some 5#3,some 2#1,some (.int ((n+1:Nat):Int)),x4]/\av P w K H d d2 ls A0 B D M' f' FL' HX/\TU A0 B M' f' FL' (n+1),by rintro σ' H' ⟨D,M',f',FL',x4,h1,h2,h3⟩;exact⟨101-(n+1),by lia,D,M',f',FL',n+1,x4,rfl,h1,h2,h3⟩,?_⟩;have hd2':∀u',AZ H d u' d2=none:=λu'=>by rw[AI 12#8];exact hd2
  refine cP (λσ HZ=>(∃x4,σ=[some 2#2,some 5#3,some 2#1,some (.int (n:Nat)),x4])/\AG 4#8 HZ/\DR P w K HZ d u' 14#1/\EI K HZ ls A0 B/\DW P w K HZ d2 (Ar (M++FL) ((M++FL).map λp=>V.int (XW M f n p:Int)))) (λN hN=>?_) ?_
  ·refine⟨_,rfl,D,rfl,⟨_,Aa.of hD⟩,?_⟩;refine B3 (xs:=ps.map 20#2) (λj σ HZ=>(∃x4,σ=[some 2#2,some 5#3,some 2#1,some (.int (n:Nat)),x4])/\AG 4#8 HZ/\DR P w K HZ d u' 14#1/\EI K HZ ls A0 B/\HZ D=some 7#1/\C8 K HZ ps FL/\DW P w K HZ d2 (Ar (M++FL.take j) ((M++FL.take j).map λp=>V.int (XW M f n p:Int)))) ⟨⟨_,rfl⟩,eX,dX,gX,hD,pX,?_⟩ (λj σ HZ _ z=>Aa.of z.2.2.2.2.1) ?_ ?_
   ·rw[List.take_zero,dU,dI (g:=λp=>V.int (f p:Int)) λp hp=>by rw[Ea hp]];exact wX
   ·intro j x;refine Pu ?_;rintro _ hGo σ HZ hx ⟨⟨x4,rfl⟩,eZ,dZ,gZ,hDZ,pZ,wZ⟩;ac_rfl;clear hGo;obtain⟨c,hci,rfl⟩:∃c,ps[j]?=some c/\x=V.ref c:=by rw[cn]at hx;obtain⟨c,h1,h2⟩:=dq.mp hx;exact⟨c,h1,h2.symm⟩
    obtain⟨p0,hp0,sc⟩:=Bc pZ hci;have pn:p0∉M:=((mp.on p0).mp (cw hp0)).2.1;have nin:p0∉M++FL.take j:=λy=>(cZ.mp y).elim pn (GW mp.ndF hp0)
    have lr:(Ar (M++FL.take j) ((M++FL.take j).map λp=>V.int (XW M f n p:Int))).length<=100:=by rw[CC (by rw[cU]),cg,dN];lia
    refine⟨_,rfl,_,rfl,_,rfl,d2,c,_,Bf p0,rfl,rfl,wZ,sc,AW (by lia),λu3 w3=>⟨⟨_,rfl⟩,eZ.into (hd2' u'),dZ.updX wZ nd2 u3,wZ.grl gZ u3,wZ.lst hDZ u3,wZ.prv pZ u3,?_⟩⟩;rw[JN (by rw[cU]) nin]at w3;rw[eJ,hp0,show (some p0).toList=[p0] from rfl,<-de,cq (l₂:=[p0]),List.map_singleton,GX pn];exact w3
   ·rintro σ HZ ⟨⟨x4,rfl⟩,eZ,dZ,gZ,hDZ,pZ,wZ⟩;rw[cU,lp,du]at wZ;exact hN _ _ ⟨⟨_,rfl⟩,eZ,dZ,gZ,wZ⟩
  clear eX dX gX hD pX wX;have mq:=mp.step nd z;have lM2:(M++FL).length<=100:=by rw[cg];lia
  obtain⟨M2,hM2⟩:∃M2,M2=M++FL:=⟨_,rfl⟩;rw[<-hM2]at mq lM2⊢;generalize XW M f n=f2 at mq⊢;refine Dh ?_;rintro _ hGo σ HZ ⟨⟨y4,rfl⟩,eZ,dZ,gZ,wZ⟩;ac_rfl;clear hGo;refine Ah λN hN=>⟨_,rfl,_,_,rfl,rfl,hN _ _ ?_⟩
  clear hN N;refine⟨_,rfl,d,u',_,rfl,dZ,λu2 dr2 D2 hD2=>?_⟩;have eG:=AG.both eZ d u2;rw[EJ]at eG;have gG:=dZ.grl gZ u2
  have wG:DW P w K (AZ HZ d u2) d2 (Ar M2 (M2.map λp=>V.int (f2 p:Int))):=by obtain⟨bs,h1,h3,h4⟩:=wZ;exact⟨bs,by rw[AI 12#8];exact h1,h3,λp hp=>dZ.sqt (h4 p hp) u2⟩
  generalize AZ HZ d u2=HG at dr2 eG gG wG hD2⊢;refine F6 (P:=P) (w:=w) (K:=K) (λi j5 Hx=>∃ps2:List qR,j5=ps2.map 20#2/\ps2.length<=i/\AG HG Hx/\Hx D2=some 5#0/\C8 K Hx ps2 ((A0.take i).filter λp=>decide (p∉M2)&&decide (∀q∈B p,q∈M2))) ⟨[],rfl,cj _,AG.new hD2 _,AC,.nil⟩ (λi j5 Hx _ z=>by obtain⟨_,_,_,e,_⟩:=z;exact dr2.same e) ?_ ?_
  ·intro i b k v;refine a6 ?_;rintro _ hGo j5 Hx hk sb ⟨ps2,rfl,l2,ex,hDx,hp⟩;ac_rfl;clear hGo;obtain⟨a,l,ha,hl,rfl,rfl⟩:=K7 hk;have i100:i<=100:=by have:=(cW.mp ha).1;lia
   obtain⟨qs,hq,pq⟩:=(gG.same ex).e i a l ha hl;have lq:=Paired.length pq;have la:=lB a (cw ha);obtain⟨u5,r5⟩:=(wG.same ex).r;refine⟨_,rfl,_,rfl,d2,b,u5,_,Bf a,rfl,rfl,r5,sb,_,rfl,?_⟩;dsimp only;rw[JQ,KO ha]
   by_cases m:a∈M2
   ·rw[qH m,Bool.not_true];refine Rg (Rg ?_);rw[qE (by rw[qI (λy=>y m)];exact c7),dU];exact⟨ps2,rfl,by lia,ex,hDx,hp⟩
   rw[qI m,Bool.not_false];refine W6 ?_;refine⟨_,rfl,_,rfl,d,b,u2,_,Bf a,.ref l,rfl,rfl,dr2.same ex,sb,CD nd ha (by rw[cn,hl];rfl),l,rfl,⟨_,Aa.of hq⟩,λD3 hD3=>?_⟩;refine D5 (xs:=qs.map 20#2) (λj j5 Hy=>j5=((B a).take j).map (λp=>V.bl (decide (p∈M2)))/\AG Hx Hy/\Hy D3=some 5#0) ⟨rfl,AG.new hD3 _,AC⟩ (λj j5 Hy _ z=>Aa.of (z.2.1 _ _ hq)) ?_ ?_
   ·refine Jc ?_;rintro j x _ hGo j5 Hy hx ⟨rfl,ey,h3⟩;ac_rfl;obtain⟨c,hci,rfl⟩:∃c,qs[j]?=some c/\x=V.ref c:=by rw[cn]at hx;obtain⟨c,h1,h2⟩:=dq.mp hx;exact⟨c,h1,h2.symm⟩
    obtain⟨p0,hp0,sc⟩:=Bc pq hci;dsimp only[SE];rw[qF rfl];refine⟨_,rfl,_,rfl,d2,c,u5,_,Bf p0,rfl,rfl,r5.same ey,Ai.same' ey sc,h3,?_,?_,ey.into hD3,AC⟩
    ·rw[cU,dN,sizeLine_eq];lia
    ·rw[JQ,eJ,hp0,cq];rfl
   ·refine Dh ?_;rintro _ hGo j5 Hy ⟨rfl,ey,h3⟩;ac_rfl;clear hGo;rw[cU,lq,du]at h3;refine⟨D3,(B a).map λp=>decide (p∈M2),rfl,Aa.of (by rw[h3,fS];rfl),_,rfl,?_⟩;dsimp only;have ev:(((B a).map λp=>decide (p∈M2)).all id=true)↔∀q∈B a,q∈M2:=by simp
    by_cases all:∀q∈B a,q∈M2
    ·rw[qF (ev.mpr all),qF (by rw[qH m,qH all];rfl)];have hD':=ey _ _ hDx;refine⟨_,rfl,hD',by rw[cU];exact AW (by lia),ps2++[b],by rw[cq];rfl,by rw[cg,dB];lia,(ex.trans ey).into hD2,AC,?_⟩;exact Paired.app (C8.upd hD' (C8.same ey hp)) (.cons (Ai.updL hD' (Ai.same' ey sb)) .nil)
    ·rw[qE (λy=>all (ev.mp y)),qE (by rw[qI all,Bool.and_false];exact c7),dU];exact⟨ps2,rfl,by lia,ex.trans ey,ey _ _ hDx,C8.same ey hp⟩
  ·refine Dh ?_;rintro _ hGo j5 H2 ⟨ps2,rfl,l2,ex,hDx,hp⟩;ac_rfl;clear hGo;rw[CC (by rw[cU];exact gG.n),du]at hp;exact⟨D2,M2,f2,_,_,rfl,⟨u2,ps2,eG.trans ex,dr2.same ex,gG.same ex,Hn eG hD2,hDx,hp,wG.same ex⟩,mq⟩
 rintro _ hGo σ HX ⟨D,M,f,n,x4,rfl,⟨u',ps,eX,dX,gX,hD0,hD,pX,wX⟩,mp⟩;ac_rfl;ac_nf;exact q u' HX d2 M f eX dX hd2 wX mp.done
theorem aI:AJ ["node","other"] ["node","other"] (AH YK):=CB
theorem WW(T:B8 K mg t) :B2 P w K mg base 1 t.f_49 ["node","other"] (MQ K):=by
 refine Am T.d_49.2 aI λvs H Q E h=>?_;obtain⟨a,b,rfl,q⟩:=h;symm
 refine⟨_,(AD (BK (AR Cp 0#6 0#8 (AU _)) (AF (AO 13#7)) Af)
  (AF (AO (DA 15#2)))),?_⟩
 ac_nf
 by_cases e:a=b
 ·rw[qF (by rw[e])];refine q _ H (AG.refl _) ?_;subst e;rw[D8];exact GS T.q_EVEN H
 ·rw[qE (by lia)];refine⟨by decide,λp hp=>q p _ (AG.new hp _) (Ai.of ?_)⟩;unfold F7;rw[qE e];exact AC
theorem UH:AJ ["framed","pairs","node"] ["framed"] (AH YL):=CB
theorem WX(T:B8 K mg t):B2 P w K mg base 2 t.f_34 ["framed"] (TH K):=by
 refine Am T.d_34.2 UH λvs H Q E h=>?_;obtain⟨r,g,lo,dl,m,rfl,ok,sm,q⟩:=h;symm
 refine⟨_,(AD (AQ 1 UH (A7 (AA 13#7 AB)))
  (AD (A6 PassesOwn.never rfl (Aj rfl T.z_range (AA (AM hr (Eh T) T.d_68.1 1#1) AB)) (BF 2 UH) (AF (Ax (IW fU gT gU FM 0#8 (AA (C7 [(2,"node")] [("node",_)] (Aj rfl T.z_range (AA (AM hr (Eh T) T.d_68.1 1#1) AB)) (λ_ _ _ _=>(Fy (AR HJ 0#6 0#8 (AU _)))) (λ_ _ _ _=>(DA (AA 0#8 1#1)))) AB)))))
  21#9)),?_⟩
 have hd:=Ao ok.g2 ok.len ok.m1;have gp:=RW.Ad ok.g2 (m-1);obtain⟨h,hh⟩:∃h:Nat,h=0#0/0#2:=⟨_,rfl⟩;rw[<-hh]at q hd;have h9:h<=9:=by lia
 nofun;refine⟨by decide,λD hD=>hN _ _ ?_⟩;clear hN N;refine Bw (λσ HX=>(∃x2,σ=[some 2#4,some 2#1,x2])/\AG H HX/\∃ps:List qR,HX D=some 7#1/\C8 K HX ps (BO h)) (λN hN=>?_) ?_
 ·have e0:=AG.new hD (.lst [V.ref t.k_EVEN]);refine⟨_,rfl,r,g,lo,dl,m,rfl,ok.same e0,?_⟩;rw[<-hh];refine⟨_,rfl,by lia,by lia,?_⟩;rw[cp];refine BN (n:=h) (λi σ HX=>(∃x2,σ=[some 2#4,some 2#1,x2])/\AG H HX/\∃ps:List qR,HX D=some 7#1/\C8 K HX ps ((0,0)::(List.range i).flatMap (OA h))) ⟨⟨none,rfl⟩,e0,[t.k_EVEN],AC,.cons (GS T.q_EVEN _) .nil⟩ ?_ λσ HX z=>hN _ _ z
  refine Ds ?_;rintro _ _ i _ hGo σ HX hi ⟨⟨x2,rfl⟩,eX,ps,hX,hp⟩;ac_rfl;have lp:=Paired.length hp
  have ll:3#0<=100:=by have a:=GV h i;have b:=f6 (show i<=9 by lia) h9;rw[lp,d5];lia
  have okX:=ok.same eX;refine⟨_,rfl,.inl ⟨rfl,_,Aa.of hX⟩,?_⟩;refine⟨_,rfl,r,g,lo,dl,m,rfl,okX,?_⟩;rw[<-hh];refine⟨_,rfl,by lia,by lia,λD2 hD2=>?_⟩;rw[cp];refine Bb (n:=h) (λj j5 Hx=>∃ps2:List qR,j5=ps2.map 20#2/\ps2.length<=j/\AG HX Hx/\Hx D2=some 5#0/\C8 K Hx ps2 (((List.range j).filter λo=>decide (o≠i)).map λo=>(i,o))) ⟨[],rfl,cj _,AG.new hD2 _,AC,.nil⟩ ?_ ?_
  ·refine Dg ?_;rintro j _ hGo j5 Hx hj ⟨ps2,rfl,l2,ex,h2,hp2⟩;ac_rfl;ac_nf;rw[d8,fG]
   by_cases e:j=i
   ·rw[qE (by lia),show ([j].filter λo=>decide (o≠i))=[] by subst e;simp,List.append_nil];exact⟨ps2,rfl,by lia,ex,h2,hp2⟩
   ·rw[qF (by lia),show ([j].filter λo=>decide (o≠i))=[j] by simp[e],List.map_append];refine⟨by decide,λp hp=>?_⟩;have f1:=AG.new hp (.tup [V.int (0+(i:Int)),V.int (0+(j:Int))]);have hl:=f1 _ _ h2;refine⟨hl,by rw[cU];exact AW (by lia),ps2++[p],by rw[cq];rfl,by rw[cg,dB];lia,(ex.trans f1).into hD2,AC,Paired.app (C8.upd hl (C8.same f1 hp2)) (.cons (Ai.updL hl (Ai.of ?_)) .nil)⟩;rw[AC,dO,dO];rfl
  ·refine Dh ?_;rintro _ hGo j5 H2 ⟨ps2,rfl,l2,ex,h2,hp2⟩;ac_rfl;clear hGo;dsimp only[Kl];refine⟨D,D2,_,_,rfl,rfl,ex _ _ hX,h2,?_,?_⟩
   ·rw[cU,cU];exact eU (AW (show 3#0+ps2.length<=1000 by lia))
   refine⟨⟨_,rfl⟩,(eX.trans ex).into hD,ps++ps2,by rw[AC,cq],?_⟩;rw[d8,f7,<-iO];refine Paired.app (C8.upd (ex _ _ hX) (C8.same ex hp)) ?_;rw[eR,iQ,dU];exact C8.upd (ex _ _ hX) hp2
 rintro _ hGo σ HX ⟨⟨x2,rfl⟩,eX,ps,hX,hp⟩;ac_rfl;ac_nf;exact q D HX ps eX hD hX hp
theorem P7:AJ ["framed","found","word","told"] ["framed"] (AH YM):=CB
theorem aJ(T:B8 K mg t) :B2 P w K mg base 1 t.f_28 ["framed"] (TJ K):=by
 refine Am T.d_28.2 P7 λvs H Q E h=>?_;obtain⟨r,g,lo,dl,m,rfl,ok,sm,q⟩:=h;symm
 refine⟨_,(AD (AQ 1 P7 11#5)
  (AD (A6 PassesOwn.never rfl (Ii rfl T.z_enumerate (AA (AL 3#5 0#6 AE (λ_ _=>rfl)) AB)) (Ep rfl (BV (BF 2 P7) (BV (BF 3 P7) Dl))) (AF (Ax (IW fU gT gU FM 0#8 (AA (Sw (fv:=[(2,"word"),(3,"told")]) (cl:=[("word",_),("told",_)]) rfl (Ii rfl T.z_enumerate (AA (AL 3#5 0#6 AE (λ_ _=>rfl)) AB)) (by with_unfolding_all rfl) (by decide +kernel) rfl (by decide +kernel) rfl rfl ⟨(by with_unfolding_all rfl),⟨(by with_unfolding_all rfl),trivial⟩⟩ (by with_unfolding_all rfl) ⟨⟨rfl,rfl,(by with_unfolding_all rfl),rfl⟩,⟨⟨rfl,rfl,(by with_unfolding_all rfl),rfl⟩,trivial⟩⟩ (by decide) (λ_ _ _ _=>(Fy (PW.pt (Dt (AR Cp 0#8 2#7 (AU _)) (DH (AR HJ 0#6 1#9 (AU _))))))) (λ_ _ _ _=>(DA (AA 1#9 1#1)))) AB)))))
  21#9)),?_⟩
 refine A8.el ok.v λtb h1 h2=>?_;have hlm:(dl.map 1#0).length=0#0:=cU ..;nofun;refine⟨by decide,λD hD=>hN _ _ ?_⟩;clear hN N;refine Bw (λσ HX=>(∃x2 x3,σ=[some 2#4,some 2#1,x2,x3])/\AG H HX/\∃ps:List qR,HX D=some 7#1/\C8 K HX ps (El dl)) (λN hN=>?_) ?_
 ·have e0:=AG.new hD (.lst []);refine⟨_,rfl,r,_,2,_,rfl,rfl,Ai.of (e0 _ _ h1),rfl,?_⟩;refine⟨tb,_,rfl,Ai.of (e0 _ _ h2),?_⟩;refine J8 (xs:=dl.map 1#0) (λi σ HX=>(∃x2 x3,σ=[some 2#4,some 2#1,x2,x3])/\AG H HX/\∃ps:List qR,HX D=some 7#1/\C8 K HX ps ((List.range i).flatMap (TF dl))) ⟨⟨none,none,rfl⟩,e0,[],AC,.nil⟩ (λi σ HX _ z=>Ai.of (z.2.1 _ _ h2)) ?_ λσ HX z=>hN _ _ (by rw[hlm]at z;exact z)
  intro i x p2;refine Pu ?_;rintro _ hGo σ HX hx ⟨⟨x2,x3,rfl⟩,eX,ps,hX,hp⟩;refine hGo _ _ λhp2=>?_;clear hGo;obtain⟨n,hn,rfl⟩:=CK hx;have hi:i<0#0:=(cW.mp hn).1;have f2:=AG.new hp2 (.tup [V.int ((i:Nat):Int),V.int n]);have eY:=eX.trans f2;have hY:=f2 _ _ hX;have pY:=C8.same f2 hp;refine⟨p2,_,rfl,Ai.of AC,rfl,_,_,rfl,_,_,rfl,rfl,?_⟩;generalize AZ HX p2 (.tup [V.int ((i:Nat):Int),V.int n])=HY at eY hY pY⊢;clear hX hp f2 eX hp2;refine⟨_,rfl,.inl ⟨rfl,_,Aa.of hY⟩,?_⟩;refine⟨_,rfl,r,_,2,_,rfl,rfl,Ai.of (eY _ _ h1),rfl,?_⟩;refine⟨tb,_,rfl,Ai.of (eY _ _ h2),λD2 hD2=>?_⟩;refine MR (xs:=dl.map 1#0) (λj j5 Hx=>∃ps2:List qR,j5=ps2.map 20#2/\ps2.length<=j/\AG HY Hx/\Hx D2=some 5#0/\C8 K Hx ps2 (((List.range j).filter λb=>decide (dl.getD b 0=dl.getD i 0)&&decide (b≠i)).map λb=>(i,b))) ⟨[],rfl,cj _,AG.new hD2 _,AC,.nil⟩ (λj j5 Hx _ z=>by obtain⟨_,_,_,z,_⟩:=z;exact Ai.of (z _ _ (eY _ _ h2))) ?_ ?_
  ·intro j x p3;refine Pu ?_;rintro _ hGo j5 Hx hx ⟨ps2,rfl,l2,ex,h2',hp2⟩;refine hGo _ _ λhp3=>?_;clear hGo;obtain⟨n',hn',rfl⟩:=CK hx;have f3:=AG.new hp3 (.tup [V.int ((j:Nat):Int),V.int n']);have eA:=ex.trans f3;have hA:=f3 _ _ h2';have pA:=C8.same f3 hp2;generalize AZ Hx p3 (.tup [V.int ((j:Nat):Int),V.int n'])=HA at eA hA pA⊢;clear f3 ex h2' hp2 hp3;have en:n=dl.getD i 0:=by rw[cV,hn];rfl
   have en':n'=dl.getD j 0:=by rw[cV,hn'];rfl
   ac_nf;rw[d8,fG]
   by_cases e1:n'=n
   ·have e1':dl.getD j 0=dl.getD i 0:=by rw[<-en',e1,en]
    rw[qF e1]
    by_cases e:j=i
    ·rw[qE (by lia),PR (by rw[qI (show ¬j≠i from λz=>z e),Bool.and_false]),dU];exact⟨ps2,rfl,by lia,eA,hA,pA⟩
    ·rw[qF (by lia),TK (by rw[eO];exact⟨qH e1',qH e⟩),cq];refine⟨by decide,λp hp=>?_⟩;have f1:=AG.new hp (.tup [V.int ((i:Nat):Int),V.int ((j:Nat):Int)]);have hl:=f1 _ _ hA;have hj:j<0#0:=(cW.mp hn').1;have lt:0#0<=256:=by have:=ok.sz;have:=20#4;lia
     refine⟨hl,by rw[cU];exact AW (by lia),ps2++[p],by rw[cq];rfl,by rw[cg,dB];lia,(eA.trans f1).into hD2,AC,Paired.app (C8.upd hl (C8.same f1 pA)) (.cons (Ai.updL hl (Ai.of AC)) .nil)⟩
   ·rw[qE e1,PR (by rw[qI (show ¬dl.getD j 0=dl.getD i 0 from λz=>e1 (by rw[en',z,en])),Bool.false_and]),dU];exact⟨ps2,rfl,by lia,eA,hA,pA⟩
  ·refine Dh ?_;rintro _ hGo j5 H2 ⟨ps2,rfl,l2,ex,h2',hp2⟩;ac_rfl;clear hGo;dsimp only[Kl];rw[hlm]at l2 hp2;have lt:0#0<=256:=by have:=ok.sz;have:=20#4;lia
   have lp:=Paired.length pY;have ll:=E6 dl i;have lm:=f6 (show i<=256 by lia) lt;refine⟨D,D2,_,_,rfl,rfl,ex _ _ hY,h2',?_,?_⟩
   ·rw[cU,cU,sizeLine_eq];lia
   refine⟨⟨_,_,rfl⟩,(eY.trans ex).into hD,ps++ps2,by rw[AC,cq],?_⟩;rw[d8,f7];refine Paired.app (C8.upd (ex _ _ hY) (C8.same ex pY)) ?_;rw[eR,iQ,dU];exact C8.upd (ex _ _ hY) hp2
 rintro _ hGo σ HX ⟨⟨x2,x3,rfl⟩,eX,ps,hX,hp⟩;ac_rfl;ac_nf;exact q D HX ps eX hD hX hp
theorem aK:AJ ["framed","words"] ["framed","words"] (AH YN):=CB
theorem aL(T:B8 K mg t):B2 P w K mg base 2 t.f_42 ["framed","words"] (PQ K):=by
 refine Am T.d_42.2 aK λvs H Q E h=>?_;obtain⟨r,c,g,lo,dl,m,a,b,rfl,ok,hc,q⟩:=h;symm;refine⟨_,(AF (AO (AM hr (WW T) T.d_49.1 (AA (AK Bx (AL 3#5 0#8 AE (λ_ _=>rfl)) (AL 3#5 0#6 AE (λ_ _=>rfl))) (AA (AK Bx (AL 3#5 0#8 AE (λ_ _=>rfl)) (AL 3#5 0#6 AE (λ_ _=>rfl))) AB))))),?_⟩;refine A8.el ok.v λtb h1 h2=>?_;have g2:=ok.g2;have g9:=ok.g9;ac_nf;refine⟨c,_,0,_,rfl,rfl,hc,rfl,C9 5#4 rfl ?_⟩;refine⟨_,rfl,_,rfl,by lia,by lia,?_⟩;refine⟨c,_,1,_,rfl,rfl,hc,rfl,C9 5#4 rfl ?_⟩;refine⟨_,rfl,_,rfl,by lia,by lia,?_⟩;have ea:((a:Nat):Int)/g=((a/0#2:Nat):Int):=by rw[gB,dE (by lia)]
 have eb:((b:Nat):Int)/g=((b/0#2:Nat):Int):=by rw[gB,dE (by lia)]
 exact⟨_,_,by rw[<-ea,<-eb],q⟩
theorem aN:AJ ["framed","words"] ["framed","words"] (AH YO):=CB
theorem aO(T:B8 K mg t):B2 P w K mg base 2 t.f_60 ["framed","words"] (WA K):=by
 refine Am T.d_60.2 aN λvs H Q E h=>?_;obtain⟨r,c,g,lo,dl,m,a,b,rfl,ok,hc,q⟩:=h;symm;refine⟨_,(AF (AO (AM hr (WW T) T.d_49.1 (AA (AK A9 (AL 3#5 0#8 AE (λ_ _=>rfl)) (AM hr (Eh T) T.d_68.1 1#1)) (AA (AK A9 (AL 3#5 0#8 AE (λ_ _=>rfl)) (AM hr (Eh T) T.d_68.1 1#1)) AB))))),?_⟩;have hd:=Ao ok.g2 ok.len ok.m1;have gp:=RW.Ad ok.g2 (m-1);have ea:((a:Nat):Int)%((0#0/0#2:Nat):Int)=((a%(0#0/0#2):Nat):Int):=(d6 ..).symm;have eb:((b:Nat):Int)%((0#0/0#2:Nat):Int)=((b%(0#0/0#2):Nat):Int):=(d6 ..).symm;have hp:(0:Int)<((0#0/0#2:Nat):Int):=by lia
 ac_nf;refine⟨c,_,0,_,rfl,rfl,hc,rfl,r,g,lo,dl,m,rfl,ok,?_⟩;refine⟨_,rfl,_,rfl,hp,?_⟩;refine⟨c,_,1,_,rfl,rfl,hc,rfl,r,g,lo,dl,m,rfl,ok,?_⟩;refine⟨_,rfl,_,rfl,hp,?_⟩;exact⟨_,_,by rw[<-ea,<-eb],q⟩
theorem P8:AJ ["framed","nexts","pair","words"] ["framed"] (AH YQ):=CB
theorem WY(T:B8 K mg t):B2 P w K mg base 3 t.f_25 ["framed"] (PU P w K):=by
 refine Am T.d_25.2 P8 λvs H Q E h=>?_;obtain⟨r,g,lo,dl,m,rfl,ok,sm,q⟩:=h;symm
 refine⟨_,(AD (IR (i:=1) P8.nd rfl 3#8 (JF (P:=P) (w:=w) (K:=K) rfl rfl rfl))
  (AD (A6 PassesOwn.never rfl (NI K (AM hr (WX T) T.d_34.1 1#1)) (BF 2 P8) (AF (ML (P:=P) (w:=w) (K:=K) rfl rfl rfl 8#9 0#8 1#9 11#5 rfl)))
  (AD (A6 PassesOwn.never rfl (NI K (AM hr (aJ T) T.d_28.1 1#1)) (BF 3 P8) (AF (Ax (LL K (Dc (P:=P) (w:=w) (K:=K) rfl rfl rfl 8#9 0#8 (AM hr (aL T) T.d_42.1 (AA 0#6 7#3)) (λ_ _=>rfl)) (AA (AM hr (aO T) T.d_60.1 (AA 0#6 7#3)) AB)))))
  21#9))),?_⟩
 obtain⟨h,hh⟩:∃h:Nat,h=0#0/0#2:=⟨_,rfl⟩;rw[<-hh]at q;have hd9:=Ao ok.g2 ok.len ok.m1;have h9:h<=9:=by rw[<-hh]at hd9;lia
 nofun;intro d u hd dw;refine hN _ _ ?_;clear hN N;have e0:=AG.new hd u;generalize AZ H d u=H0 at dw e0⊢;refine Bw (λσ HX=>(∃x2 x3,σ=[some 2#4,some 2#2,x2,x3])/\AG H HX/\∃ls:List qR,(∀l∈ls,H l=none)/\DW P w K HX d (Ar (BO h) 1#7)/\EI K HX ls (BO h) λ_=>[]) (λN hN=>?_) ?_
 ·refine⟨_,rfl,r,g,lo,dl,m,rfl,ok.same e0,sm,λD H1 ps e1 hD1 hD hp=>?_⟩;rw[<-hh]at hp;have pn:=Paired.length hp;have nd:=Cv h;have lA:(BO h).length<=100:=by have a:=GV h h;have b:=f6 h9 h9;unfold BO;rw[d5];lia
  refine⟨D,rfl,⟨_,Aa.of hD⟩,?_⟩;refine B3 (xs:=ps.map 20#2) (λi σ HX=>(∃x2 x3,σ=[some 2#4,some 2#2,x2,x3])/\AG H HX/\HX D=some 7#1/\C8 K HX ps (BO h)/\∃ls:List qR,(∀l∈ls,H l=none)/\DW P w K HX d (Ar ((BO h).take i) 1#7)/\EI K HX ls ((BO h).take i) λ_=>[]) ⟨⟨none,none,rfl⟩,e0.trans e1,hD,hp,[],(λl hl=>qG hl 14#7),dw.same e1,⟨rfl,18#5,λi a l z=>by simp at z⟩⟩ (λi σ HX _ z=>Aa.of z.2.2.1) ?_ ?_
  ·refine Hk ?_;rintro _ _ i x _ hGo σ HX hx ⟨⟨x2,x3,rfl⟩,eX,hDX,pX,ls,ln,dX,gX⟩;ac_rfl;obtain⟨p,hpi,rfl⟩:∃p,ps[i]?=some p/\x=V.ref p:=by rw[cn]at hx;obtain⟨p,h1,h2⟩:=dq.mp hx;exact⟨p,h1,h2.symm⟩
   obtain⟨a,ha,sa⟩:=Bc pX hpi;have hi:i<(BO h).length:=(cW.mp ha).1
   have lr:(Ar ((BO h).take i) 1#7).length<=100:=by rw[CC (by rw[cU];exact gX.n),dN];lia
   refine⟨by decide,λl hl=>?_⟩;have f1:=AG.new hl (.lst []);have dY:=dX.same f1;have gY:=gX.same f1;have hY:=f1 _ _ hDX;have pY:=C8.same f1 pX;have sY:=Ai.same' f1 sa;have lY:AZ HX l (.lst []) l=some (.lst []):=AC;have nl:=gX.out hl;have eY:=eX.trans f1;have hn:=eX.free hl;generalize AZ HX l (.lst [])=HY at f1 dY gY hY pY sY lY eY⊢;refine⟨_,rfl,_,rfl,d,p,_,Bf a,rfl,rfl,dY,sY,AW (by lia),λu' dw'=>⟨⟨_,_,rfl⟩,eY.into hd,dY.lst hY u',dY.prv pY u',ls++[l],λk hk=>?_,?_,?_⟩⟩
   ·rcases cZ.mp hk with z|z
    ·exact ln k z
    ·rw[ce.mp z];exact hn
   ·rw[cq,eJ,ha];rw[JN (by rw[cU];exact gX.n) (GW nd ha)]at dw';exact dw'
   ·rw[eJ,ha];exact (dY.grl gY u').snoc nl (dY.lst lY u') rfl
  ·rintro σ HX ⟨⟨x2,x3,rfl⟩,eX,hDX,pX,ls,ln,dX,gX⟩;rw[cU,pn,du]at dX gX;exact hN _ _ ⟨⟨_,_,rfl⟩,eX,ls,ln,dX,gX⟩
 rintro _ hGo σ HX ⟨⟨x2,x3,rfl⟩,eX,ls,ln,dX,gX⟩;ac_rfl;refine Bw (λσ HX=>(∃x2 x3,σ=[some 2#4,some 2#2,x2,x3])/\AG H HX/\DW P w K HX d (Ar (BO h) 1#7)/\EI K HX ls (BO h) (Hs g.toNat h (El dl))) (λN hN=>?_) ?_
 ·refine⟨_,rfl,r,g,lo,dl,m,rfl,ok.same eX,sm,λD H1 ps e1 hD1 hD hp=>?_⟩;have pn:=Paired.length hp;have nD:=gX.out hD1;have nd:=Cv h;refine⟨D,rfl,⟨_,Aa.of hD⟩,?_⟩;refine B3 (xs:=ps.map 20#2) (λi σ HX=>(∃x2 x3,σ=[some 2#4,some 2#2,x2,x3])/\AG H HX/\HX D=some 7#1/\C8 K HX ps (El dl)/\DW P w K HX d (Ar (BO h) 1#7)/\EI K HX ls (BO h) (Hs g.toNat h ((El dl).take i))) ⟨⟨_,_,rfl⟩,eX.trans e1,hD,hp,dX.same e1,gX.same e1⟩ (λi σ HX _ z=>Aa.of z.2.2.1) ?_ ?_
  ·clear dX gX eX hD hp e1;intro i x;refine Pu ?_;rintro _ hGo σ HX hx ⟨⟨x2,x3,rfl⟩,eX,hDX,pX,dX,gX⟩;ac_rfl;clear hGo;obtain⟨c,hci,rfl⟩:∃c,ps[i]?=some c/\x=V.ref c:=by rw[cn]at hx;obtain⟨c,h1,h2⟩:=dq.mp hx;exact⟨c,h1,h2.symm⟩
   obtain⟨⟨a,b⟩,hab,sc⟩:=Bc pX hci;have mw:=JP.mp (cw hab);have hd9':=hd9;rw[<-hh]at hd9';obtain⟨j,hj⟩:=d4.mp (K4 (h:=h) (a:=a/0#2) (b:=b/0#2) (gO (by rw[gD];lia)) (gO (by rw[gD];lia)));obtain⟨l,hl⟩:∃l,ls[j]?=some l:=⟨ls[j]'(by rw[gX.n];exact (cW.mp hj).1),cX _⟩;have ml:=cw hl;have okX:=ok.same eX;refine⟨_,rfl,_,rfl,_,rfl,r,c,g,lo,dl,m,a,b,rfl,okX,sc,λp H2 e2 sp=>?_⟩;obtain⟨u,dr⟩:=(dX.same e2).r;obtain⟨qs,hq,hqp⟩:=(gX.same e2).e j _ l hj hl;refine⟨d,p,u,_,Bf _,.ref l,rfl,rfl,dr,sp,CD nd hj (by rw[cn,hl];rfl),.inl ⟨rfl,_,Aa.of hq⟩,?_⟩;refine⟨_,rfl,_,rfl,r,c,g,lo,dl,m,a,b,rfl,okX.same e2,Ai.same' e2 sc,λp3 H3 e3 sp3=>?_⟩;rw[<-hh]at sp3;have hq3:=e3 _ _ hq;have e23:=e2.trans e3;refine⟨l,_,_,rfl,rfl,hq3,?_,?_⟩
   ·have l1:=Paired.length hqp;have l2:=K6 g.toNat h ((El dl).take i) (F7 (a/0#2,b/0#2));have l3:=E6 dl 0#0;have lt:0#0<=256:=by have:=ok.sz;have:=20#4;lia
    have l4:=f6 lt lt;have l5:((El dl).take i).length<=(El dl).length:=by rw[dN];exact Nat.min_le_right ..
    have l6:(El dl).length<=0#0*0#0:=l3;rw[cU,sizeLine_eq];lia
   rw[show qs.map 20#2++[V.ref p3]=(qs++[p3]).map 20#2 by rw[cq];rfl];refine⟨⟨_,_,rfl⟩,(eX.trans e23).into (ln l ml),by rw[AI λz=>nD (by rw[z];exact ml)];exact e23 _ _ hDX,C8.upd hq3 (C8.same e23 pX),(dX.same e23).updL hq3 _,(gX.same e23).push nd hj hl hq3 (C8.same e3 hqp) sp3 λz=>TL hab z⟩
  ·rintro σ HX ⟨⟨x2,x3,rfl⟩,eX,hDX,pX,dX,gX⟩;rw[cU,pn,du]at gX;exact hN _ _ ⟨⟨_,_,rfl⟩,eX,dX,gX⟩
 rintro _ hGo σ HX ⟨⟨x2,x3,rfl⟩,eX,dX,gX⟩;ac_rfl;ac_nf;exact q d HX ls eX hd ln dX gX
theorem aP:AJ ["framed"] ["framed"] (AH YR):=CB
theorem aQ(T:B8 K mg t):B2 P w K mg base 4 t.f_26 ["framed"] (MZ P w K):=by
 refine Am T.d_26.2 aP λvs H Q E h=>?_;obtain⟨r,g,lo,dl,m,rfl,ok,sm,q⟩:=h;symm;refine⟨_,(AF (AO (AM hr (WV T) T.d_23.1 (AA (AM hr (aG T) T.d_17.1 (AA (AM hr (WY T) T.d_25.1 1#1) AB)) AB)))),?_⟩;have g2:=ok.g2;have hl:=Q4 g2 ok.len ok.m1;obtain⟨h,hh⟩:∃h:Nat,h=0#0/0#2:=⟨_,rfl⟩;have hd9:=Ao ok.g2 ok.len ok.m1;rw[<-hh]at q hl hd9;have h9:h<=9:=by lia
 have hp:=RW.Ad ok.g2 (m-1);have h0:0<h:=by lia
 have wl:(El dl).length<=70000:=by
  have l3:(El dl).length<=0#0*0#0:=E6 dl 0#0;have lt:0#0<=256:=by have:=ok.sz;have:=20#4;lia
  have l4:=f6 lt lt;lia
 ac_nf;refine⟨r,g,lo,dl,m,rfl,ok,sm,λd1 H1 ls e1 hd1 ln dw gr=>?_⟩;rw[<-hh]at dw gr;obtain⟨u1,dr⟩:=dw.r;refine⟨d1,u1,ls,BO h,Hs g.toNat h (El dl),rfl,dr,gr,Cv h,λa _ p hp=>(C3 h0 ((IN hl).mp hp)).2,FC h9,λa _=>dM (K6 ..) wl,λu' H2 d2 ls2 A2 B e2 dr2 hd2 ln2 dw2 gr2 tp=>?_⟩;obtain⟨u2,drr⟩:=dw2.r;have eH2:=(e1.into hd1 (o:=u')).trans e2;have l2:A2.length<=100:=dM (tp.nd.length_le_of_subset λp hp=>(tp.all p).mp hp) (FC h9)
 have hB:∀p q,q∈B p↔GB g.toNat h dl q p:=λp q=>by rw[tp.on,IN hl];exact⟨λz=>z.2,λz=>⟨(C3 h0 z).1,z⟩⟩
 refine⟨d2,u2,ls2,A2,B,rfl,drr,gr2,tp.nd,λa _ p hp=>(tp.all p).mpr (C3 h0 ((hB a p).mp hp)).1,l2,λa _=>tp.len a,λu3 H3 d3 M f e3 dr3 hd3 dw3 mp=>?_⟩;exact q d3 H3 M f ((eH2.into (e1.free hd2)).trans e3) (eH2.free hd3) dw3 (mp.rk h9 tp.all tp.nd (λp _ q=>hB p q) λp q z=>(C3 h0 z).1)
theorem UI:AJ ["one","framed","found"] ["one"] (AH YS):=CB
theorem WZ(T:B8 K mg t):B2 P w K mg base 9 t.f_70 ["one"] (Mk t.c_46):=by
 refine Fk T.d_70.2 UI λvs H Q E h=>?_;obtain⟨r,g,lo,dl,m,lf,tf,mf,rfl,ok,fw,q0,q1,q2⟩:=h;symm
 refine⟨_,(AD (AQ 1 UI (Bh (P2 T) (hr.mono (by decide)) rfl T.d_67.1 BQ 1#1))
  (AD (AQ 2 UI (AM hr (aQ T) T.d_26.1 2#0))
  (AD (BK (AR Dy (As (N8 (P:=P) (w:=w) (K:=K) rfl rfl rfl) rfl T.z_len dm 4#9) (As 21#1 rfl T.z_len dm (AA (AM hr (WX T) T.d_34.1 2#0) AB)) (AU _)) (AF (AO Cg)) Af)
  (AF (AO (DA (AA (Dc (P:=P) (w:=w) (K:=K) rfl rfl rfl 8#9 1#9 13#7 (λ_ _=>rfl)) (AA (As (MY (K:=K) rfl) rfl T.z_sorted PyProof.Rows.boot_sorted (AA (C7 [(2,"found")] [("found",_)] (FX (P:=P) (w:=w) (K:=K) rfl rfl rfl 1#9) (λ_ _ _ _=>(Fy (AR (VI (K:=K) rfl hr.units) 0#6 13#7 (AU _)))) (λ_ _ _ _=>(AK (TQ (K:=K) rfl) 0#6 (DA (AA (by exact Dc (P:=P) (w:=w) (K:=K) rfl rfl rfl 8#9 0#8 0#6 (λ_ _=>rfl)) AB))))) AB)) AB)))))))),?_⟩
 have g2:=ok.g2;have gp:=RW.Ad g2 (mf-1);nofun;refine⟨r,g,lo,dl,m,lf,tf,mf,rfl,ok,fw,λsm r1 H1 e1 ok1=>hN _ _ ?_,q0⟩;clear hN N;have hd9:=Ao g2 ok1.len ok1.m1;obtain⟨h,hh⟩:∃h:Nat,h=0#9/0#2:=⟨_,rfl⟩;unfold DE at q1;rw[<-hh]at q1 q2 hd9;have h9:h<=9:=by lia
 have h0:0<h:=by lia
 have j3:(0,0)∈BO h:=EC.mpr 4#6;nofun;refine⟨r1,g,lf,tf,mf,rfl,ok1,by lia,λd H2 M f e2 hd dw rk=>hN _ _ ?_⟩;clear hN N;rw[<-hh]at rk;have e12:=e1.trans e2;have lM:14#6<=(BO h).length:=rk.nd.length_le_of_subset λp hp=>rk.sub p hp
 have lA:=FC (show h<=9 by lia);refine Bw (λσ HX=>σ=[some 2#4,some (.ref r1),some 2#2]/\AG H2 HX/\∀p∈BO h,p∈M) (λN hN=>?_) ?_
 ·obtain⟨u,dr⟩:=dw.r;refine⟨_,rfl,d,u,_,rfl,dr,_,rfl,r1,g,lf,tf,mf,rfl,ok1.same e2,by lia,λD H3 ps e3 hD0 hD hps=>?_⟩;have pn:=Paired.length hps;rw[<-hh]at hps pn;refine⟨D,_,rfl,.inl (Aa.of hD),_,_,rfl,rfl,_,rfl,?_⟩;dsimp only;rw[cU,pn,CC (by rw[cU])]
  by_cases z:M.length<(BO h).length
  ·rw[qF (qH (by lia))];refine q1 ⟨sm,λrr hr=>?_⟩ H3 (e12.trans e3);have:=rk.all hr;have:=(Cv h).length_le_of_subset λp hp=>this p hp
   lia
  ·rw[qE (λy=>z (by have:=qN y;lia))];exact hN _ _ ⟨rfl,e3,OK rk.nd rk.sub (by lia)⟩
 rintro _ hGo σ HX ⟨rfl,eX,all⟩;ac_rfl;have l50:14#6<=100:=by lia
 obtain⟨u,dr⟩:=(dw.same eX).r;refine⟨_,rfl,d,t.k_EVEN,u,_,Bf (0,0),.int (f (0,0):Nat),rfl,rfl,dr,GS T.q_EVEN HX,G4 rk.nd (all _ j3),_,rfl,d,u,_,rfl,dr,λu' dr' D hD=>?_⟩;have eF:=(e12.trans eX).into (e1.free hd) (o:=u');generalize AZ HX d u'=HF at dr' eF hD⊢;refine F6 (P:=P) (w:=w) (K:=K) (λi j5 Hx=>j5.length<=i/\AG HF Hx/\Hx D=some 5#0/\∀y∈j5,∃t ns,y=V.ref t/\Ai K Hx t 1#8/\ns≠[]) ⟨cj _,AG.new hD _,AC,λ_ h=>qG h cu⟩ (λi j5 Hx _ z=>dr'.same z.2.1) ?_ ?_
 ·intro i b k v;refine a6 ?_;rintro _ hGo j5 Hx hk sb ⟨lp,ex,hDx,hp⟩;ac_rfl;clear hGo;obtain⟨a,ha,rfl,rfl⟩:=Te hk;have aM:=cw ha;have i50:i<=100:=by have:=(cW.mp ha).1;lia
  have sb':Ai K Hx b (([(a.1:Int),(a.2:Int)]).map 1#0):=sb;refine⟨_,rfl,_,_,Tf sb',Tf (ns:=[0,0]) (GS T.q_EVEN Hx),Os _,Os _,Qa _,_,rfl,?_⟩;refine bJ (λ_=>?_) λ_=>⟨by lia,ex,hDx,hp⟩
  refine⟨_,rfl,_,rfl,_,rfl,d,b,u',_,Bf a,.int (f a:Nat),rfl,rfl,dr'.same ex,sb,G4 rk.nd aM,(by show 1<=sizeLine;decide),λp3 hp3=>⟨b,p3,([(a.1:Int),(a.2:Int)]).map 1#0,[V.int (f a:Nat)],rfl,rfl,Ai.same' (AG.new hp3 _) sb',Ai.of AC,List.cons_ne_nil _ _,by show 2+1<=sizeLine;decide,λz=>qG z (List.cons_ne_nil _ _),λ_ p4 hp4=>?_⟩⟩;have e4:=(AG.new hp3 (.tup [V.int (f a:Nat)])).trans (AG.new hp4 (.tup (([(a.1:Int),(a.2:Int)]).map 1#0++[V.int (f a:Nat)])));have s4:Ai K (AZ (AZ Hx p3 (.tup [V.int (f a:Nat)])) p4 (.tup (([(a.1:Int),(a.2:Int)]).map 1#0++[V.int (f a:Nat)]))) p4 (([(a.1:Int),(a.2:Int),((f a:Nat):Int)]).map 1#0):=Ai.of AC;generalize AZ (AZ Hx p3 (.tup [V.int (f a:Nat)])) p4 (.tup (([(a.1:Int),(a.2:Int)]).map 1#0++[V.int (f a:Nat)]))=HY at e4 s4⊢;have h4:=e4 _ _ hDx;refine⟨h4,AW (by lia),by rw[cg,dB];lia,(ex.trans e4).into hD,AC,λy hy=>?_⟩;rcases cZ.mp hy with z|z
  ·obtain⟨t,ns,z1,z2,z3⟩:=hp y z;exact⟨t,ns,z1,Ai.updL h4 (Ai.same' e4 z2),z3⟩
  ·exact⟨p4,_,ce.mp z,Ai.updL h4 s4,List.cons_ne_nil _ _⟩
 ·refine Dh ?_;rintro _ hGo j5 H4 ⟨lp,ex,hDx,hp⟩;ac_rfl;clear hGo;rw[CC (by rw[cU])]at lp;refine⟨D,j5,rfl,Aa.of hDx,by lia,hp,λD2 ts' hD2 _=>⟨(by show 2<=sizeLine;decide),λp5 hp5=>?_⟩⟩;exact q2 sm p5 D2 _ M f (((eF.trans ex).trans (AG.new hD2 _)).trans (AG.new hp5 _)) AC rk all
theorem aR:AJ ["one"] ["one"] (AH YT):=CB
theorem Wa(T:B8 K mg t):B2 P w K mg base 10 t.f_24 ["one"] (Pr):=by
 refine Fk T.d_24.2 aR λvs H Q E h=>?_;obtain⟨r,g,lo,dl,m,lf,tf,mf,rfl,ok,fw,sm,q⟩:=h;symm;refine⟨_,(AF (AO (DI Hv (Bh (WZ T) (hr.mono (by decide)) rfl T.d_70.1 BQ 1#1) Cg (AU _)))),?_⟩;obtain⟨_,fl⟩:=fw.alike ok.g2 20#4
 have h0:0<0#9/0#2:=by have:=Ao ok.g2 fl (by have:=fw.two;lia);have:=RW.Ad ok.g2 (mf-1);lia
 ac_nf;refine⟨r,g,lo,dl,m,lf,tf,mf,rfl,ok,fw,λz=>qG z (by lia),λwn H' e=>?_,λ_ p D H' M f e hp rk all=>?_⟩
 ·exact q false ⟨λz=>(by cases z),λz=>qG wn z⟩ H' e
 ·exact q true ⟨λ_=>Vd h0 rk all,λ_=>rfl⟩ H' e
theorem Hm:AJ ["one","framed","ranked","even","many","table","number","come"] ["one"] (AH YU):=CB
theorem aS(T:B8 K mg t):B2 P w K mg base 10 t.f_45 ["one"] (Jb t.c_29 t.c_46):=by
 refine Fk T.d_45.2 Hm λvs H Q E h=>?_;obtain⟨r,g,lo,dl,m,lf,tf,mf,rfl,ok,fw,qn,qt,q⟩:=h;symm
 refine⟨_,(AD (AQ 1 Hm (Bh (P2 T) (hr.mono (by decide)) rfl T.d_67.1 BQ 1#1))
  (AD (AQ 2 Hm (Bh (WZ T) (hr.mono (by decide)) rfl T.d_70.1 BQ 2#0))
  (AD (BK (AR RZ 1#9 Cg (AU _)) (AF (DV rfl T.x_29 rfl T.m_29 B9 (AA Fq AB))) Af)
  (AD (AQ 3 Hm (AL 3#5 1#9 AE (λ_ _=>rfl)))
  (AD (AQ 4 Hm (AK BX (AK A3 (AK A3 2#7 (Dc (P:=P) (w:=w) (K:=K) rfl rfl rfl 8#9 (AM hr (WV T) T.d_23.1 (AA (AM hr (WY T) T.d_25.1 2#0) AB)) 13#7 (λ_ _=>rfl))) AE) (AM hr (Fm T) T.d_63.1 2#0)))
  (AD (BK (AR DU (AM hr (RI T) T.d_9.1 (AA (AL 3#5 0#8 AE (λ_ _=>rfl)) 10#8)) 8#4 (AU _)) (AF (DV rfl T.x_46 rfl T.m_46 B9 (AA Fq AB))) Af)
  (AD (AQ 5 Hm 11#5)
  (AD (PS.nox (A6 PassesOwn.never rfl (Aj rfl T.z_range (AA (AM hr (RI T) T.d_9.1 (AA (AL 3#5 0#8 AE (λ_ _=>rfl)) 10#8)) AB)) (BF 6 Hm) (AD (AQ 7 Hm (AM hr (M5 T) T.d_55.1 (AA 20#0 (AA (AL 3#5 0#8 AE (λ_ _=>rfl)) 10#8))))
  (AF (Ax (LL K 8#8 (AA (AL 3#7 (AM hr (Z6 T) T.d_35.1 (AA 0#8 (AA (pv 7) 19#8))) 2#7 (λ_ _=>rfl)) AB)))))))
  (AF (AO (AM hr (Pz T) T.d_73.1 (AA (AL 3#5 0#8 AE (λ_ _=>rfl)) (AA (AK BX (RT NO (AL 3#5 0#8 AE (λ_ _=>rfl))) 2#7) (AA 8#8 AB)))))))))))))),?_⟩
 have g2:=ok.g2;have g9:=ok.g9;have gp:=RW.Ad g2 (mf-1);nofun;refine⟨r,g,lo,dl,m,lf,tf,mf,rfl,ok,fw,λsm r1 H1 e1 ok1=>hN _ _ ?_,λz=>qt 19#3⟩;clear hN N;have hd9:=Ao g2 ok1.len ok1.m1;have mf2:=fw.two;have h0:0<0#9/0#2:=by lia
 have even0:(0,0)∈BO (0#9/0#2):=EC.mpr 4#6;nofun;refine⟨r1,g,lf,tf,mf,lf,tf,mf,rfl,ok1,fw.again g2 20#4,λz=>by lia,λno H2 e2=>hN _ _ ?_,λ_ pr D H2 M f e2 hpr rk all=>hN _ _ ?_⟩
 ·clear hN N;ac_nf;exact⟨by decide,qn no H2 20#7⟩
 clear hN N;nofun;refine hN _ _ ?_;clear hN N;have e12:=e1.trans e2;refine Ah λN hN=>?_;refine⟨_,rfl,pr,_,0,_,rfl,rfl,Ai.of hpr,rfl,hN _ _ ?_⟩;clear hN N;refine EO (λHX=>AG H HX/\AS HX r1 g lf tf mf) ⟨e12,ok1.same e2⟩ ?_;clear e2 hpr e12 e1 ok1 D;rintro H2 ⟨e2,ok2⟩;refine Ah λN hN=>?_
 have wl:(El tf).length<=70000:=by
  have l3:(El tf).length<=0#9*0#9:=E6 tf 0#9;have lt:0#9<=256:=by have:=ok2.sz;have:=ok2.len;lia
  have l4:=f6 lt lt;lia
 have h9:0#9/0#2<=9:=by lia
 refine⟨_,rfl,_,rfl,r1,g,lf,tf,mf,rfl,ok2,by lia,λd1 H3 ls e3 hd1 ln dw gr=>?_⟩;obtain⟨u1,dr⟩:=dw.r;refine⟨d1,u1,ls,_,_,rfl,dr,gr,Cv _,λa _ p hp=>(C3 h0 ((IN hd9.2).mp hp)).2,FC h9,λa _=>dM (K6 ..) (by lia),λu' H4 d2 M' f' e4 dr4 hd2 dw4 mp=>?_⟩;have rk':Pd (0#9/0#2) (λa b=>GB g.toNat (0#9/0#2) tf b a) M' f':=mp.rk h9 (λ_=>Iff.rfl) (Cv _) (λp _ q=>IN hd9.2) λp q z=>(C3 h0 z).2
 obtain⟨all',bx⟩:=Xg (m:=mf) h0 rk all rk';have bk:=bx.b;have e24:=(e3.into hd1 (o:=u')).trans e4;obtain⟨u4,dr5⟩:=dw4.r;refine⟨d2,t.k_EVEN,u4,_,Bf (0,0),.int (f' (0,0):Nat),rfl,rfl,dr5,GS T.q_EVEN H4,G4 mp.nd (all' _ even0),?_⟩;refine⟨_,_,rfl,rfl,_,_,rfl,rfl,?_⟩;have ok4:=ok2.same e24;have mny:=Dj.many g2 ok2.len mf2 ok2.tb bk;generalize f (0,0)=j3 at bk bx mny⊢;generalize f' (0,0)=left at bk bx mny⊢;obtain⟨j4,em⟩:∃j4,j3+left+2=mf+j4:=⟨j3+left+2-mf,by lia⟩;have m1:1<=j4:=by lia
 refine⟨_,rfl,r1,g,lf,tf,mf,rfl,g2,g9,ok4.v,ok4.len,_,_,rfl,rfl,hN _ _ ?_⟩;clear hN N;dsimp only;rw[show ((j3:Nat):Int)+((left:Nat):Int)+2-((mf:Nat):Int)=((j4:Nat):Int) by lia];refine EO (λHX=>AG H HX/\AS HX r1 g lf tf mf) ⟨e2.trans e24,ok4⟩ ?_;clear ok4 dr5 dw4 dr4 hd2 e4 dr gr dw ln hd1 e3 e24 ok2 e2 mp rk' all' rk all;rintro H5 ⟨e5,ok5⟩;refine A8.el ok5.v λtb5 h51 h52=>?_;refine Bw (λσ HX=>σ=[some 2#4,some (.ref r1),some (.ref pr),some (.int (j3:Nat)),some (.int (j4:Nat)),none,none,none]/\HX=H5/\g^j4<=256) (λN hN=>?_) ?_
 ·refine⟨_,rfl,r1,_,0,_,rfl,rfl,Ai.of h51,rfl,_,rfl,?_⟩;refine⟨g,_,rfl,g2,g9,by lia,λz=>?_,λz x hx=>?_⟩
  ·rw[cp]at z⊢;refine⟨_,_,rfl,rfl,_,rfl,?_⟩;dsimp only;rw[qE (λy=>by have:=qN y;lia)];exact hN _ _ ⟨rfl,rfl,z⟩
  ·refine⟨_,_,rfl,rfl,_,rfl,?_⟩;dsimp only;rw[qF (qH (by lia))];exact⟨by decide,qt (.inr ⟨sm,j3,left,j4,bx,em,by rw[cp]at z;lia⟩) H5 e5⟩
 rintro _ hGo σ HX ⟨rfl,hHX,s256⟩;ac_rfl;rw[hHX];clear hHX HX;have m8:=EU g2 s256;have gm:=RW.Ad g2 j4;nofun;refine⟨by decide,λD hD=>hN _ _ ?_⟩;clear hN N;have e6:=AG.new hD (.lst []);have hD6:AZ H5 D (.lst []) D=some (.lst []):=AC;generalize AZ H5 D (.lst [])=H6 at e6 hD6⊢;refine Bw (λσ HX=>(∃x6 x7,σ=[some 2#4,some (.ref r1),some (.ref pr),some (.int (j3:Nat)),some (.int (j4:Nat)),some 2#1,x6,x7])/\AG H5 HX/\HX D=some (.lst ((Q5 g tf mf j3 j4).map 1#0))) (λN hN=>?_) ?_
 ·refine⟨_,rfl,r1,_,0,_,rfl,rfl,Ai.of (e6 _ _ h51),rfl,_,rfl,?_⟩;refine⟨g,_,rfl,g2,g9,by lia,λz=>?_,λz=>qG s256 (by rw[cp]at z;lia)⟩;rw[cp];refine⟨_,rfl,by lia,by lia,?_⟩;refine BN (n:=(g^j4).toNat) (λi σ HX=>(∃x6 x7,σ=[some 2#4,some (.ref r1),some (.ref pr),some (.int (j3:Nat)),some (.int (j4:Nat)),some 2#1,x6,x7])/\AG H5 HX/\HX D=some (.lst (((List.range i).map (XY g tf mf j3 j4)).map 1#0))) ⟨⟨none,none,rfl⟩,e6,hD6⟩ ?_ λσ HX z=>hN _ _ z
  clear e6 hD6;intro i;refine Pu ?_;rintro _ hGo σ HX hi ⟨⟨x6,x7,rfl⟩,eX,hDX⟩;ac_rfl;clear hGo;have okX:=ok5.same eX;have hX1:=eX _ _ h51;refine Ah λN2 hN2=>?_;refine⟨_,rfl,_,rfl,r1,_,0,_,rfl,rfl,Ai.of hX1,rfl,_,rfl,?_⟩;rw[dO];refine⟨_,g,_,rfl,g2,g9,by lia,by lia,λz=>?_,λ_ _ p7 H7 n7=>hN2 _ _ ?_⟩
  ·exfalso;rw[cp]at z;lia
  clear hN2 N2;rw[cp,show (RW.Ce g (i:Int) j4).reverse=Aw g (i:Int) j4 from rfl]at n7;have wb:=B4 g2 (i:Int) j4;have wln:=BS g (i:Int) j4;obtain⟨w,hw⟩:=Dj.first (j4:=j4) g2 okX.len mf2 okX.tb bk wb;obtain⟨w1,w2,w3⟩:=G5 g2 okX.len (by lia) (cw hw);have ok7:=okX.same n7.1;refine⟨_,rfl,.inl ⟨rfl,_,Aa.of (n7.1 _ _ hDX)⟩,?_⟩;refine⟨_,rfl,_,rfl,r1,p7,g,lf,tf,mf,_,0,rfl,ok7,Aa.of n7.2.2,FN,by rw[cU,wln];lia,?_⟩;rw[Fx wb]
  have tp:0<Bj g.toNat tf (Aw g (i:Int) j4):=by rw[<-FV (g:=g) tf mf];have:=(cW.mp hw).1;lia
  refine λns hns=>⟨λz=>?_,λ_ _ q8 H8 w8 hw8 n8=>?_⟩
  ·exfalso;rw[<-D1 hns]at z;lia
  rw[<-D1 hns,Int.toNat_zero,hw]at hw8;cases hw8;have lw:j3<4#4:=by rw[w3,wln];lia
  refine⟨_,rfl,q8,_,_,_,rfl,rfl,Aa.of n8.2.2,CS (by rw[cn,cX lw];rfl),?_⟩;have hD8:=n8.1 _ _ (n7.1 _ _ hDX);refine⟨D,_,_,rfl,rfl,hD8,by rw[cU,cU,dL];exact AW (by lia),⟨_,_,rfl⟩,((eX.trans n7.1).trans n8.1).into hD,?_⟩;rw[AC,BE,cq]
  have ew:w.getD j3 0=XY g tf mf j3 j4 i:=by unfold XY;rw[cV (l:=Di g tf mf (Aw g (i:Int) j4)),hw];rfl
  rw[cV,cX lw]at ew;rw[<-ew];rfl
 rintro _ hGo σ HX ⟨⟨x6,x7,rfl⟩,eX,hDX⟩;ac_rfl;have hX1:=eX _ _ h51;have wl:=K9 g2 tf mf j3 j4;have wt:=OL g2 ok5.len (show 1<=mf by lia) j3 j4;refine⟨_,rfl,r1,_,0,_,rfl,rfl,Ai.of hX1,rfl,_,rfl,r1,_,1,_,rfl,rfl,Ai.of hX1,rfl,_,rfl,_,rfl,_,_,rfl,rfl,_,rfl,?_⟩;refine Ec (E:=E0) (m:=j4) g2 g9 m1 wl s256 wt (.inl hDX) λr' H' e' rv=>q sm j3 left j4 bx em m1 s256 r' H' ((e5.trans eX).trans e') ⟨rv,g2,g9,m1,m8,wl,s256,wt⟩
theorem Yr:AJ ["one","framed","singles"] ["one"] (AH bo):=CB
theorem cE(T:B8 K mg t)(hB:FD mg base):B2 P w K mg base 11 t.f_7 ["one"] (Pj t.c_46 LP t.p_7):=by
 refine Zg T.d_7 Yr (λ_ _ _ _ _ _=>b1 λ_=>rfl) λvs H Q E h=>?_;obtain⟨r,g,lo,dl,m,lf,tf,mf,rfl,ok,fw,tb,hsm,hbig⟩:=h;refine⟨rfl,λA outer s hr=>?_⟩
 refine⟨_,(AD (AQ 1 Yr (Bh (P2 T) (hr.mono (by decide)) rfl T.d_67.1 BQ 1#1))
  (AD (AQ 2 Yr (AM hr (cC T) T.d_8.1 2#0))
  (AF (AO (Tn (cl:=[("singles",_),("framed",_)]) (is:=[2,1]) (aE T) (hr.mono (by decide)) rfl T.d_50.1 (AA (A7 (AA (Bh (aB T) (hr.mono (by decide)) rfl T.d_22.1 BQ 2#0) AB)) (AA (XZ (clos:=[("singles",_),("framed",_)]) hB rfl T.hd_7 (by with_unfolding_all rfl) rfl) AB)) (.cons ⟨rfl,rfl,by with_unfolding_all rfl,rfl⟩ (.cons ⟨rfl,rfl,by with_unfolding_all rfl,rfl⟩ .nil))))))),?_⟩
 have g2:=ok.g2;have g9:=ok.g9;obtain⟨hn,hl⟩:=Hd g2 ok.len fw;nofun;refine⟨r,g,lo,dl,m,lf,tf,mf,rfl,ok,fw,λs9 r1 H1 e1 ok1=>hN _ _ ?_,hbig⟩;clear hN N;have h9:0#9/0#2<=9:=by lia
 nofun;refine⟨r1,g,lf,tf,mf,rfl,ok1,h9,λp ps H2 e2 sl=>hN _ _ ?_⟩;clear hN N;have e12:=e1.trans e2;refine⟨[.ref p,.ref r1],.cons rfl (.cons rfl .nil),?_⟩;have fa:=MG g2 ok.len fw;have hh:(g^(mf-1)).toNat=0#9/0#2:=by rw[<-hn,cp]
 refine⟨_,rfl,r1,g,lf,tf,mf,lf,tf,mf,rfl,ok1.same e2,fa,λ_ H3 e3=>⟨eU (AW (show 1<=1000 by decide)),λa ha=>?_⟩,λz=>by lia⟩;rw[hh];have e4:=AG.new ha (.lst [V.int (2^(0#9/0#2)-1)]);have a4:AZ H3 a (.lst [V.int (2^(0#9/0#2)-1)]) a=some (.lst ([Eg g tf].map 1#0)):=AC;have e24:=e3.trans e4;generalize AZ H3 a (.lst [V.int (2^(0#9/0#2)-1)])=H4 at e4 a4 e24⊢;clear ha;have e14:=e12.trans e24;refine⟨tb.same e14,λf H5 s5 tb5 hf la=>?_⟩;obtain⟨pm,c',ctv,oc,l1,l2,l3⟩:=la;dsimp only[Kl];intro H6 e6 n6 ck6 o6;have ab:=s5.get (tb.same e14) a4 (λ_ z=>by cases z);have ok5:=(ok1.same (e2.trans e24)).sameT s5 (tb.same e14);have sl5:=(sl.same e24).sameT s5 (tb.same e14);have ok6:=ok5.same e6;have sl6:=sl5.same e6;have s56:∀{HA:Hp},AG H6 HA->AG H5 (Jf [("singles",0#1+1+1),("framed",0#1+1)] HA):=λeA=>Tj n6 (e6.trans eA)
 refine⟨a,f,[Eg g tf],2^(0#9/0#2),BJ g tf,rfl,Aa.of (e6 _ _ ab),(show 1<=100 by decide),Me h9,λs hs=>by rw[ce.mp hs];exact Tq g tf,OP g9 tf,OQ (k:=1) (x1:="some") (fns:=["singles","framed"]) (KQ.same ⟨pm,c',ctv,oc,l1,l2,l3⟩ e6) ck6 ⟨rfl,rfl,rfl,by decide,λx hx=>by rw[ce.mp hx];exact .inr rfl,λx hx=>by rcases dD.mp hx with z|z;rw[z];rfl;rw[ce.mp z];rfl,by decide +kernel,by decide +kernel⟩ rfl ?N (λ_ _ _=>b1 λ_=>rfl) λc2 A2 outer2 s2 HA x hr x0 x1 eA=>⟨_,(C7 [(0,"some"),(1,"singles")] [("some",_),("singles",_)] (Aj rfl T.z_range (AA (AL 3#5 1#9 AE (λ_ _=>rfl)) AB)) (λ_ _ _ _=>Cs) (λ_ _ _ _=>(AM hr (aD T) T.d_51.1 (AA 1#9 (AA 0#8 1#1))))),?B⟩,λd H7 ls A e7 hd hls hd7 g7 rp lA=>?_⟩
 case N=>exact d7.mpr ⟨λz=>qG (ce.mp z) (by show 0#1+1+1≠0#1+1;lia),d7.mpr ⟨cu,fP⟩⟩
 case B =>
  intro QB qB;have eB:=s56 eA;obtain⟨tb',v1,v2⟩:=(ok5.same eB).v;have slB:=sl5.same eB;generalize Jf [("singles",0#1+1+1),("framed",0#1+1)] HA=HB at eB v1 v2 slB qB⊢;refine⟨_,rfl,r1,_,0,_,rfl,rfl,Ai.of v1,rfl,_,rfl,by lia,by lia,λD hD=>?_⟩;refine Bb (n:=0#2) (λi j5 Hx=>j5=((List.range i).map λs:Nat=>Fl g.toNat tf (0#9/0#2) x (s:Int)).map 1#0/\AG HB Hx/\Hx D=some 5#0) ⟨rfl,AG.new hD _,AC⟩ ?_ ?_
  ·refine Dg ?_;rintro i _ hGo j5 Hx hi ⟨rfl,ex,hDx⟩;ac_rfl;dsimp only[SE];rw[qF rfl];refine⟨_,rfl,_,rfl,_,rfl,p,ps,0#2,tf,0#9/0#2,x,i,?_,slB.same ex,x0,hi,λH8 e8=>⟨e8 _ _ hDx,?_,?_,(ex.trans e8).into hD,AC⟩⟩
   ·rw[dO];rfl
   ·rw[cU,cU,dL];exact AW (by lia)
   ·rw[BE,cq];rfl
  ·refine Dh ?_;rintro _ hGo j5 H8 ⟨rfl,e8,h8⟩;ac_rfl;clear hGo;exact qB D _ e8 hD h8
 have e57:=s56 e7
 have out:∀{b:qR},H6 b=none->b∉Bv [(("singles":Str),0#1+1+1),("framed",0#1+1)]:=λ{b} h z=>by obtain⟨_,_,_,y⟩:=ck6.at z;rw[h]at y;cases y
 have fr:∀{b:qR},H6 b=none->H b=none:=λh=>e14.free (s5.free tb5 (e6.free h))
 exact hsm s9 d _ ls A ((e14.t.trans s5).trans e57.t) (tb5.same e57) (fr hd) (λl hl=>fr (hls l hl)) (by rw[Bz (out hd)];exact hd7) ⟨g7.n,g7.nd,λi b l h1 h2=>by rw[Bz (out (hls l (cw h2)))];exact g7.e i b l h1 h2⟩ rp lA
theorem UJ:AJ ["one","nexts","left"] ["one"] (AH YV):=CB
theorem aU(T:B8 K mg t)(hB:FD mg base):B2 P w K mg base 12 t.f_16 ["one"] (T0 t.c_46 LP t.p_7):=by
 refine Fk T.d_16.2 UJ λvs H Q E h=>?_;obtain⟨r,g,lo,dl,m,lf,tf,mf,rfl,ok,fw,tb,hsm,hbig⟩:=h;symm
 refine⟨_,(AD (AQ 1 UJ (Bh (cE T hB) (hr.mono (by decide)) rfl T.m_7 BQ 1#1))
  (AD (AQ 2 UJ (AM hr (cD T) T.d_6.1 (AA 0#8 (AA (A7 19#8) AB))))
  (AF (AO (C7 [(1,"nexts"),(2,"left")] [("nexts",_),("left",_)] (NI K (Td rfl rfl T.z_sorted 2#0 (Ub Jy Wy))) (λ_ _ _ _=>Cs) (λ_ _ _ _=>(DA (AA 0#6 (AA (K2 8#9 0#8 0#6 (λ_ _=>rfl)) (AA (Sj 8#9 1#9 0#6 ⟨rfl,rfl,rfl,rfl⟩) AB)))))))))),?_⟩
 have g2:=ok.g2;have g9:=ok.g9;obtain⟨hn,hl⟩:=Hd g2 ok.len fw;nofun;refine⟨r,g,lo,dl,m,lf,tf,mf,rfl,ok,fw,tb,λs9 d H1 ls A s1 tb1 hd hls w1 g1 rp lA=>hN _ _ ?_,hbig⟩;clear hN N;have h9:0#9/0#2<=9:=by lia
 have ok1:=ok.sameT s1 tb;have cA:4#3<=512:=dM (HD rp.nd lA) (Me h9);nofun;refine⟨by decide,λe he=>?_⟩;have e1:=AG.new he (.lst [V.int 0]);refine⟨d,e,ls,A,BJ g tf,[0],rfl,.inl (e1 _ _ w1),g1.same e1,rp.nd,rp.cl,cA,λa _=>by rw[Eb];lia,AC,by decide,λo H2 d2 M f e2 hd2 w2 fi=>hN _ _ ?_⟩;clear hN N;have s2:CI t.p_7 H H2:=((s1.trans e1.t).into hd _).trans e2.t;have tb2:Bl LP (Jt "sets_reached") t.p_7 H2:=((tb1.same e1).into (e1 _ _ w1) (λ_ z=>by cases z) (λ_ z=>by cases z)).same e2;have dZ:H2 d=some (.frz o 13#2):=e2 _ _ AC;have dn:d∉ls:=g1.out λxs z=>by rw[w1]at z;cases z
 have g2':=((g1.same e1).keep dn (.frz o 13#2)).same e2;ac_nf;refine⟨_,rfl,d,_,A,true,rfl,rfl,.inr ⟨o,dZ⟩,Mo (by rw[cU];exact g1.n),λl Z hl' pZ=>⟨l,rfl,⟨_,Aa.of AC⟩,λD hD=>?_⟩⟩;have e3:=AG.new hl' (.lst (Z.map 1#0));have z3:AZ H2 l (.lst (Z.map 1#0)) l=some (.lst (Z.map 1#0)):=AC;generalize AZ H2 l (.lst (Z.map 1#0))=H3 at e3 z3 hD⊢;have s3:=s2.trans e3.t;have tb3:=tb2.same e3;have d3:=e3 _ _ dZ;have w3:=e3 _ _ w2;have g3:=g2'.same e3
 have nx:∀{HX:Hp} {x:Int},AG H3 HX->x∈A->∃l,Fd HX d (.int x) (some 16#8)/\H3 l=some (.lst ((BJ g tf x).map 1#0)):=λ{HX x} e hx=>by obtain⟨i,hi⟩:=G7 hx;obtain⟨l,hl⟩:=Md g3.n hi;exact⟨l,.inl ⟨_,Sum.inl x,.inr ⟨o,e _ _ d3⟩,rfl,by rw[Cd rp.nd hi (by rw[cn,hl];rfl)]⟩,g3.e i x l hi hl⟩
 have lZ:Z.length=4#3:=pZ.length_eq;refine D5 (xs:=Z.map 1#0) (λi j5 Hx=>∃ts:List qR,j5=ts.map 20#2/\ts.length=i/\AG H3 Hx/\Hx D=some 5#0/\∀(j:Nat) (t:qR) (z:Int),ts[j]?=some t->Z[j]?=some z->∃l,Hx t=some (.tup [.int z,.ref l,Y2 (Ju M f z)])/\H3 l=some (.lst ((BJ g tf z).map 1#0))) ⟨[],rfl,rfl,AG.new hD _,AC,λj t z h=>by simp at h⟩ (λi j5 Hx _ z=>by obtain⟨_,_,_,e,_⟩:=z;exact Aa.of (e _ _ z3)) ?_ ?_
 ·refine Jc ?_;rintro i v _ hGo j5 Hx hv ⟨ts,rfl,tl,ex,hDx,hts⟩;ac_rfl;obtain⟨x,hx,rfl⟩:=CK hv;have xi:=(cW.mp hx).1;obtain⟨l2,dg,hl2⟩:=nx ex (pZ.mem_iff.mp (cw hx));dsimp only[SE];rw[qF rfl];refine⟨_,rfl,_,rfl,_,rfl,d,.ref l2,rfl,dg,_,rfl,d2,rfl,.inl ⟨_,.inl (ex _ _ w3)⟩,_,rfl,_,Fd.k (k:=Sum.inl x) (ex _ _ w3),eU (AW (show 3<=1000 by decide)),λt ht=>?_⟩;rw[Vb fi.nd];have f4:=AG.new ht (.tup [V.int x,.ref l2,Y2 (Ju M f x)]);have tD:D≠t:=λz=>by rw[<-z,hDx]at ht;cases ht
  refine⟨f4 _ _ hDx,by rw[cU];exact AW (by lia),ts++[t],by rw[cq];rfl,by rw[cg,tl];rfl,(ex.trans f4).into hD,AC,λj t' z h1 h2=>?_⟩
  by_cases jl:j<ts.length
  ·rw[df jl]at h1;obtain⟨l,k1,k2⟩:=hts j t' z h1 h2;exact⟨l,by rw[AI λy=>by rw[y,hDx]at k1;cases k1];exact f4 _ _ k1,k2⟩
  ·rw[dC (by lia)]at h1
   obtain⟨y1,y2⟩:j=ts.length/\t=t':=by
    rcases Nat.eq_zero_or_pos (j-ts.length) with z|z
    ·rw[z]at h1;exact⟨by lia,Option.some.inj h1⟩
    ·rw[List.getElem?_eq_none (by simp only[List.length_singleton];lia)]at h1;cases h1
   subst y2;rw[y1,tl,hx]at h2;cases h2;exact⟨l2,by rw[AI (Ne.symm tD)];exact AC,hl2⟩
 ·refine Dh ?_;rintro _ hGo j5 Hx ⟨ts,rfl,tl,ex,hDx,hts⟩;ac_rfl;clear hGo;refine hsm s9 A M f Z rp fi pZ D Hx (s3.trans ex.t) (tb3.same ex) (s3.free tb3 hD) ⟨ts,hDx,by rw[tl,cU],λj t z h1 h2=>by obtain⟨l,k1,k2⟩:=hts j t z h1 h2;exact⟨l,k1,ex _ _ k2⟩⟩
theorem aV:AJ ["one"] ["one"] (AH YW):=CB
theorem Wc(T:B8 K mg t)(hB:FD mg base):B2 P w K mg base 13 t.f_72 ["one"] (Po t.c_46 LP t.p_7):=by
 refine Fk T.d_72.2 aV λvs H Q E h=>?_;obtain⟨r,g,lo,dl,m,lf,tf,mf,rfl,ok,fw,tb,hsm,hbig⟩:=h;symm;refine⟨_,(AF (AO (DI RZ (AL 3#5 (AL 3#7 (Bh (aU T hB) (hr.mono (by decide)) rfl T.d_16.1 BQ 1#1) AE (λ_ _=>rfl)) AE (λ_ _=>rfl)) Cg (AU _)))),?_⟩;ac_nf;refine⟨r,g,lo,dl,m,lf,tf,mf,rfl,ok,fw,tb,λs9 A M f Z rp fi pZ p H1 s1 tb1 hp pv=>?_,hbig⟩;have g2:=ok.g2;obtain⟨_,fl⟩:=fw.alike g2 20#4
 have h0:0<0#9/0#2:=by have:=Ao g2 fl (by have:=fw.two;lia);have:=RW.Ad g2 (mf-1);lia
 have fA:=rp.st _ 10#3
 obtain⟨z0,Z',rfl⟩:∃z0 Z',Z=z0::Z':=by
  cases Z with
  |nil=>exact qG (pZ.mem_iff.mpr fA) cu
  |cons a b=>exact⟨a,b,rfl⟩
 have zA:=pZ.mem_iff.mp (dH ..);obtain⟨ts,h1,h2,h3⟩:=pv
 obtain⟨t0,ts',rfl⟩:∃t0 ts',ts=t0::ts':=by
  cases ts with
  |nil=>simp at h2
  |cons a b=>exact⟨a,b,rfl⟩
 obtain⟨l,k1,k2⟩:=h3 0 t0 _ rfl rfl;refine (B1 (v:=V.ref t0) (Aa.of h1) (show Jk _ ((0:Nat):Int)=_ from CS rfl) (C9 (Ai.of k1) rfl ?_))
 have e:decide (Y2 (Ju M f z0)=V.non)=decide (z0∉M):=by
  unfold Ju
  by_cases z:z0∈M
  ·rw[qF z,qI (λy=>by cases y),qI (λy=>y z)]
  ·rw[qE z,qH (show Y2 none=V.non from rfl),qH z]
 try dsimp only
 rw[e];refine hsm s9 _ ?_ H1 s1 tb1;rw[decide_eq_true_iff];exact Va g2 h0 rp fi zA
theorem cF:AJ ["_law_script","_law_k"] ["_law_script","_law_k"] (AH bq):=CB
theorem Vh(T:B8 K mg t) :B2 P w K mg base 1 t.f_4 ["_law_script","_law_k"] (SB K):=by
 refine Am T.d_4.2 cF λvs H Q E h=>?_;obtain⟨a,ns,k,rfl,hS,h63,q⟩:=h;symm
 refine⟨_,(AD (BK (AR Dy 0#8 21#4 (AU _)) (AF (AO (AL 3#7 0#6 0#8 (λ_ _=>rfl)))) Af)
  (AF (AO AE))),?_⟩
 ac_nf;refine⟨_,.inl hS,?_⟩;rw[cU]
 by_cases h:(k:Int)<(ns.length:Int)
 ·rw[qF h];have hk:k<1#6:=by lia
  refine⟨a,_,k,.int (ns.getD k 0),rfl,rfl,hS,CS ?_,q⟩;rw[cn,cX hk,cV,cX hk];rfl
 ·rw[qE h];have e:ns.getD k 0=0:=by rw[cV,iB (by lia)];rfl
  rw[e]at q;exact q
theorem ND:AJ ["_law_cell","_law_many","_law_found","_law_number","_law_k"] ["_law_cell","_law_many"] (AH YX):=CB
theorem Wd(T:B8 K mg t) :B2 P w K mg base 1 t.f_12 ["_law_cell","_law_many"] (Kc):=by
 refine Am T.d_12.2 ND λvs H Q E h=>?_;obtain⟨c,m,rfl,m0,m3,q⟩:=h;symm
 refine⟨_,(AD (AQ 2 ND 11#5)
  (AD (AQ 3 ND (AK A3 (AK A9 0#6 AE) AE))
  (AD (A6 PassesOwn.never rfl 21#6 (BF 4 ND) (AD (AQ 3 ND (AK A9 (AK A3 (AK A3 (AK CJ 2#7 AE) (AK CJ 5#6 5#6)) AE) AE))
  (AF (Ax (LL K 1#9 (AA (AK Bx 2#7 AE) AB))))))
  (AF (AO 1#9))))),?_⟩
 ac_nf;refine⟨dz _,λp hp=>⟨by decide,?_⟩⟩;refine⟨_,rfl,m,rfl,by lia,by lia,?_⟩;refine BN (n:=14#4) (λi σ H1=>∃(l:qW) (x3:Int) (x4:Option V),(7#6=i/\∀x∈l,0<=x/\x<2147483647)/\σ=[some (.int c),some (.int m),some 1#5,some (.int x3),x4]/\H1=AZ H p (.lst (l.map 1#0))) ⟨[],_,none,⟨rfl,λx h=>by cases h⟩,rfl,rfl⟩ ?_ ?_
 ·refine Ds ?_;rintro _ _ i _ hGo σ H1 hi ⟨l,x3,x4,⟨hl,hb⟩,rfl,rfl⟩;ac_rfl;ac_nf;refine⟨.inr ⟨by decide,by decide⟩,.inl ⟨by lia,by lia⟩,by decide,.inl ⟨_,Aa.of AC⟩,by decide,by decide,_,AC,?_,l++[(x3*48271+(0+(i:Int))*(0+(i:Int))+11)%2147483647/7],?_,λx hx=>?_,?_⟩
  ·rw[cU];exact AW (by lia)
  ·rw[cg,hl];rfl
  ·rcases cZ.mp hx with y|y
   ·exact hb x y
   ·rw[ce.mp y];generalize x3*48271+(0+(i:Int))*(0+(i:Int))+11=u;lia
  ·rw[EJ,cq];rfl
 ·refine Dh ?_;rintro _ hGo σ H1 ⟨l,x3,x4,⟨hl,hb⟩,rfl,rfl⟩;ac_rfl;clear hGo;ac_nf;exact q p _ l hl hb (AG.new hp _) hp AC
theorem P9:AJ ["_law_signs","_law_many","_law_size_here","_law_k"] ["_law_signs","_law_many"] (AH YY):=CB
theorem We(T:B8 K mg t) :B2 P w K mg base 1 t.f_32 ["_law_signs","_law_many"] (SW):=by
 refine Am T.d_32.2 P9 λvs H Q E h=>?_;obtain⟨g,m,rfl,g2,g9,m3,q⟩:=h;symm
 refine⟨_,(AD (AQ 2 P9 AE)
  (AD (A6 PassesOwn.never rfl 21#6 (BF 3 P9) (AF (AQ 2 P9 (AK CJ 1#9 0#6))))
  (AF (AO 1#9)))),?_⟩
 ac_nf;refine⟨_,rfl,_,rfl,by lia,by lia,?_⟩;refine BN (n:=m) (λi σ H1=>∃x,σ=[some 15#3,some (.int ((m:Nat):Int)),some (.int (g^i)),x]/\H1=H) ⟨none,by rw[eV],rfl⟩ ?_ ?_
 ·refine Ds ?_;rintro _ _ i _ hGo σ H1 hi ⟨x,rfl,rfl⟩;ac_rfl;ac_nf;refine⟨.inr ⟨by lia,by lia⟩,?_⟩;rw[dj];exact⟨rfl,_,rfl⟩
 ·refine Dh ?_;rintro _ hGo σ H1 ⟨x,rfl,rfl⟩;ac_rfl;clear hGo;ac_nf;exact q
theorem UK:AJ ["_law_one","_law_many"] ["_law_one"] (AH YZ):=CB
theorem aW(T:B8 K mg t):B2 P w K mg base 2 t.f_11 ["_law_one"] (KE):=by
 refine Am T.d_11.2 UK λvs H Q E h=>?_;obtain⟨r,g,lo,dl,m,rfl,ok,q⟩:=h;symm
 refine⟨_,(AD (AQ 1 UK AE)
  (AD (C4 PassesOwn.never (AR Dy (AM hr (We T) T.d_32.1 (AA (AL 3#5 0#6 AE (λ_ _=>rfl)) 2#0)) (As 21#1 rfl T.z_len dm (AA (AL 3#5 0#6 AE (λ_ _=>rfl)) AB)) (AU _)) (AF (AQ 1 UK (AK A3 0#8 AE))))
  21#9)),?_⟩
 refine A8.el ok.v λtb h1 h2=>?_;have g2:=ok.g2;have g9:=ok.g9;have m1:=ok.m1;have m8:=ok.m8;have hl:=20#4;have sz:=ok.sz;have hlm:(dl.map 1#0).length=0#0:=cU ..;ac_nf
 refine Er (λσ H1=>∃i:Nat,1<=i/\i<=m/\σ=[some 2#4,some (.int ((i:Nat):Int))]/\H1=H)
  (λ(σ:St) (H1:Hp)=>match σ[1]? with|some (some (V.int x))=>m-x.toNat|_=>0) ⟨1,cj _,m1,rfl,rfl⟩ ?_ ?_
 ·refine Dh ?_;rintro _ hGo σ H1 ⟨i,i1,im,rfl,rfl⟩;ac_rfl;clear hGo;have pi:=CO g2 im;ac_nf;refine (C9 5#4 rfl ⟨g,i,rfl,g2,g9,by lia,?_⟩);refine (C9 5#4 rfl ⟨tb,rfl,_,.inr (Ai.of h2),_,rfl,?_⟩);rw[hlm,hl]
  by_cases him:i<m
  ·rw[qF (Nd g2 him)];exact⟨⟨i+1,by lia,by lia,by lia,rfl⟩,by lia⟩
  ·have:i=m:=by lia
   subst this;rw[qE (Int.lt_irrefl _)];exact q
 ·intro σ H1 Q1 Q2 hq;ac_nf;rintro⟨v,c1,p,xs,k,w,e1,e2,e3,e4,v2,c2,gg,mm',e5,a1,a2,a3,v3,c3,p',xs',k',w',e6,e7,e8,e9,q',e10,y,hy,i,e11,c6⟩;exact⟨v,c1,p,xs,k,w,e1,e2,e3,e4,v2,c2,gg,mm',e5,a1,a2,a3,v3,c3,p',xs',k',w',e6,e7,e8,e9,q',e10,y,hy,i,e11,hq _ _ c6⟩
theorem QC:AJ ["_law_number","_law_signs","_law_many","_law_word_here","_law_k"] ["_law_number","_law_signs","_law_many"] (AH Ya):=CB
theorem aY(T:B8 K mg t) :B2 P w K mg base 1 t.f_33 ["_law_number","_law_signs","_law_many"] (Ow):=by
 refine Am T.d_33.2 QC λvs H Q E h=>?_;obtain⟨n,g,m,rfl,g2,g9,m0,m3,q⟩:=h;symm
 refine⟨_,(AD (AQ 3 QC 11#5)
  (AD (A6 PassesOwn.never rfl (Aj rfl T.z_range 4#9) (BF 4 QC) (AD (Ax (LL K 2#7 (AA (AK A9 0#6 0#8) AB)))
  (AF (AQ 0 QC (AK Bx 0#6 0#8)))))
  (AF (AO 20#1)))),?_⟩
 ac_nf;refine⟨dz _,λp hp=>?_⟩;refine⟨_,rfl,m,rfl,by lia,by lia,?_⟩;refine BN (n:=14#4) (λi σ H1=>∃x4,σ=[some (.int (dr g n i)),some 15#3,some (.int m),some 1#5,x4]/\AG H H1/\H1 p=some (.lst ((Ce g n i).map 1#0))) ⟨none,rfl,AG.new hp _,AC⟩ ?_ ?_
 ·refine Ds ?_;rintro _ _ i _ hGo σ H1 hi ⟨x4,rfl,e,hp1⟩;ac_rfl;ac_nf;refine⟨.inl ⟨_,Aa.of hp1⟩,by lia,_,hp1,?_,by lia,by lia,rfl,e.into hp,?_⟩
  ·rw[cU,CA];exact AW (by lia)
  ·rw[AC,Ce,cq];rfl
 ·refine Dh ?_;rintro _ hGo σ H1 ⟨x4,rfl,e,hp1⟩;ac_rfl;clear hGo;ac_nf;refine⟨_,Aa.of hp1,λp2 hp2=>q p2 _ ⟨e.trans (AG.new hp2 _),e.free hp2,?_⟩⟩;rw[AC,<-iR];rfl
theorem OV:AJ ["_law_one","_law_ring","_law_many","_law_found","_law_i","_law_at","_law_j"] ["_law_one","_law_ring"] (AH br):=CB
theorem Ys(T:B8 K mg t):B2 P w K mg base 3 t.f_2 ["_law_one","_law_ring"] (Ke K):=by
 refine Am T.d_2.2 OV λvs H Q E h=>?_;obtain⟨r,a,g,lo,dl,m,ns,rfl,ok,hS,hb,n1,n3,q⟩:=h;symm
 refine⟨_,(AD (AQ 2 OV (AM hr (aW T) T.d_11.1 1#1))
  (AD (AQ 3 OV 11#5)
  (AD (A6 PassesOwn.never rfl (Aj rfl T.z_range (AA 21#2 AB)) (BF 4 OV) (AD (AQ 5 OV AE)
  (AD (A6 PassesOwn.never rfl (Aj rfl T.z_range 4#9) (BF 6 OV) (AF (AQ 5 OV (AK A3 (AK CJ 8#8 (AL 3#5 0#6 AE (λ_ _=>rfl))) (AL 3#7 0#8 (AK A9 (AK A3 (AK A3 5#6 (AL 3#5 0#6 AE (λ_ _=>rfl))) 20#0) 21#2) (λ_ _=>rfl))))))
  (AF (Ax (LL K 2#7 (AA (AL 3#5 (AL 3#5 0#6 AE (λ_ _=>rfl)) 8#8 (λ_ _=>rfl)) AB)))))))
  (AF (AO 2#7))))),?_⟩
 refine A8.el ok.v λtb h1 h2=>?_;have g2:=ok.g2;have g9:=ok.g9;have m8:=ok.m8;have hl:=20#4;have hns:(ns.map 1#0).length=1#6:=cU ..;ac_nf;refine⟨r,g,lo,dl,m,rfl,ok,dz _,λp hp=>?_⟩;refine⟨_,rfl,a,rfl,_,.inl ((AG.new hp _).seq hS),_,rfl,?_,?_,?_⟩
 ·lia
 ·lia
 rw[hns];refine BN (n:=1#6) (λi σ H1=>∃x4 x5 x6,σ=[some 2#4,some 2#6,some (.int ((m:Nat):Int)),some 1#5,x4,x5,x6]/\H1=AZ H p (.lst (((List.range i).map (λi:Nat=>dl.getD (An g (Bp ns m ((i:Int)+lo))).toNat 0)).map 1#0))) ⟨none,none,none,rfl,rfl⟩ ?_ ?_
 ·refine Ds ?_;rintro _ _ i _ hGo σ H1 hi ⟨x4,x5,x6,rfl,rfl⟩;ac_rfl;ac_nf;have ei:(0:Int)+(i:Int)=((i:Nat):Int):=by lia
  rw[ei];have ex:=AG.new hp (.lst (((List.range i).map (λi:Nat=>dl.getD (An g (Bp ns m ((i:Int)+lo))).toNat 0)).map 1#0));have wl:=DN ns m ((i:Int)+lo);have wb:=Lk g2 hb m ((i:Int)+lo);have nb:=BR g2 wb;rw[wl,<-hl]at nb;refine⟨_,rfl,_,rfl,by lia,by lia,?_⟩;refine BN (n:=m) (λj σ H2=>(∃x6,σ=[some 2#4,some 2#6,some (.int ((m:Nat):Int)),some 1#5,some (.int ((i:Nat):Int)),some (.int (An g ((Bp ns m ((i:Int)+lo)).take j))),x6])/\H2=AZ H p (.lst (((List.range i).map (λi:Nat=>dl.getD (An g (Bp ns m ((i:Int)+lo))).toNat 0)).map 1#0))) ⟨⟨_,rfl⟩,rfl⟩ ?_ ?_
  ·refine Ds ?_;rintro _ _ j _ hGo σ H2 hj ⟨⟨x6,rfl⟩,rfl⟩;ac_rfl;ac_nf;refine (C9 (Ai.of (ex _ _ h1)) rfl ?_);ac_nf;have gj:(Bp ns m ((i:Int)+lo))[j]?=some (CV ns ((i:Int)+lo+(j:Int))):=by unfold Bp;rw[cn,gc hj];rfl
   have rz:=Kz (z:=(i:Int)+lo+(j:Int)) n1;refine⟨.inr ⟨by lia,by lia⟩,C9 (Ai.of (ex _ _ h1)) rfl ⟨lo,rfl,_,.inl (ex.seq hS),by rw[hns];lia,?_⟩⟩;rw[hns,dO];refine⟨a,_,_,_,rfl,rfl,ex.seq hS,E2 (by lia) rz.1,_,rfl,?_,⟨_,rfl⟩,rfl⟩;rw[Ia gj];rfl
  ·refine Dh ?_;rintro _ hGo σ H2 ⟨⟨x6,rfl⟩,rfl⟩;ac_rfl;clear hGo;have tk:(Bp ns m ((i:Int)+lo)).take m=Bp ns m ((i:Int)+lo):=fO (by lia);rw[tk];ac_nf;refine⟨.inl ⟨_,Aa.of AC⟩,C9 (Ai.of (ex _ _ h1)) rfl (C9 (Ai.of (ex _ _ h2)) (E2 nb.1 (by lia)) ⟨_,AC,?_,⟨_,rfl⟩,?_⟩)⟩
   ·rw[cU,cU,dL];exact AW (by lia)
   rw[EJ,BE,cq];rfl
 ·refine Dh ?_;rintro _ hGo σ H1 ⟨x4,x5,x6,rfl,rfl⟩;ac_rfl;clear hGo;ac_nf;exact q p _ ⟨AG.new hp _,hp,AC⟩
theorem Kh:AJ ["_law_signs","_law_xs","_law_wide","_law_other","_law_names","_law_k","_law_at"] ["_law_signs","_law_xs"] (AH Yc):=CB
theorem aZ(T:B8 K mg t) :B2 P w K mg base 1 t.f_13 ["_law_signs","_law_xs"] (Ms):=by
 refine Am T.d_13.2 Kh λvs H Q E h=>?_;obtain⟨G,x,xs,rfl,hG,hx,q⟩:=h;symm;refine Pi ?_
 refine⟨_,(Ae (BP (i:=2) Kh.nd rfl 3#8 (Iu 3#7 (EV (AN (AN (AN (AN (AN (AN (AN (AN (AN (AN Ch))))))))))) (.of 0#6) (λ_ _=>rfl)) rfl (by first|exact .inl rfl|exact .inr rfl))
  (Ae (BP (i:=3) Kh.nd rfl 10#5 (.of (AK Bx 0#6 1#9)) rfl (by first|exact .inl rfl|exact .inr rfl))
  (Ae (BP (i:=4) Kh.nd rfl 10#5 (.of (QT rfl rfl T.z_range rfl T.z_list 1#1)) rfl (by first|exact .inl rfl|exact .inr rfl))
  (Ae (.of (A6 PassesOwn.never rfl (Aj rfl T.z_range (AA (AK BX 0#6 AE) AB)) (BF 5 Kh) (AD (AQ 6 Kh (AK A3 8#8 (AK A9 (AL 3#7 0#8 8#8 (λ_ _=>rfl)) (AK BX 0#6 8#8))))
  (AF (Wr (DA (AA (AL 3#7 5#6 20#0 (λ_ _=>rfl)) (AA (AL 3#7 5#6 8#8 (λ_ _=>rfl)) AB))) (Ep rfl (BV (RO 5#6 8#8 LU) (BV (RO 5#6 20#0 LU) Dl))))))))
  (B7 (.of (AO (C7 [(0,"_law_signs"),(3,"_law_other"),(4,"_law_names")] [("_law_signs",_),("_law_other",_),("_law_names",_)] (Aj rfl T.z_range (AA (AK CJ 0#6 0#6) AB)) (λ_ _ _ _=>Cs) (λ_ _ _ _=>(AL (DY (K:=K) rfl) 2#7 (AK A3 (AK CJ (AK Bx (AK Bx 0#6 0#8) 1#9) 1#9) (AK A9 (AK A9 0#6 0#8) 1#9)) (λ_ _=>rfl))))))))))),?_⟩
 obtain⟨wd,ot,aw,eg,wd2,ot2⟩:∃wd ot:Nat,Jk [V.int 0,V.int 0,V.int 0,V.int 0,V.int 2,V.int 0,V.int 2,V.int 0,V.int 4,V.int 3] (G:Int)=some (.int (wd:Int))/\G=wd*ot/\2<=wd/\2<=ot:=by
  rcases hG with rfl|rfl|rfl|rfl
  ·exact⟨2,2,rfl,rfl,by decide,by decide⟩
  ·exact⟨2,3,rfl,rfl,by decide,by decide⟩
  ·exact⟨4,2,rfl,rfl,by decide,by decide⟩
  ·exact⟨3,3,rfl,rfl,by decide,by decide⟩
 have G9:4<=G/\G<=9:=by lia
 have wd9:wd<=9:=by have:=Nat.mul_le_mul_left wd ot2;lia
 have ot9:ot<=9:=by have:=gK ot wd2;lia
 nofun;refine⟨by decide,λp hp=>(B1 (Aa.of AC) aw (hN _ _ ?_))⟩;clear hN N;refine EO (λHX=>AG H HX) (AG.new hp _) ?_;clear hp aw p;rintro H1 e1;nofun;have dv:(G:Int)/(wd:Int)=(ot:Int):=by rw[eg,eS,ej,Int.mul_ediv_cancel _ (by lia)]
 rw[dv];refine⟨by lia,by lia,hN _ _ ?_⟩;clear hN N dv;nofun;refine⟨by lia,by lia,λp hp=>hN _ _ ?_⟩;clear hN N;rw[cp]
 have u0:∀n∈NV G,0<=n/\n<(G:Int):=λn hn=>by obtain⟨k,hk,rfl⟩:=dG.mp hn;have:=dA.mp hk;lia
 refine Bw (λσ HX=>∃(us:qW) (x5 x6:Option V),σ=[some (.int (G:Int)),some 9#5,some (.int (wd:Int)),some (.int (ot:Int)),some 1#5,x5,x6]/\AG H1 HX/\HX p=some (.lst 18#6)/\6#1=G/\∀n∈us,0<=n/\n<(G:Int)) (λN hN=>?_) ?_
 ·refine⟨_,rfl,_,_,rfl,rfl,_,rfl,by lia,by lia,?_⟩;rw[show ((G:Int)-1).toNat=G-1 by lia];refine BN (n:=G-1) (λi σ HX=>∃(us:qW) (x5 x6:Option V),σ=[some (.int (G:Int)),some 9#5,some (.int (wd:Int)),some (.int (ot:Int)),some 1#5,x5,x6]/\AG H1 HX/\HX p=some (.lst 18#6)/\6#1=G/\∀n∈us,0<=n/\n<(G:Int)) ⟨NV G,none,none,rfl,AG.new hp _,AC,GL _,u0⟩ ?_ ?_
  ·refine Ds ?_;rintro _ _ i _ hGo σ HX hi ⟨us,x5,x6,rfl,eX,hpX,ul,ub⟩;ac_rfl;obtain⟨ai,bi,_⟩:=hx.at (j:=i) (by lia);have hxX:=(hx.same (e1.trans eX)).1;ac_nf;rw[dO];have z0:=fe (xs.getD i 0) (show (G:Int)-(i:Int)≠0 by lia);have z1:=fN (xs.getD i 0) (show 0<(G:Int)-(i:Int) by lia);obtain⟨a,ha⟩:∃a:Nat,(a:Int)=(i:Int)+xs.getD i 0%((G:Int)-(i:Int)):=⟨((i:Int)+xs.getD i 0%((G:Int)-(i:Int))).toNat,by lia⟩;refine (B1 (Aa.of hxX) ai ⟨_,rfl,by lia,?_⟩);rw[<-ha];have uset:∀{us:qW} {j:Nat} {v:Int},(∀n∈us,0<=n/\n<(G:Int))->0<=v/\v<(G:Int)->∀n∈us.set j v,0<=n/\n<(G:Int):=λh hv n hn=>(List.mem_or_eq_of_mem_set hn).elim (h n) λe=>by rw[e];exact hv
   have uat:∀{j:Nat},j<G->0<=us.getD j 0/\us.getD j 0<(G:Int):=λ{j} hj=>by rw[cV,cX (by lia)];exact ub _ (fQ _)
   refine (B1 (Aa.of hpX) (Dn (k:=a) (by lia)) (B1 (Aa.of hpX) (Dn (k:=i) (by lia)) ⟨by decide,λp1 hp1=>?_⟩));have pn:p≠p1:=λe=>by rw[<-e,hpX]at hp1;cases hp1
   have n1:=AG.new hp1 (.tup [V.int (us.getD a 0),V.int (us.getD i 0)]);have l1:NF (us.map 1#0).length (i:Int)=some i:=by rw[cU];exact Kx (by lia)
   have l2:NF ((us.map 1#0).set i (V.int (us.getD a 0))).length (a:Int)=some a:=by rw[hZ,cU];exact Kx (by lia)
   refine⟨p1,_,rfl,Ai.of AC,rfl,_,_,rfl,_,rfl,_,rfl,p,_,_,i,rfl,rfl,n1 _ _ hpX,l1,_,_,rfl,_,rfl,_,rfl,p,_,_,a,rfl,rfl,AC,l2,rfl,⟨_,_,rfl⟩,?_,(us.set i (us.getD a 0)).set a (us.getD i 0),?_,by rw[hZ,hZ];exact ul,uset (uset ub (uat (by lia))) (uat (by lia))⟩
   ·exact ((eX.trans n1).into hp).into hp
   ·rw[AC,List.map_set,List.map_set]
  ·rintro σ HX ⟨us,x5,x6,rfl,eX,hpX,ul,ub⟩;exact hN _ _ ⟨us,x5,x6,rfl,eX,hpX,ul,ub⟩
 rintro _ hGo σ HX ⟨us,x5,x6,rfl,eX,hpX,ul,ub⟩;ac_rfl;have gg:(G:Int)*(G:Int)=((G*G:Nat):Int):=(eS ..).symm;have gl:G*G<=81:=f6 G9.2 G9.2;refine⟨_,rfl,_,rfl,_,_,rfl,rfl,.inr ⟨by lia,by lia⟩,_,rfl,by lia,by lia,λD hD=>?_⟩;dsimp only;rw[gg,cp];refine Bb (n:=G*G) (λi j5 Hx=>Jg (G:Int) i j5/\AG HX Hx/\Hx D=some 5#0) ⟨Jg.nil,AG.new hD _,AC⟩ ?_ ?_
 ·refine Dg ?_;rintro i _ hGo j5 Hx hi ⟨sg,ex,hDx⟩;ac_rfl;ac_nf;rw[dO];have ix:(i:Int)/(G:Int)/(ot:Int)*(ot:Int)+(i:Int)%(G:Int)%(ot:Int)=((i/G/ot*ot+i%G%ot:Nat):Int):=by rw[fK,eS,gB,gB,d6,d6]
  have il:i/G/ot*ot+i%G%ot<G:=by have a1:i/G<G:=gO hi;have a2:i/G/ot<wd:=gO (by rw[gD,<-eg];exact a1);have a3:=gK ot (show i/G/ot+1<=wd by lia);have a4:=fM (i%G) (show 0<ot by lia);rw[<-eg,jI,Nat.one_mul]at a3;lia
  rw[ix];have at':=Dn (ns:=us) (k:=i/G/ot*ot+i%G%ot) (by lia);generalize i/G/ot*ot+i%G%ot=j at at' il⊢
  have uj:0<=us.getD j 0/\us.getD j 0<(G:Int):=by rw[cV,cX (by lia)];exact ub _ (fQ _)
  exact⟨by lia,by lia,by lia,by lia,.inr ⟨by lia,by lia⟩,by lia,by lia,B1 (Aa.of (ex _ _ hpX)) at' ⟨hDx,sg.len (by lia),sg.put uj.1 uj.2,ex.into hD,AC⟩⟩
 refine Dh ?_;rintro _ hGo j5 Hx ⟨sg,ex,hDx⟩;ac_rfl;clear hGo;obtain⟨dl,rfl,tl,tb⟩:=sg;exact q D dl Hx ((e1.trans eX).trans ex) hDx tl tb
theorem FI:AJ ["_law_signs","_law_xs","_law_hole","_law_beside","_law_table_here","_law_at","_law_word_here","_law_same_there","_law_here"] ["_law_signs","_law_xs"] (AH Yd):=CB
theorem aa(T:B8 K mg t):B2 P w K mg base 2 t.f_18 ["_law_signs","_law_xs"] (LJ):=by
 refine Am T.d_18.2 FI λvs H Q E h=>?_;obtain⟨G,x,xs,rfl,G2,G9,hx,q⟩:=h;symm;refine Pi ?_
 refine⟨_,(Ae (Dv (AR Cp 0#6 AE (AU _)) (Ae (BP (i:=2) FI.nd rfl 10#5 (Iu 3#7 (EV (AN (AN Ch))) (.of (AK A9 (AL 3#7 0#8 AE (λ_ _=>rfl)) AE)) (λ_ _=>rfl)) rfl (by first|exact .inl rfl|exact .inr rfl))
  (Ae (BP (i:=3) FI.nd rfl 10#5 (Iu 3#7 (EV (FT (AN (AN (AN (AN Ch)))) (FT (AN (AN (AN (AN Ch)))) (FT (AN (AN (AN (AN Ch)))) (FT (AN (AN (AN (AN Ch)))) Ch))))) (.of (AK A3 (AK CJ AE (AK BX 1#9 AE)) (AK A9 (AL 3#7 0#8 AE (λ_ _=>rfl)) AE))) (λ_ _=>rfl)) rfl (by first|exact .inl rfl|exact .inr rfl))
  (Ae (BP (i:=4) FI.nd rfl 3#8 (EV Ch) rfl (by first|exact .inl rfl|exact .inr rfl))
  (Ae (.of (A6 PassesOwn.never rfl (Aj rfl T.z_range 19#8) (BF 5 FI) (AD (AQ 6 FI (AM hr (aY T) T.d_33.1 (AA 8#8 (BH 19#8))))
  (AD (AQ 7 FI (DI (Rv hr.units) (C7 [(6,"_law_word_here"),(2,"_law_hole"),(3,"_law_beside")] [("_law_word_here",_),("_law_hole",_),("_law_beside",_)] (Aj rfl T.z_range 19#8) (λ_ _ _ _=>(Fy (PW.pt (Dt (AR HJ 0#6 1#9 (AU _)) (DH (AR HJ (AL (DY (K:=K) rfl) 0#8 0#6 (λ_ _=>rfl)) (AL (DY (K:=K) rfl) 2#7 0#6 (λ_ _=>rfl)) (AU _))))))) (λ_ _ _ _=>0#6)) 11#5 (AU _)))
  (AF (Ax (LL K 5#6 (AA (AK A9 (AK A3 (AL 3#7 20#0 1#9 (λ_ _=>rfl)) (FJ NZ rfl T.z_int PyProof.Rows.boot_int (AA (pv 7) AB))) AE) AB))))))))
  (B7 (.of (AO 5#6))))))) C0)
  (Ae (BP (i:=4) FI.nd rfl 3#8 (EV Ch) rfl (by first|exact .inl rfl|exact .inr rfl))
  (Ae (.of (A6 PassesOwn.never rfl (Aj rfl T.z_range (AA (AK CJ 0#6 0#6) AB)) (BF 5 FI) (AD (AQ 8 FI (AK Bx 8#8 0#6))
  (AD (BK (PW.pt (Dt (AR Dy (pv 8) (AK BX 0#6 AE) (AU _)) (DH (AR Cp (AK A9 8#8 0#6) (AK BX 0#6 AE) (AU _))))) (AF (AQ 8 FI (AK A9 (AK A3 (AK A3 (pv 8) AE) (AL 3#7 0#8 AE (λ_ _=>rfl))) (AK BX 0#6 AE)))) Af)
  (AF (Ax (LL K 5#6 (AA (pv 8) AB))))))))
  (B7 (.of (AO 5#6)))))),?_⟩
 refine Bw (λσ HX=>G≠2/\σ=[some (.int (G:Int)),some 9#5,none,none,none,none,none,none,none]/\HX=H) (λN hN=>?_) ?_
 ·by_cases z:G=2
  ·subst z;rw[qF rfl]at q;refine W9 (H1:=H) (λQ hQ=>by ac_nf;exact hQ) ?_
   obtain⟨h,ah,h1,h2⟩:∃h:Nat,Jk [V.int 1,V.int 2] (xs.getD 0 0%2)=some (.int (h:Int))/\1<=h/\h<=2:=by
    rcases Int.emod_two_eq (xs.getD 0 0) with y|y
    ·rw[y];exact⟨1,rfl,by decide,by decide⟩
    ·rw[y];exact⟨2,rfl,by decide,by decide⟩
   nofun;refine⟨by decide,λp hp=>(B1 (Aa.of (AG.new hp _ _ _ hx.1)) ((hx.at (j:=0) (by decide)).1) ⟨_,rfl,by decide,B1 (Aa.of AC) ah (hN _ _ ?_)⟩)⟩;clear hN N;refine EO (λHX=>AG H HX) (AG.new hp _) ?_;clear hp ah p;rintro H1 e1;nofun;refine⟨by decide,λp1 n1=>⟨by decide,λp2 n2=>⟨by decide,λp3 n3=>⟨by decide,λp4 n4=>⟨by decide,λp5 n5=>⟨.inl ⟨by decide,by decide⟩,?_⟩⟩⟩⟩⟩⟩;have a1:=AG.new n1 (.lst [V.int 0,V.int 9,V.int 1,V.int 0]);have a2:=AG.new n2 (.lst [V.int 1,V.int 9,V.int 0,V.int 1]);have a3:=AG.new n3 (.lst [V.int 0,V.int 1,V.int 9,V.int 0]);have a4:=AG.new n4 (.lst [V.int 1,V.int 0,V.int 9,V.int 1]);have a5:=AG.new n5 (.lst [V.ref p1,V.ref p2,V.ref p3,V.ref p4]);have b4:=a4.trans a5;have b3:=a3.trans b4;have b2:=a2.trans b3;have eA:=e1.trans (a1.trans b2)
   obtain⟨pb,l,aj,hb,lb⟩:∃(pb:qR) (l:qW),Jk [V.ref p1,V.ref p2,V.ref p3,V.ref p4] (2*((h:Int)-1)+xs.getD 1 0%2)=some (.ref pb)/\(AZ (AZ (AZ (AZ (AZ H1 p1 (.lst [V.int 0,V.int 9,V.int 1,V.int 0])) p2 (.lst [V.int 1,V.int 9,V.int 0,V.int 1])) p3 (.lst [V.int 0,V.int 1,V.int 9,V.int 0])) p4 (.lst [V.int 1,V.int 0,V.int 9,V.int 1])) p5 (.lst [V.ref p1,V.ref p2,V.ref p3,V.ref p4])) pb=some (.lst (l.map 1#0))/\7#6=4:=by
    obtain rfl|rfl:h=1\/h=2:=by lia
    ·rcases Int.emod_two_eq (xs.getD 1 0) with y|y
     ·rw[y];exact⟨p1,[0,9,1,0],rfl,b2 _ _ AC,rfl⟩
     ·rw[y];exact⟨p2,[1,9,0,1],rfl,b3 _ _ AC,rfl⟩
    ·rcases Int.emod_two_eq (xs.getD 1 0) with y|y
     ·rw[y];exact⟨p3,[0,1,9,0],rfl,b4 _ _ AC,rfl⟩
     ·rw[y];exact⟨p4,[1,0,9,1],rfl,a5 _ _ AC,rfl⟩
   refine (B1 (Aa.of (eA _ _ hx.1)) ((hx.at (j:=1) (by decide)).1) ⟨_,rfl,by decide,B1 (Aa.of AC) aj (hN _ _ ?_)⟩);clear hN N;refine EO (λHX=>AG H HX/\HX pb=some (.lst (l.map 1#0))) ⟨eA,hb⟩ ?_;clear aj hb eA a1 a2 a3 a4 a5 b2 b3 b4 n1 n2 n3 n4 n5 e1;rintro H2 ⟨e2,hb⟩;nofun;refine⟨dz _,λp hp=>hN _ _ ?_⟩;clear hN N;refine Bw (λσ HX=>∃(us:qW) (x5 x6 x7:Option V),σ=[some (.int ((2:Nat):Int)),some 9#5,some (.int (h:Int)),some (.ref pb),some 1#5,x5,x6,x7,none]/\AG H2 HX/\HX p=some (.lst 18#6)/\6#1=16/\∀n∈us,0<=n/\n<2) (λN hN=>?_) ?_
   ·refine⟨_,rfl,by decide,by decide,?_⟩;refine BN (n:=16) (λi σ HX=>∃(us:qW) (x5 x6 x7:Option V),σ=[some (.int ((2:Nat):Int)),some 9#5,some (.int (h:Int)),some (.ref pb),some 1#5,x5,x6,x7,none]/\AG H2 HX/\HX p=some (.lst 18#6)/\6#1=i/\∀n∈us,0<=n/\n<2) ⟨[],none,none,none,rfl,AG.new hp _,AC,rfl,λn hn=>by cases hn⟩ ?_ ?_
    ·refine Ds ?_;rintro _ _ i _ hGo σ HX hi ⟨us,x5,x6,x7,rfl,eX,hpX,ul,ub⟩;ac_rfl;nofun;refine⟨_,2,4,rfl,by decide,by decide,by decide,by decide,λpw H3 nl=>hN _ _ ?_⟩;clear hN N;have wl:(Aw 2 (0+(i:Int)) (4:Int).toNat).length=4:=BS ..;have hw:=nl.2.2;generalize Aw 2 (0+(i:Int)) (4:Int).toNat=ws at wl hw;have e3:=eX.trans nl.1;have hp3:=nl.1 _ _ hpX;have hb3:=e3 _ _ hb;clear nl;refine Bw (λσ HZ=>∃b:Bool,σ=[some (.int ((2:Nat):Int)),some 9#5,some (.int (h:Int)),some (.ref pb),some 1#5,some (.int (0+(i:Int))),some (.ref pw),some (.bl b),none]/\AG H3 HZ) (λN hN=>?_) ?_
     ·refine⟨_,rfl,by decide,by decide,λD hD=>?_⟩;refine Bb (n:=4) (λj j5 Hx=>∃vs:qW,j5=vs.map 1#0/\3#2<=j/\AG H3 Hx/\Hx D=some 5#0) ⟨[],rfl,cj _,AG.new hD _,AC⟩ ?_ ?_
      ·refine Dg ?_;rintro j _ hGo j5 Hx hj ⟨vs,rfl,vl,ex,hDx⟩;ac_rfl;ac_nf;rw[dO];have stay:∃vs_1:qW,vs.map 1#0=vs_1.map 1#0/\vs_1.length<=j+1/\AG H3 Hx/\Hx D=some (HO.lst (vs.map 1#0)):=⟨vs,rfl,by lia,ex,hDx⟩;split
       ·refine (B1 (Aa.of (ex _ _ hw)) (Dn (k:=j) (by lia)) (B1 (Aa.of (ex _ _ hb3)) (Dn (k:=j) (by lia)) ⟨rfl,?_⟩));split
        ·exact⟨hDx,AW (by rw[cU];lia),vs++[(j:Int)],by rw[cq];rfl,by rw[cg];show 3#2+1<=_;lia,ex.into hD,AC⟩
        ·exact stay
       ·exact stay
      ·refine Dh ?_;rintro _ hGo j5 Hx ⟨vs,rfl,vl,ex,hDx⟩;ac_rfl;clear hGo;refine⟨dz _,λpe he=>?_⟩;have eE:=AG.new he (.lst []);exact⟨D,pe,vs,[],rfl,rfl,Aa.of (eE _ _ hDx),Aa.of AC,hN _ _ ⟨_,rfl,ex.trans eE⟩⟩
     rintro _ hGo σ HZ ⟨b,rfl,eZ⟩;ac_rfl;have hpZ:=eZ _ _ hp3;ac_nf;refine⟨.inl ⟨_,Aa.of hpZ⟩,B1 (Aa.of (eZ _ _ hw)) (Dn (k:=h) (by lia)) ⟨_,.inr rfl,_,rfl,by decide,_,hpZ,AW (by rw[cU];lia),(e3.trans eZ).into hp,us++[_],by rw[AC,cq];rfl,by rw[cg,ul];rfl,λn hn=>?_⟩⟩;rcases cZ.mp hn with z|z
     ·exact ub n z
     ·rw[ce.mp z];exact⟨fe _ (by decide),fN _ (by decide)⟩
    ·rintro σ HX z;exact hN _ _ z
   rintro _ hGo σ HX ⟨us,x5,x6,x7,rfl,eX,hpX,ul,ub⟩;ac_rfl;exact⟨_,rfl,q p us HX (e2.trans eX) hpX ul ub⟩
  ·refine ZM (H1:=H) (λQ hQ=>by ac_nf;rw[show decide ((G:Int)=2)=false from qI (by lia)];exact hQ) ?_;exact hN _ _ ⟨z,rfl,rfl⟩
 rintro _ hGo σ HX ⟨n2,rfl,rfl⟩;ac_rfl;rw[qE n2]at q;nofun;refine⟨dz _,λp hp=>hN _ _ ?_⟩;clear hN N;have gg:(G:Int)*(G:Int)=((G*G:Nat):Int):=(eS ..).symm;have gl:G*G<=81:=f6 G9 G9;refine Bw (λσ HY=>∃(us:qW) (x5 x8:Option V),σ=[some (.int (G:Int)),some 9#5,none,none,some 1#5,x5,none,none,x8]/\AG HX HY/\HY p=some (.lst 18#6)/\6#1=G*G/\∀n∈us,0<=n/\n<(G:Int)) (λN hN=>?_) ?_
 ·refine⟨_,rfl,_,rfl,_,_,rfl,rfl,.inr ⟨by lia,by lia⟩,_,rfl,by lia,by lia,?_⟩;rw[gg,cp];refine BN (n:=G*G) (λi σ HY=>∃(us:qW) (x5 x8:Option V),σ=[some (.int (G:Int)),some 9#5,none,none,some 1#5,x5,none,none,x8]/\AG HX HY/\HY p=some (.lst 18#6)/\6#1=i/\∀n∈us,0<=n/\n<(G:Int)) ⟨[],none,none,rfl,AG.new hp _,AC,rfl,λn hn=>by cases hn⟩ ?_ ?_
  ·refine Ds ?_;rintro _ _ i _ hGo σ HY hi ⟨us,x5,x8,rfl,eY,hpY,ul,ub⟩;ac_rfl;have ll:(us.map 1#0).length<sizeLine:=AW (by rw[cU];lia);have ul':∀v:Int,(us++[v]).length=i+1:=λv=>by rw[cg,ul];rfl
   have ub':∀v:Int,0<=v->v<(G:Int)->∀n∈us++[v],0<=n/\n<(G:Int):=λv v0 v1 n hn=>by
    rcases cZ.mp hn with z|z
    ·exact ub n z
    ·rw[ce.mp z];exact⟨v0,v1⟩
   have d0:=Int.ediv_nonneg (show 0<=0+(i:Int) by lia) (show 0<=(G:Int) by lia);have d1:(0+(i:Int))/(G:Int)<(G:Int):=Int.ediv_lt_of_lt_mul (by lia) (by rw[gg];lia);ac_nf;refine⟨by lia,by lia,?_⟩;split
   ·refine⟨by lia,?_⟩;split
    ·refine (B1 (Aa.of (eY _ _ hx.1)) ((hx.at (j:=0) (by decide)).1) ⟨_,rfl,by lia,.inl ⟨_,Aa.of hpY⟩,_,hpY,ll,eY.into hp,us++[_],by rw[AC,cq];rfl,ul' _,ub' _ (fe _ (by lia)) ?_⟩);have:=fN ((0+(i:Int))/(G:Int)+1+xs.getD 0 0) (show 0<(G:Int)-1 by lia);lia
    ·exact⟨.inl ⟨_,Aa.of hpY⟩,_,hpY,ll,eY.into hp,us++[_],by rw[AC,cq];rfl,ul' _,ub' _ d0 d1⟩
   ·exact⟨.inl ⟨_,Aa.of hpY⟩,_,hpY,ll,eY.into hp,us++[_],by rw[AC,cq];rfl,ul' _,ub' _ d0 d1⟩
  ·rintro σ HY z;exact hN _ _ z
 rintro _ hGo σ HY ⟨us,x5,x8,rfl,eY,hpY,ul,ub⟩;ac_rfl;exact⟨_,rfl,q p us HY eY hpY ul ub⟩
theorem UL:AJ ["_law_way","_law_signs","_law_many","_law_xs","_law_size_here","_law_below"] ["_law_way","_law_signs","_law_many","_law_xs"] (AH Ye):=CB
theorem ae(T:B8 K mg t):B2 P w K mg base 3 t.f_19 ["_law_way","_law_signs","_law_many","_law_xs"] (Ps):=by
 refine Am T.d_19.2 UL λvs H Q E h=>?_;obtain⟨w,G,m,x,xs,rfl,w5,G2,G9,m1,m4,sz,hx,q⟩:=h;symm;refine Pi ?_
 refine⟨_,(Ae (BP (i:=4) UL.nd rfl 3#8 (.of (AM hr (We T) T.d_32.1 (AA 0#8 4#9))) rfl (by first|exact .inl rfl|exact .inr rfl))
  (Ae (Dv (AR Cp 0#6 AE (AU _)) (B7 (.of (AO (C7 [(3,"_law_xs"),(1,"_law_signs")] [("_law_xs",_),("_law_signs",_)] (Aj rfl T.z_range 10#8) (λ_ _ _ _=>Cs) (λ_ _ _ _=>(AK A9 (AK A3 (AL (DY (K:=K) rfl) 0#8 (AK Bx 0#6 1#9) (λ_ _=>rfl)) 0#6) 1#9)))))) C0)
  (Ae (Dv (AR Cp 0#6 AE (AU _)) (Ae (BP (i:=5) UL.nd rfl 10#5 (.of (AK Bx 5#6 0#8)) rfl (by first|exact .inl rfl|exact .inr rfl))
  (B7 (.of (AO (C7 [(3,"_law_xs"),(1,"_law_signs"),(5,"_law_below")] [("_law_xs",_),("_law_signs",_),("_law_below",_)] (Aj rfl T.z_range 10#8) (λ_ _ _ _=>Cs) (λ_ _ _ _=>(AK A9 (AK A3 (AL (DY (K:=K) rfl) 0#8 (AK A9 0#6 2#7) (λ_ _=>rfl)) (AK Bx 0#6 2#7)) 1#9))))))) C0)
  (Ae (Dv (PW.pt (Dt (AR Cp 0#6 AE (AU _)) (Dt (AR DU 1#9 AE (AU _)) (DH (AR QP 0#8 (DA (BH (BH (BH 19#8)))) (by with_unfolding_all rfl)))))) (B7 (.of (AO (AM hr (aZ T) T.d_13.1 (AA 0#8 7#3))))) C0)
  (Ae (Dv (PW.pt (Dt (AR Cp 0#6 AE (AU _)) (DH (PW.pt (HI (PW.pt (Dt (AR DU 1#9 AE (AU _)) (DH (AR HJ 0#8 AE (AU _))))) (Fs (AR DU 1#9 AE (AU _)))))))) (B7 (.of (AO (AM hr (aa T) T.d_18.1 (AA 0#8 7#3))))) C0)
  (Ae (Dv (AR Cp 0#6 AE (AU _)) (B7 (.of (AO (C7 [(3,"_law_xs"),(1,"_law_signs")] [("_law_xs",_),("_law_signs",_)] 21#6 (λ_ _ _ _=>Cs) (λ_ _ _ _=>(AK A9 (AK A3 0#6 (AL (DY (K:=K) rfl) 0#8 AE (λ_ _=>rfl))) 1#9)))))) C0)
  (B7 (.of (AO (C7 [(1,"_law_signs")] [("_law_signs",_)] (NI K (D0 FK 2#7 GG (EL 5#6))) (λ_ _ _ _=>Cs) (λ_ _ _ _=>(AK A9 0#6 0#8)))))))))))),?_⟩
 have gm:((G^m:Nat):Int)=(G:Int)^m:=gR ..;have gp:1<=G^m:=Nat.pow_pos (by lia);have gs:G^m=G^(m-1)*G:=by rw[<-jJ,show (m-1).succ=m by lia]
 nofun;refine⟨(G:Int),m,rfl,by lia,by lia,by lia,hN _ _ ?_⟩;clear hN N;rw[<-gm];refine Bw (λσ HX=>σ=[some (.int (w:Int)),some (.int (G:Int)),some (.int (m:Int)),some 9#5,some (.int ((G^m:Nat):Int)),none]/\HX=H) (λN hN=>?_) ?_
 ·ac_nf
  by_cases z:w=1
  ·rw[qF (by lia)];refine⟨_,rfl,_,rfl,by lia,by lia,λD hD=>?_⟩;rw[cp];refine Bb (n:=G^m) (λi j5 Hx=>Jg (G:Int) i j5/\AG H Hx/\Hx D=some 5#0) ⟨Jg.nil,AG.new hD _,AC⟩ ?_ ?_
   ·refine Dg ?_;rintro i _ hGo j5 Hx hi ⟨sg,ex,hDx⟩;ac_rfl;ac_nf;rw[dO];have ix:(i:Int)/(G:Int)=((i/G:Nat):Int):=(gB ..).symm;have il:=Nat.div_le_self i G;rw[ix];exact⟨by lia,by lia,B1 (Aa.of (ex _ _ hx.1)) ((hx.at (j:=i/G) (by lia)).1) ⟨_,rfl,by lia,hDx,sg.len (by lia),sg.snoc (by lia) _,ex.into hD,AC⟩⟩
   refine Dh ?_;rintro _ hGo j5 Hx ⟨sg,ex,hDx⟩;ac_rfl;clear hGo;obtain⟨dl,rfl,tl,tb⟩:=sg;exact q m m1 (cj _) D dl Hx ex hDx tl tb
  ·rw[qE (by lia)];exact hN _ _ ⟨rfl,rfl⟩
 rintro _ hGo σ HX ⟨rfl,rfl⟩;ac_rfl;refine Bw (λσ HY=>(∃x5,σ=[some (.int (w:Int)),some (.int (G:Int)),some (.int (m:Int)),some 9#5,some (.int ((G^m:Nat):Int)),x5])/\HY=HX) (λN hN=>?_) ?_
 ·ac_nf
  by_cases z:w=2
  ·rw[qF (by lia)];refine⟨by lia,by lia,?_⟩;have bw:((G^m:Nat):Int)/(G:Int)=((G^(m-1):Nat):Int):=by rw[gs,eS,Int.mul_ediv_cancel _ (by lia)]
   rw[bw];have bp:1<=G^(m-1):=Nat.pow_pos (by lia);have bl:G^(m-1)<=G^m:=fF (by lia) (by lia);refine⟨_,rfl,_,rfl,by lia,by lia,λD hD=>?_⟩;rw[cp];refine Bb (n:=G^m) (λi j5 Hx=>Jg (G:Int) i j5/\AG HX Hx/\Hx D=some 5#0) ⟨Jg.nil,AG.new hD _,AC⟩ ?_ ?_
   ·refine Dg ?_;rintro i _ hGo j5 Hx hi ⟨sg,ex,hDx⟩;ac_rfl;ac_nf;rw[dO];have ix:(i:Int)%((G^(m-1):Nat):Int)=((i%G^(m-1):Nat):Int):=(d6 ..).symm;have il:=fM i (show 0<G^(m-1) by lia);rw[ix];exact⟨by lia,B1 (Aa.of (ex _ _ hx.1)) ((hx.at (j:=i%G^(m-1)) (by lia)).1) ⟨by lia,by lia,_,rfl,by lia,hDx,sg.len (by lia),sg.snoc (by lia) _,ex.into hD,AC⟩⟩
   refine Dh ?_;rintro _ hGo j5 Hx ⟨sg,ex,hDx⟩;ac_rfl;clear hGo;obtain⟨dl,rfl,tl,tb⟩:=sg;exact q m m1 (cj _) D dl Hx ex hDx tl tb
  ·rw[qE (by lia)];exact hN _ _ ⟨⟨_,rfl⟩,rfl⟩
 rintro _ hGo σ HY ⟨⟨x5,rfl⟩,rfl⟩;ac_rfl;refine Bw (λσ HX=>σ=[some (.int (w:Int)),some (.int (G:Int)),some (.int (m:Int)),some 9#5,some (.int ((G^m:Nat):Int)),x5]/\AG HY HX) (λN hN=>?_) ?_
 ·have stay:=λH' (e':AG HY H')=>hN _ H' ⟨rfl,e'⟩
  ac_nf
  by_cases w3:w=3
  ·rw[qF (by lia)]
   by_cases m2:1<m
   ·rw[qF (by lia)];refine⟨by decide,λp1 hp1=>⟨p1,_,rfl,.inr (Ai.of AC),rfl,rfl,_,rfl,?_⟩⟩;have f1:=AG.new hp1 (.tup [V.int 4,V.int 6,V.int 8,V.int 9]);rw[show (if false=true then !Yz (V.int (G:Int)) [V.int 4,V.int 6,V.int 8,V.int 9] else Yz (V.int (G:Int)) [V.int 4,V.int 6,V.int 8,V.int 9])=Yz (V.int (G:Int)) [V.int 4,V.int 6,V.int 8,V.int 9] from rfl,Ve G2 G9]
    by_cases z:G=4\/G=6\/G=8\/G=9
    ·rw[qH z,qF rfl];refine⟨G,x,xs,rfl,z,hx.same f1,λp dl H2 e2 hp tl tb=>q 2 (by decide) (by lia) p dl H2 (f1.trans e2) hp ?_ tb⟩;rw[tl,Nat.pow_two]
    ·rw[qI z,qE (by decide)];exact stay _ f1
   ·rw[qE (by lia)];exact stay _ (AG.refl _)
  ·rw[qE (by lia)];exact stay _ (AG.refl _)
 rintro _ hGo σ H1 ⟨rfl,e1⟩;ac_rfl;refine Bw (λσ HX=>σ=[some (.int (w:Int)),some (.int (G:Int)),some (.int (m:Int)),some 9#5,some (.int ((G^m:Nat):Int)),x5]/\HX=H1) (λN hN=>?_) ?_
 ·have mk:(1<m/\G≠2\/3<m)->LJ [V.int (G:Int),V.ref x] H1 Q E0:=λz=>by
   refine⟨G,x,xs,rfl,G2,G9,hx.same e1,λp dl H2 e2 hp tl tb=>?_⟩
   by_cases g:G=2
   ·rw[qF g]at tl;exact q 4 (by decide) (by lia) p dl H2 20#7 hp (by rw[tl,g]) tb
   ·rw[qE g]at tl;exact q 2 (by decide) (by lia) p dl H2 20#7 hp (by rw[tl,Nat.pow_two]) tb
  ac_nf
  by_cases w3:w=3
  ·rw[qF (by lia)]
   by_cases m2:1<m
   ·rw[qF (by lia)]
    by_cases g:G=2
    ·rw[qE (by lia)]
     by_cases m3:3<m
     ·rw[qF (by lia)];exact mk (.inr m3)
     ·rw[qE (by lia)];exact hN _ _ ⟨rfl,rfl⟩
    ·rw[qF (by lia)];exact mk (.inl ⟨m2,g⟩)
   ·rw[qE (by lia),qE (by lia)];exact hN _ _ ⟨rfl,rfl⟩
  ·rw[qE (by lia)];exact hN _ _ ⟨rfl,rfl⟩
 rintro _ hGo σ HX ⟨rfl,rfl⟩;ac_rfl;refine Bw (λσ HY=>σ=[some (.int (w:Int)),some (.int (G:Int)),some (.int (m:Int)),some 9#5,some (.int ((G^m:Nat):Int)),x5]/\HY=HX) (λN hN=>?_) ?_
 ·ac_nf
  by_cases w4:w=4
  ·rw[qF (by lia)];refine⟨_,rfl,_,rfl,by lia,by lia,λD hD=>?_⟩;rw[cp];have hx1:=hx.same e1;refine Bb (n:=G) (λi j5 Hx=>Jg (G:Int) i j5/\AG HX Hx/\Hx D=some 5#0) ⟨Jg.nil,AG.new hD _,AC⟩ ?_ ?_
   ·refine Dg ?_;rintro i _ hGo j5 Hx hi ⟨sg,ex,hDx⟩;ac_rfl;ac_nf;exact (B1 (Aa.of (ex _ _ hx1.1)) ((hx1.at (j:=0) (by decide)).1) ⟨_,rfl,by lia,hDx,sg.len (by lia),sg.snoc (by lia) _,ex.into hD,AC⟩)
   refine Dh ?_;rintro _ hGo j5 Hx ⟨sg,ex,hDx⟩;ac_rfl;clear hGo;obtain⟨dl,rfl,tl,tb⟩:=sg;exact q 1 (by decide) m1 D dl Hx (e1.trans ex) hDx (by rw[tl,Nat.pow_one]) tb
  ·rw[qE (by lia)];exact hN _ _ ⟨rfl,rfl⟩
 rintro _ hGo σ HY' ⟨rfl,rfl⟩;ac_rfl;have hx1:=hx.same e1;refine⟨_,rfl,?_⟩;dsimp only[Km];refine⟨_,rfl,_,rfl,?_⟩;refine Go (Aa.of hx1.1) λp2 H2 e2 n2 h2=>⟨p2,rfl,⟨_,Aa.of h2⟩,λD hD=>?_⟩
 rw[Ou,<-iX]at h2;have xl:=hx.2.1;have tk:(xs.take (G^m)).length=G^m:=by rw[dN];lia
 refine D5 (xs:=(xs.take (G^m)).map 1#0) (λi j5 Hx=>Jg (G:Int) i j5/\AG H2 Hx/\Hx D=some 5#0) ⟨Jg.nil,AG.new hD _,AC⟩ (λi j5 Hx _ z=>Aa.of (z.2.1 _ _ h2)) ?_ ?_
 ·refine Jc ?_;rintro i v _ hGo j5 Hx hv ⟨sg,ex,hDx⟩;ac_rfl;have il:=(cW.mp hv).1;rw[cU]at il;obtain⟨n,hn,rfl⟩:=CK hv;ac_nf;exact⟨by lia,hDx,sg.len (by lia),sg.snoc (by lia) _,ex.into hD,AC⟩
 refine Dh ?_;rintro _ hGo j5 Hx ⟨sg,ex,hDx⟩;ac_rfl;clear hGo;obtain⟨dl,rfl,tl,tb⟩:=sg;rw[cU]at tl;exact q m m1 (cj _) D dl Hx ((e1.trans e2).trans ex) hDx (by rw[tl,tk]) tb
theorem NE:AJ ["_law_signs","_law_many","_law_cell","_law_xs","_law_table_here","_law_low"] ["_law_signs","_law_many","_law_cell"] (AH Yf):=CB
theorem Wf(T:B8 K mg t):B2 P w K mg base 4 t.f_31 ["_law_signs","_law_many","_law_cell"] (Mt):=by
 refine Am T.d_31.2 NE λvs H Q E h=>?_;obtain⟨G,m,c,rfl,G2,G9,m1,m4,sz,q⟩:=h;symm
 refine⟨_,(AD (AQ 3 NE (AM hr (Wd T) T.d_12.1 (AA 1#9 19#8)))
  (AD (AQ 4 NE (AM hr (ae T) T.d_19.1 (AA (AK A9 (AL 3#7 2#7 AE (λ_ _=>rfl)) AE) (AA 0#6 (AA 0#8 7#3)))))
  (AD (AQ 5 NE (AK BX (AK A9 (AL 3#7 2#7 AE (λ_ _=>rfl)) AE) AE))
  (AD (BK (AR Cp (AK A9 (AL 3#7 2#7 AE (λ_ _=>rfl)) AE) AE (AU _)) (AF (AQ 5 NE (AK BX (AK A9 (AK CJ (AL 3#7 2#7 AE (λ_ _=>rfl)) (AL 3#7 2#7 AE (λ_ _=>rfl))) (AK CJ AE (AK RV AE AE))) (AK RV AE AE)))) Af)
  (AF (AO (DA (AA 0#6 (AA 8#8 (AA (FJ Fi rfl T.z_tuple PyProof.Rows.boot_tuple 10#8) AB)))))))))),?_⟩
 nofun;refine⟨c,90,rfl,by decide,by decide,λx H1 xs lx bx e1 _ hx=>hN _ _ ?_⟩;clear hN N;have X:LI H1 x xs:=⟨hx,lx,bx⟩;obtain⟨a81,b81,_⟩:=X.at (j:=81) (by decide);obtain⟨a82,b82,_⟩:=X.at (j:=82) (by decide);obtain⟨a83,b83,_⟩:=X.at (j:=83) (by decide);obtain⟨a84,b84,c84⟩:=X.at (j:=84) (by decide);obtain⟨a85,b85,c85⟩:=X.at (j:=85) (by decide);nofun;obtain⟨w,hw,w5⟩:∃w:Nat,(w:Int)=xs.getD 81 0%5/\w<5:=⟨(xs.getD 81 0%5).toNat,by lia,by lia⟩;refine (B1 (Aa.of hx) a81 ⟨_,rfl,by decide,?_⟩);rw[<-hw];refine⟨w,G,m,x,xs,rfl,w5,G2,G9,m1,m4,sz,X,λk k1 km p dl H2 e2 hp tl tb=>hN _ _ ?_⟩;clear hN N hw;have X2:=X.same e2;have e12:=e1.trans e2;nofun;refine (B1 (Aa.of X2.1) a82 ⟨_,rfl,by decide,hN _ _ ?_⟩);clear hN N;refine Bw (λσ HX=>∃lo:Int,σ=[some (.int (G:Int)),some (.int (m:Int)),some (.int c),some 9#5,some 1#5,some (.int lo)]/\HX=H2) (λN hN=>?_) ?_
 ·ac_nf;refine (B1 (Aa.of X2.1) a83 ⟨_,rfl,by decide,?_⟩)
  by_cases z:xs.getD 83 0%3=0
  ·rw[qF z];exact (B1 (Aa.of X2.1) a84 (B1 (Aa.of X2.1) a85 ⟨_,rfl,_,rfl,.inl ⟨by lia,by lia⟩,by decide,by decide,by decide,.inl ⟨by decide,by decide⟩,by decide,by decide,by decide,by decide,hN _ _ ⟨_,rfl,rfl⟩⟩))
  ·rw[qE z];exact hN _ _ ⟨_,rfl,rfl⟩
 rintro _ hGo σ HX ⟨lo,rfl,rfl⟩;ac_rfl;ac_nf;refine⟨_,.inl ⟨Aa.of hp,λl hl=>⟨by decide,λr hr=>?_⟩⟩⟩;have gk:((G^k:Nat):Int)=(G:Int)^k:=gR ..;have gl:=fF (show 0<G by lia) km;refine q r lo dl k _ km (e12.trans ((AG.new hl _).trans (AG.new hr _))) ⟨⟨l,AC,AG.new hr _ _ _ AC⟩,by lia,by lia,k1,by lia,by rw[tl,gk],by rw[<-gk];lia,tb⟩
theorem Ki:AJ ["_law_one","_law_caught","_law_found","error"] ["_law_one"] (AH Yg):=CB
theorem UM(T:B8 K mg t):B2 P w K mg base 11 t.f_30 ["_law_one"] (Mu t):=by
 refine Am T.d_30.2 Ki λvs H Q E h=>?_;obtain⟨r,g,lo,dl,m,lf,tf,mf,rfl,ok,fw,sm,q0,q1,q2⟩:=h;symm
 refine⟨_,(AD (AQ 1 Ki Cg)
  (AD (AQ 2 Ki Cg)
  (AD (Ro (i:=3) (W:=λσ cls D H'=>σ=[some 2#4,some .non,some .non,none]/\AG H H'/\((cls=.ref t.c_29/\DE g tf mf)\/(cls=.ref t.c_46/\¬DE g tf mf))) Ki.nd rfl rfl rfl T.m_41 rfl rfl (λ_=>(AF (AQ 2 Ki (Bh (aS T) (hr.mono (by decide)) rfl T.d_45.1 IZ 1#1)))) (λ_=>(AF (AQ 1 Ki 2#7))))
  (AF (AO (A7 (AA 1#9 2#0))))))),?_⟩
 nofun;refine hN _ _ ?_;clear hN N;nofun;refine hN _ _ ?_;clear hN N;nofun;refine⟨⟨r,g,lo,dl,m,lf,tf,mf,rfl,ok,fw,λwn H' e=>⟨e,.inl ⟨rfl,wn⟩⟩,λww H' e=>⟨e,.inr ⟨rfl,RG sm ww⟩⟩,λ_ j3 left j4 bx em n1 sz r' H' e ok'=>hN _ _ ?_⟩,?_⟩
 ·clear hN N;ac_nf;refine⟨by decide,λp hp=>?_⟩;have e2:=AG.new hp (.lst [V.ref r',V.non]);exact q2 p r' _ _ _ _ (e.trans e2) AC (ok'.same e2) (Yj ok.g2 ok.len ok.m1 ok.tb fw bx em n1)
 rintro σ' cls D' H' ⟨rfl,e,hc⟩;rcases hc with⟨rfl,wn⟩|⟨rfl,wn⟩
 ·refine⟨T.em_29_41,λea hea=>⟨_,rfl,hN _ _ ?_⟩⟩;clear hN N;ac_nf;refine⟨by decide,λp hp=>?_⟩;exact q0 wn p _ ((e.trans (AG.new hea _)).trans (AG.new hp _)) ⟨ea,D',AC,AG.new hp _ _ _ AC⟩
 ·refine⟨T.em_46_41,λea hea=>⟨_,rfl,hN _ _ ?_⟩⟩;clear hN N;ac_nf;refine⟨by decide,λp hp=>?_⟩;exact q1 wn p _ ((e.trans (AG.new hea _)).trans (AG.new hp _)) ⟨ea,D',AC,AG.new hp _ _ _ AC⟩
theorem Kj:AJ ["_law_one","_law_other","_law_caught","_law_found","error"] ["_law_one","_law_other"] (AH Yh):=CB
theorem af(T:B8 K mg t):B2 P w K mg base 9 t.f_10 ["_law_one","_law_other"] (Mv t):=by
 refine Am T.d_10.2 Kj λvs H Q E h=>?_;obtain⟨r,r',g,lo,dl,m,lo',tab',m',rfl,ok,ok',q1,q2⟩:=h;symm
 refine⟨_,(AD (AQ 2 Kj Cg)
  (AD (AQ 3 Kj Cg)
  (AD (Ro (i:=4) (W:=λσ cls D H'=>σ=[some 2#4,some 8#2,some .non,some .non,none]/\AG H H'/\cls=.ref t.c_46) Kj.nd rfl rfl rfl T.m_41 rfl rfl (λ_=>(AF (AQ 3 Kj (Bh (WQ T) (hr.mono (by decide)) rfl T.d_61.1 IZ 15#2)))) (λ_=>(AF (AQ 2 Kj 5#6))))
  (AF (AO (A7 (AA 2#7 4#9))))))),?_⟩
 obtain⟨low,M,nw⟩:=E4 g lo dl m;obtain⟨low',M',nw'⟩:=E4 g lo' tab' m';nofun;refine hN _ _ ?_;clear hN N;nofun;refine hN _ _ ?_;clear hN N;nofun;refine⟨⟨r,r',g,lo,dl,m,lo',tab',m',low,M,low',M',rfl,ok,ok',nw,nw',λ_ H' e=>⟨e,rfl⟩,λsz lj Mj nj rj H' e okj=>hN _ _ ?_⟩,?_⟩
 ·clear hN N;ac_nf;refine⟨by decide,λp hp=>?_⟩;have e2:=AG.new hp (.lst [V.ref rj,V.non]);exact q2 p rj _ _ _ _ (e.trans e2) AC (okj.same e2) (Kf ok.g2 ok.len ok.m1 ok.tb ok'.len ok'.m1 ok'.tb nw nw' nj)
 rintro σ' cls D' H' ⟨rfl,e,rfl⟩;refine⟨T.em_46_41,λea hea=>⟨_,rfl,hN _ _ ?_⟩⟩;clear hN N;ac_nf;refine⟨by decide,λp hp=>?_⟩;exact q1 p _ ((e.trans (AG.new hea _)).trans (AG.new hp _)) ⟨ea,D',AC,AG.new hp _ _ _ AC⟩
theorem cG:AJ ["_law_caught"] ["_law_caught"] (AH bt):=CB
theorem Yt(T:B8 K mg t) :B2 P w K mg base 1 t.f_3 ["_law_caught"] (OT t):=by refine Am T.d_3.2 cG λvs H Q E h=>?_;obtain⟨e,D,rfl,he,q⟩:=h;symm;refine⟨_,(AF (AO (EK (Fv rfl T.z_isinstance 0#6 (EN rfl T.m_46)) (Eo (NK (Fv rfl T.z_isinstance 0#6 (EN rfl T.m_29))))))),?_⟩;ac_nf;refine⟨_,.exc he T.ek_46,_,T.kt_46_46,?_⟩;rw[qF rfl];exact⟨_,.exc he T.ek_46,_,T.kt_46_29,q⟩
theorem UN:AJ ["_law_one","_law_found","_law_truth"] ["_law_one"] (AH Yi):=CB
theorem UO(T:B8 K mg t)(hB:FD mg base):B2 P w K mg base 14 t.f_14 ["_law_one"] (My LP t.p_7):=by
 refine Am T.d_14.2 UN λvs H Q E h=>?_;obtain⟨r,g,lo,dl,m,rfl,ok,sm,smt,ta,q⟩:=h;symm
 refine⟨_,(AD (AQ 1 UN (A7 (AA (AM hr (Wc T hB) T.d_72.1 1#1) (AA (AM hr (Wa T) T.d_24.1 1#1) (AA (AM hr (Wc T hB) T.d_72.1 (AA (AM hr (WP T) T.d_65.1 1#1) AB)) (AA (AM hr (Wa T) T.d_24.1 (AA (AM hr (WP T) T.d_65.1 1#1) AB)) AB))))))
  (AD (A6 PassesOwn.never rfl (NI K 0#8) (BF 2 UN) (AF (BK (En (DT (Fv rfl T.z_isinstance 1#9 21#0))) (AF (AO Cg)) Af)))
  (AD (BK (PW.pt (HI (AR (Nc hr.units) (D0 FK 0#8 GG (EL AE)) (D0 FK 0#8 (EL AE) GG) (AU _)) (Fs (PW.pt (Dt (DT (AL 3#7 0#8 AE (λ_ _=>rfl))) (DH (En (DT (AL 3#7 0#8 AE (λ_ _=>rfl)))))))))) (AF (AO Cg)) Af)
  (AF (AO (D0 FK 0#8 GG (EL AE))))))),?_⟩
 have g2:=ok.g2;have tl:((BZ g dl m).length:Int)=g^m:=by rw[Bg];exact 20#4
 refine EF g2 lo (dl:=dl) (m:=m) λlf tf mf fw=>?_;refine EF g2 (1-lo-(m:Int)) (dl:=BZ g dl m) (m:=m) λlt tt mt ft=>?_;have s9:=sm _ _ _ fw;have s9t:=smt _ _ _ ft;nofun;refine⟨r,g,lo,dl,m,lf,tf,mf,rfl,ok,fw,ta,λ_ b hb H1 s1 t1=>?_,λz=>qG z (by lia)⟩;have ok1:=ok.sameT s1 ta;refine⟨r,g,lo,dl,m,lf,tf,mf,rfl,ok1,fw,s9,λc hc H2 e2=>?_⟩;refine⟨r,g,lo,dl,m,rfl,ok1.same e2,λr3 H3 e3 ok3=>?_⟩;have e23:=e2.trans e3;have t3:=t1.same e23;refine⟨r3,g,_,_,m,lt,tt,mt,rfl,ok3,ft,t3,λ_ b' hb' H4 s4 t4=>?_,λz=>qG z (by lia)⟩;have ok4:=(ok1.same e23).sameT s4 t3;refine⟨r,g,lo,dl,m,rfl,ok4,λr5 H5 e5 ok5=>?_⟩;refine⟨r5,g,_,_,m,lt,tt,mt,rfl,ok5,ft,s9t,λc' hc' H6 e6=>⟨by decide,λp hp=>hN _ _ ?_⟩⟩;clear hN N;have hb:b=true↔Ff g dl:=hb.trans (WH g2 ok.len ok.m1 fw);have hb':b'=true↔Ff g dl:=(hb'.trans (WH g2 tl ok.m1 ft)).trans (Vf g2 ok.len ok.m1);have hc:c=true↔CF g lo dl m:=hc.trans (FH g2 ok.len ok.m1 ok.tb fw s9).symm;have hc':c'=true↔CF g lo dl m:=(hc'.trans (FH g2 tl ok.m1 (DZ g2 ok.tb m) ft s9t).symm).trans (T8 ok.len g2);obtain rfl:b'=b:=fY.mpr (hb'.trans hb.symm);obtain rfl:c'=c:=fY.mpr (hc'.trans hc.symm);have cb:c'=true->b'=true:=λz=>hb.mpr (Yl (hc.mp z))
 have e56:=(e5.trans e6).trans (AG.new hp (.lst [V.bl b',V.bl c',V.bl b',V.bl c']));have s6:CI t.p_7 H (AZ H6 p (.lst [V.bl b',V.bl c',V.bl b',V.bl c'])):=((s1.trans e23.t).trans s4).trans e56.t;have t6:=t4.same e56;have h6:AZ H6 p (.lst [V.bl b',V.bl c',V.bl b',V.bl c']) p=some (.lst [V.bl b',V.bl c',V.bl b',V.bl c']):=AC;generalize AZ H6 p (.lst [V.bl b',V.bl c',V.bl b',V.bl c'])=H7 at s6 t6 h6⊢;clear e56 ok5 ok4 ok3 ok1 s4 s1 t4 t3 t1 e23 e2 e3 e5 e6 hp;refine Bw (λσ HX=>∃x2,σ=[some 2#4,some 1#5,x2]/\HX=H7) (λN hN=>?_) ?_
 ·refine⟨_,rfl,p,rfl,⟨_,Aa.of h6⟩,?_⟩;refine B3 (xs:=[V.bl b',V.bl c',V.bl b',V.bl c']) (λi σ HX=>∃x2,σ=[some 2#4,some 1#5,x2]/\HX=H7) ⟨_,rfl,rfl⟩ (λi σ HX _ z=>by obtain⟨_,_,e⟩:=z;rw[e];exact Aa.of h6) ?_ ?_
  ·refine Hk ?_;rintro _ _ i v _ hGo σ HX hv ⟨x2,rfl,rfl⟩;ac_rfl;obtain⟨d,rfl⟩:∃d,v=V.bl d:=by have:=cw hv;simp only[List.mem_cons,List.not_mem_nil,or_false]at this;rcases this with z|z|z|z<;>exact⟨_,z⟩
   ac_nf;refine⟨_,.of (.bl d),_,Vy,?_⟩;rw[qE (by decide)];exact⟨_,rfl⟩
  ·rintro σ HX ⟨x2,rfl,rfl⟩;exact hN _ _ ⟨x2,rfl,rfl⟩
 rintro _ hGo σ HX ⟨x2,rfl,rfl⟩;ac_rfl;nofun;refine Go (Aa.of h6) λa1 HA eA _ hA=>?_;have hA:HA a1=some (.lst [V.bl b',V.bl c']):=hA;refine Go (Aa.of (eA _ _ h6)) λa2 HB eB _ hB=>?_;have hB:HB a2=some (.lst [V.bl b',V.bl c']):=hB;obtain⟨y1,y2,y3⟩:=T9 b' c';have eAB:=eA.trans eB;have hpB:=eAB _ _ h6;refine⟨_,_,GA (eB _ _ hA),GA hB,y1,y1,y2,?_⟩;rw[y3];refine⟨_,rfl,?_⟩;rw[qE (by decide)]
 have fin:N [some 2#4,some 1#5,x2] HB:=hN _ _ (by clear hN N;ac_nf;refine Go (Aa.of hpB) λa3 HC eC _ hC=>?_;have hC:HC a3=some (.lst [V.bl b',V.bl c']):=hC;have eC:=eAB.trans eC;exact q a3 b' c' HC hb hc (s6.trans eC.t) (t6.same eC) hC)
 refine (B1 (Aa.of hpB) rfl ⟨_,rfl,?_⟩)
 by_cases z:c'=true
 ·rw[qF z];refine (B1 (Aa.of hpB) rfl ⟨_,rfl,?_⟩);rw[qE (by rw[cb z];decide)];exact fin
 ·rw[qE z];exact fin
theorem UP:AJ ["_law_one","_law_other","_law_back_rule","_law_first","_law_second","_law_two","_law_both"] ["_law_one","_law_other","_law_back_rule"] (AH bu):=CB
theorem cH(T:B8 K mg t):B2 P w K mg base 12 t.f_0 ["_law_one","_law_other","_law_back_rule"] (Mz t):=by
 refine Am T.d_0.2 UP λvs H Q E h=>?_;obtain⟨r,r',rb,g,lo,dl,m,lo',tab',m',lb,tb,mb,rfl,ok,ok',sm,sm',iv,iv',okb,U,q⟩:=h;symm
 refine⟨_,(AD (AQ 3 UP (AM hr (UM T) T.d_30.1 1#1))
  (AD (AQ 4 UP (AM hr (UM T) T.d_30.1 2#0))
  (AD (A6 PassesOwn.never rfl (NI K (A7 (AA 2#7 10#8))) (BF 5 UP) (AF (BK (AR Hv (AL 3#7 8#8 AE (λ_ _=>rfl)) Cg (AU _)) (AF (AO (AM hr (Yt T) T.d_3.1 (AA (AL 3#7 8#8 AE (λ_ _=>rfl)) AB)))) Af)))
  (AD (AQ 6 UP (AM hr (af T) T.d_10.1 (AA (AL 3#7 5#6 AE (λ_ _=>rfl)) (AA (AL 3#7 2#7 AE (λ_ _=>rfl)) AB))))
  (AD (BK (AR Hv (AL 3#7 20#0 AE (λ_ _=>rfl)) Cg (AU _)) (AF (AO (AM hr (Yt T) T.d_3.1 (AA (AL 3#7 20#0 AE (λ_ _=>rfl)) AB)))) Af)
  (AF (AO (DI Xe (AM hr (Zx T) T.d_74.1 (AA (AL 3#7 20#0 AE (λ_ _=>rfl)) 4#9)) Jy (AU _))))))))),?_⟩
 have g2:=ok.g2;refine EF g2 lo (dl:=dl) (m:=m) λlf tf mf fw=>?_;refine EF g2 lo' (dl:=tab') (m:=m') λlf' tf' mf' fw'=>?_;have nn:=(FH g2 ok.len ok.m1 ok.tb fw (sm _ _ _ fw)).mp iv;have nn':=(FH g2 ok'.len ok'.m1 ok'.tb fw' (sm' _ _ _ fw')).mp iv';refine Bw (λσ HX=>∃p1,σ=[some 2#4,some 8#2,some (.ref rb),some (.ref p1),none,none,none]/\AG H HX/\(UV t.c_46 HX p1\/∃(a:qR) (l:Int) (u:qW) (k:Nat),HX p1=some (.lst [.ref a,.non])/\AS HX a g l u k/\GC g lo dl m l u k)) (λN hN=>?_) ?_
 ·ac_nf;exact⟨r,g,lo,dl,m,lf,tf,mf,rfl,ok,fw,sm _ _ _ fw,λz=>qG z nn,λ_ p H' e no=>hN _ _ ⟨p,rfl,e,.inl no⟩,λp a l u k H' e hp oka V=>hN _ _ ⟨p,rfl,e,.inr ⟨a,l,u,k,hp,oka,V⟩⟩⟩
 rintro _ hGo σ H1 ⟨p1,rfl,e1,c1⟩;ac_rfl;refine Bw (λσ HX=>∃p2,σ=[some 2#4,some 8#2,some (.ref rb),some (.ref p1),some (.ref p2),none,none]/\AG H1 HX/\(UV t.c_46 HX p2\/∃(a:qR) (l:Int) (u:qW) (k:Nat),HX p2=some (.lst [.ref a,.non])/\AS HX a g l u k/\GC g lo' tab' m' l u k)) (λN hN=>?_) ?_
 ·ac_nf;exact⟨r',g,lo',tab',m',lf',tf',mf',rfl,ok'.same e1,fw',sm' _ _ _ fw',λz=>qG z nn',λ_ p H' e no=>hN _ _ ⟨p,rfl,e,.inl no⟩,λp a l u k H' e hp oka V=>hN _ _ ⟨p,rfl,e,.inr ⟨a,l,u,k,hp,oka,V⟩⟩⟩
 rintro _ hGo σ H2 ⟨p2,rfl,e2,c2⟩;ac_rfl;have e12:=e1.trans e2;have c1:UV t.c_46 H2 p1\/∃(a:qR) (l:Int) (u:qW) (k:Nat),H2 p1=some (.lst [.ref a,.non])/\AS H2 a g l u k/\GC g lo dl m l u k:=c1.elim (λ⟨e,D,h1,h2⟩=>.inl ⟨e,D,e2 _ _ h1,e2 _ _ h2⟩) λ⟨a,l,u,k,h1,h2,h3⟩=>.inr ⟨a,l,u,k,e2 _ _ h1,h2.same e2,h3⟩
 clear e1 e2 iv iv' nn nn' fw fw' sm sm';refine Bw (λσ HX=>(∃x5,σ=[some 2#4,some 8#2,some (.ref rb),some (.ref p1),some (.ref p2),x5,none])/\AG H2 HX/\(∃(a:qR) (l:Int) (u:qW) (k:Nat),HX p1=some (.lst [.ref a,.non])/\AS HX a g l u k/\GC g lo dl m l u k)/\∃(a:qR) (l:Int) (u:qW) (k:Nat),HX p2=some (.lst [.ref a,.non])/\AS HX a g l u k/\GC g lo' tab' m' l u k) (λN hN=>?_) ?_
 ·refine⟨_,rfl,_,rfl,(show 2<=sizeLine by decide),λpl hpl=>?_⟩;have el:=AG.new hpl (.lst [V.ref p1,V.ref p2]);have hl:AZ H2 pl (.lst [V.ref p1,V.ref p2]) pl=some (.lst [V.ref p1,V.ref p2]):=AC;generalize AZ H2 pl (.lst [V.ref p1,V.ref p2])=H3 at el hl⊢;refine⟨pl,rfl,⟨_,Aa.of hl⟩,?_⟩;refine B3 (xs:=[V.ref p1,V.ref p2]) (λi σ HX=>(∃x5,σ=[some 2#4,some 8#2,some (.ref rb),some (.ref p1),some (.ref p2),x5,none])/\HX=H3/\(1<=i->∃(a:qR) (l:Int) (u:qW) (k:Nat),H3 p1=some (.lst [.ref a,.non])/\AS H3 a g l u k/\GC g lo dl m l u k)/\(2<=i->∃(a:qR) (l:Int) (u:qW) (k:Nat),H3 p2=some (.lst [.ref a,.non])/\AS H3 a g l u k/\GC g lo' tab' m' l u k)) ⟨⟨_,rfl⟩,rfl,λz=>qG z (by decide),λz=>qG z (by decide)⟩ (λi σ HX _ z=>by rw[z.2.1];exact Aa.of hl) ?_ ?_
  ·refine Hk ?_;rintro _ _ i v _ hGo σ HX hv ⟨⟨x5,rfl⟩,rfl,k1,k2⟩;ac_rfl;have d1:UV t.c_46 HX p1\/∃(a:qR) (l:Int) (u:qW) (k:Nat),HX p1=some (.lst [.ref a,.non])/\AS HX a g l u k/\GC g lo dl m l u k:=c1.elim (λ⟨e,D,h1,h2⟩=>.inl ⟨e,D,el _ _ h1,el _ _ h2⟩) λ⟨a,l,u,k,h1,h2,h3⟩=>.inr ⟨a,l,u,k,el _ _ h1,h2.same el,h3⟩
   have d2:UV t.c_46 HX p2\/∃(a:qR) (l:Int) (u:qW) (k:Nat),HX p2=some (.lst [.ref a,.non])/\AS HX a g l u k/\GC g lo' tab' m' l u k:=c2.elim (λ⟨e,D,h1,h2⟩=>.inl ⟨e,D,el _ _ h1,el _ _ h2⟩) λ⟨a,l,u,k,h1,h2,h3⟩=>.inr ⟨a,l,u,k,el _ _ h1,h2.same el,h3⟩
   have no:∀{pi:qR},UV t.c_46 HX pi->Ra K (V.ref pi) (V.int 1) HX λx H1=>OT t [x] H1 Q E0:=λ{pi} ⟨e,D,h3,he⟩=>(B1 15#1 rfl ⟨e,D,rfl,he,q _ (e12.trans el)⟩)
   ac_nf;rcases i with _|_|i
   ·cases hv;rcases d1 with z|⟨a,l,u,k,h3,z⟩
    ·obtain⟨e,D,h3,he⟩:=id z;refine (B1 15#1 rfl ?_);rw[qF (by intro y;cases y)];exact no z
    ·refine (B1 15#1 rfl ?_);rw[qE (λy=>y rfl)];exact⟨⟨_,rfl⟩,rfl,λ_=>⟨a,h3,l,u,k,z⟩,λy=>qG y (by decide)⟩
   ·cases hv;rcases d2 with z|⟨a,l,u,k,h3,z⟩
    ·obtain⟨e,D,h3,he⟩:=id z;refine (B1 15#1 rfl ?_);rw[qF (by intro y;cases y)];exact no z
    ·refine (B1 15#1 rfl ?_);rw[qE (λy=>y rfl)];refine⟨⟨_,rfl⟩,rfl,λ_=>?_,λ_=>⟨a,h3,l,u,k,z⟩⟩;obtain⟨a,l,u,k,h,z⟩:=k1 (by decide);exact⟨a,h,l,u,k,z⟩
   ·cases hv
  ·rintro σ HX ⟨⟨x5,rfl⟩,rfl,k1,k2⟩;exact hN _ _ ⟨⟨x5,rfl⟩,el,k1 (show 1<=2 by decide),k2 (show 2<=2 by decide)⟩
 rintro _ hGo σ H3 ⟨⟨x5,rfl⟩,e3,⟨a1,l1,u1,k1,h1,ok1,U1⟩,a2,l2,u2,k2,h2,ok2,U2⟩;ac_rfl;have al:=T4 U (Mr U1 U2).on;refine Bw (λσ HX=>∃p3,σ=[some 2#4,some 8#2,some (.ref rb),some (.ref p1),some (.ref p2),x5,some (.ref p3)]/\AG H3 HX/\(UV t.c_46 HX p3\/∃(a:qR) (l:Int) (u:qW) (k:Nat),HX p3=some (.lst [.ref a,.non])/\AS HX a g l u k/\BL g l u k lb tb mb)) (λN hN=>?_) ?_
 ·ac_nf;exact (B1 (Aa.of h2) rfl (B1 (Aa.of h1) rfl ⟨a2,a1,g,l2,u2,k2,l1,u1,k1,rfl,ok2,ok1,λp H' e no=>hN _ _ ⟨p,rfl,e,.inl no⟩,λp rj lj tj mj H' e hp okj aj=>hN _ _ ⟨p,rfl,e,.inr ⟨rj,lj,tj,mj,hp,okj,Hl aj al.symm⟩⟩⟩))
 rintro _ hGo σ H4 ⟨p3,rfl,e4,c3⟩;ac_rfl;have e34:=(e12.trans e3).trans e4;rcases c3 with⟨e,D,h3,he⟩|⟨a,l,u,k,h3,ok3,a3⟩
 ·ac_nf;refine (B1 15#1 rfl ?_);rw[qF (by intro y;cases y)];exact (B1 15#1 rfl ⟨e,D,rfl,he,q _ e34⟩)
 ·ac_nf;refine (B1 15#1 rfl ?_);rw[qE (λy=>y rfl)];refine (B1 15#1 rfl ⟨a,rb,g,l,u,k,g,lb,tb,mb,rfl,ok3,okb.same e34,λb H' e hb=>⟨b,rfl,?_⟩⟩);rw[hb.mpr ⟨rfl,a3⟩,qH rfl];exact q _ (e34.trans e)
theorem EG:AJ ["_law_script","_law_xs","_law_signs","_law_most","_law_many","_law_wides","_law_one","_law_other","_law_ring","_law_both","_law_truths_here","_law_found","_law_there"] ["_law_script"] (AH Vc):=CB
theorem ag{f:qR}{fd:FuncData}(T:B8 K mg t)(F:NG K "law" "law" Vc f fd)(hB:FD mg base):Fu P w K mg base 12#1 15 f fd ["_law_script"] (LB K [t.p_7]):=by
 refine F.okY EG λvs H Q E h=>?_;obtain⟨a,ns,rfl,hS,hl,hT,q⟩:=h;symm;refine Pi ?_
 refine⟨_,(Ae (BP (i:=1) EG.nd rfl 3#8 (.of (AM hr (Wd T) T.d_12.1 (AA (AM hr (Vh T) T.d_4.1 (AA 0#6 19#8)) 19#8))) rfl (by first|exact .inl rfl|exact .inr rfl))
  (Ae (BP (i:=2) EG.nd rfl 10#5 (Iu 3#7 (EV (AN (AN (AN (AN (AN (AN (AN (AN (AN (AN (AN (AN (AN (AN (AN (AN Ch))))))))))))))))) (.of (AK A9 (AL 3#7 0#8 AE (λ_ _=>rfl)) AE)) (λ_ _=>rfl)) rfl (by first|exact .inl rfl|exact .inr rfl))
  (Ae (BP (i:=3) EG.nd rfl 3#8 (Iu 3#7 (EV (AN (AN (AN (AN (AN (AN (AN (AN Ch))))))))) (.of (AK BX 1#9 AE)) (λ_ _=>rfl)) rfl (by first|exact .inl rfl|exact .inr rfl))
  (Ae (BP (i:=4) EG.nd rfl 3#8 (.of (AK A3 AE (AK A9 (AL 3#7 0#8 AE (λ_ _=>rfl)) 2#7))) rfl (by first|exact .inl rfl|exact .inr rfl))
  (Ae (BP (i:=5) EG.nd rfl 3#8 (.of (A7 (AA 5#6 (AA (AK BX (AK A3 2#7 AE) 5#6) AB)))) rfl (by first|exact .inl rfl|exact .inr rfl))
  (Ae (BP (i:=6) EG.nd rfl 3#8 (.of (AM hr (Wf T) T.d_31.1 (AA 1#9 (AA (AL 3#7 8#8 AE (λ_ _=>rfl)) (AA (AM hr (Vh T) T.d_4.1 (AA 0#6 19#8)) AB))))) rfl (by first|exact .inl rfl|exact .inr rfl))
  (Ae (BP (i:=7) EG.nd rfl 3#8 (.of (AM hr (Wf T) T.d_31.1 (AA 1#9 (AA (AL 3#7 8#8 AE (λ_ _=>rfl)) (AA (AM hr (Vh T) T.d_4.1 (AA 0#6 19#8)) AB))))) rfl (by first|exact .inl rfl|exact .inr rfl))
  (Ae (BP (i:=8) EG.nd rfl 3#8 (.of (AK W2 (C7 [(2,"_law_signs")] [("_law_signs",_)] (NI K (D0 FK 0#6 (EL AE) (EL AE))) (λ_ _ _ _=>Cs) (λ_ _ _ _=>(AK A9 0#6 0#8))) (A7 (AA (AK A9 (AM hr (Vh T) T.d_4.1 (AA 0#6 19#8)) 1#9) AB)))) rfl (by first|exact .inl rfl|exact .inr rfl))
  (Ae (BP (i:=9) EG.nd rfl 3#8 (.of (AM hr (WQ T) T.d_61.1 (AA 20#0 (AA (pv 7) AB)))) rfl (by first|exact .inl rfl|exact .inr rfl))
  (Ae (BP (i:=10) EG.nd rfl 3#8 (.of (A7 (AA (AM hr (UO T hB) T.d_14.1 (AA 20#0 AB)) (AA (AM hr (UO T hB) T.d_14.1 (AA (pv 7) AB)) (AA (AM hr (UO T hB) T.d_14.1 (AA (pv 9) AB)) AB))))) rfl (by first|exact .inl rfl|exact .inr rfl))
  (Ae (Dv (AR (Yo hr.units) Cg (pv 10) (by with_unfolding_all rfl)) (B7 (.of (AO Jy))) C0)
  (Ae (Dv (AR (Nc hr.units) (AL 3#7 (pv 10) AE (λ_ _=>rfl)) (A7 (AA (EK (AL 3#7 (AL 3#7 (pv 10) AE (λ_ _=>rfl)) AE (λ_ _=>rfl)) (Eo (AL 3#7 (AL 3#7 (pv 10) AE (λ_ _=>rfl)) AE (λ_ _=>rfl)))) (AA (EK (AL 3#7 (AL 3#7 (pv 10) AE (λ_ _=>rfl)) AE (λ_ _=>rfl)) (Eo (AL 3#7 (AL 3#7 (pv 10) AE (λ_ _=>rfl)) AE (λ_ _=>rfl)))) AB))) (AU _)) (B7 (.of (AO Jy))) C0)
  (Ae (BP (i:=11) EG.nd rfl 3#8 (.of (AM hr (UM T) T.d_30.1 (AA (pv 9) AB))) rfl (by first|exact .inl rfl|exact .inr rfl))
  (Ae (Dv (En (DT (AL 3#7 (AL 3#7 (pv 10) AE (λ_ _=>rfl)) AE (λ_ _=>rfl)))) (B7 (.of (AO (EK (Fv rfl T.z_isinstance (AL 3#7 (pv 11) AE (λ_ _=>rfl)) (EN rfl T.m_29)) (Eo (NK (Fv rfl T.z_isinstance (AL 3#7 (pv 11) AE (λ_ _=>rfl)) (EN rfl T.m_46)))))))) C0)
  (Ae (Dv (AR Hv (AL 3#7 (pv 11) AE (λ_ _=>rfl)) Cg (AU _)) (B7 (.of (AO (AM hr (Yt T) T.d_3.1 (AA (AL 3#7 (pv 11) AE (λ_ _=>rfl)) AB))))) C0)
  (Ae (BP (i:=12) EG.nd rfl 3#8 (.of (AM hr (Ys T) T.d_2.1 (AA (pv 7) (AA (AM hr (Ys T) T.d_2.1 (AA 20#0 (AA (pv 8) AB))) AB)))) rfl (by first|exact .inl rfl|exact .inr rfl))
  (B7 (.of (AO (EK (DI (Rv hr.units) (AM hr (Ys T) T.d_2.1 (AA (AL 3#7 (pv 11) AE (λ_ _=>rfl)) (AA (pv 12) AB))) (pv 8) (AU _)) (Eo (AM hr (cH T) T.d_0.1 (AA 20#0 (AA (pv 7) (AA (AL 3#7 (pv 11) AE (λ_ _=>rfl)) AB))))))))))))))))))))))))),?_⟩
 nofun;refine⟨a,ns,0,rfl,hS,hl,_,3,rfl,by decide,by decide,λx H1 xs lx bx e1 _ hx=>hN _ _ ?_⟩;clear hN N;have lx:0#7=3:=lx
 have ax:∀j:Nat,j<3->Jk (xs.map 1#0) (j:Int)=some (.int (xs.getD j 0))/\0<=xs.getD j 0:=λj hj=>by refine⟨CS (by rw[cn,cX (by lia),cV,cX (by lia)];rfl),?_⟩;rw[cV,cX (by lia)];exact (bx _ (fQ _)).1
 nofun;refine⟨by decide,λp1 hp1=>(B1 (Aa.of (AG.new hp1 _ _ _ hx)) ((ax 0 (by decide)).1) ⟨_,rfl,by decide,B1 (Aa.of AC) (E2 (ns:=[2,3,4,2,2,3,6,4,2,3,5,7,2,3,8,9]) (by lia) (by show (xs.getD 0 0%16).toNat<16;lia)) (hN _ _ ?_)⟩)⟩;clear hN N;refine EO (λHX=>AG H HX/\HX x=some (.lst (xs.map 1#0))) ⟨e1.trans (AG.new hp1 (.lst (([2,3,4,2,2,3,6,4,2,3,5,7,2,3,8,9]:qW).map 1#0))),AG.new hp1 _ _ _ hx⟩ ?_;clear hp1 p1 hx e1;rintro H2 ⟨e2,hx⟩
 obtain⟨G,hG,G2,G9⟩:∃G:Nat,([2,3,4,2,2,3,6,4,2,3,5,7,2,3,8,9]:qW).getD (xs.getD 0 0%16).toNat 0=(G:Int)/\2<=G/\G<=9:=by
  have z:∀i<16,2<=([2,3,4,2,2,3,6,4,2,3,5,7,2,3,8,9]:qW).getD i 0/\([2,3,4,2,2,3,6,4,2,3,5,7,2,3,8,9]:qW).getD i 0<=9:=by decide
  have y:=z (xs.getD 0 0%16).toNat (by lia);generalize ([2,3,4,2,2,3,6,4,2,3,5,7,2,3,8,9]:qW).getD (xs.getD 0 0%16).toNat 0=v at y;exact⟨v.toNat,by lia,by lia,by lia⟩
 rw[hG];clear hG;obtain⟨M,aM,M2,M4,sz,sm⟩:=Ym G2 G9;nofun;refine⟨by decide,λp1 hp1=>(B1 (Aa.of AC) aM (hN _ _ ?_))⟩;clear hN N;refine EO (λHX=>AG H HX/\HX x=some (.lst (xs.map 1#0))) ⟨e2.trans (AG.new hp1 _),AG.new hp1 _ _ _ hx⟩ ?_;clear hp1 p1 hx e2 aM;rintro H3 ⟨e3,hx⟩;nofun;refine (B1 (Aa.of hx) ((ax 1 (by decide)).1) ⟨_,rfl,by lia,hN _ _ ?_⟩);clear hN N
 obtain⟨m,hm,m1,mM⟩:∃m:Nat,(m:Int)=1+xs.getD 1 0%(M:Int)/\1<=m/\m<=M:=⟨(1+xs.getD 1 0%(M:Int)).toNat,by have z0:=fe (xs.getD 1 0) (show (M:Int)≠0 by lia);have z1:=fN (xs.getD 1 0) (show 0<(M:Int) by lia);lia⟩
 rw[<-hm];clear hm ax bx lx;nofun;obtain⟨m',hm',m1',mM'⟩:∃m':Nat,(M:Int)+1-(m:Int)=(m':Int)/\1<=m'/\m+m'=M+1:=⟨M+1-m,by lia,by lia,by lia⟩;rw[hm'];refine⟨by decide,λpw hpw=>hN _ _ ?_⟩;clear hN N hm';have gm:G^m<=81:=dM (fF (by lia) mM) sz;have gm':G^m'<=81:=dM (fF (by lia) (show m'<=M by lia)) sz;refine EO (λHX=>AG H HX/\HX pw=some (.lst [V.int (m:Int),V.int (m':Int)])) ⟨e3.trans (AG.new hpw _),AC⟩ ?_;clear hpw hx e3;rintro H4 ⟨e4,hw⟩;nofun;refine (B1 (Aa.of hw) rfl ⟨a,ns,1,rfl,e4.seq hS,hl,G,m,_,rfl,G2,G9,m1,by lia,gm,λr1 lo dl k H5 km e5 ok=>hN _ _ ?_⟩);clear hN N gm;have e45:=e4.trans e5;have hw5:=e5 _ _ hw;nofun;refine (B1 (Aa.of hw5) rfl ⟨a,ns,2,rfl,e45.seq hS,hl,G,m',_,rfl,G2,G9,m1',by lia,gm',λr2 lo' tab' k' H6 km' e6s ok'=>hN _ _ ?_⟩);clear hN N gm' hw5 hw;have e6:AG H H6:=e45.trans e6s;have ok:=ok.same e6s;refine Bw (λσ HX=>∃(pr:qR) (row:qW),σ=[some 2#6,some 9#5,some (.int (G:Int)),some (.int (M:Int)),some (.int (m:Int)),some (.ref pw),some (.ref r1),some (.ref r2),some (.ref pr),none,none,none,none]/\AG H6 HX/\HX pr=some (.lst (row.map 1#0))/\(∀n∈row,0<=n/\n<(G:Int))/\1<=3#9/\3#9<=61) (λN hN=>?_) ?_
 ·refine⟨_,rfl,4,rfl,64,rfl,Go (e6.seq hS) λps H7 e7 _ h7=>?_⟩;rw[R4]at h7;have lc:=Yn ns;refine⟨ps,rfl,⟨_,Aa.of h7⟩,λD hD=>?_⟩;refine D5 (xs:=(R0 ns (some 4) (some 64)).map 1#0) (λi j5 Hx=>Jg (G:Int) i j5/\AG H7 Hx/\Hx D=some 5#0) ⟨Jg.nil,AG.new hD _,AC⟩ (λi j5 Hx _ z=>Aa.of (z.2.1 _ _ h7)) ?_ ?_
  ·refine Jc ?_;rintro i v _ hGo j5 Hx hv ⟨sg,ex,hDx⟩;ac_rfl;obtain⟨y,hy,rfl⟩:=CK hv;have xi:=(cW.mp hy).1;ac_nf;exact⟨by lia,hDx,sg.len (by lia),sg.snoc (by lia) _,ex.into hD,AC⟩
  ·refine Dh ?_;rintro _ hGo j5 H8 ⟨⟨us,rfl,ul,ub⟩,e8,h8⟩;ac_rfl;clear hGo;rw[cU]at ul;have e68:AG H6 H8:=e7.trans e8;ac_nf;refine⟨a,ns,3,rfl,(e6.trans e68).seq hS,hl,_,rfl,by lia,by decide,λp9 h9=>?_⟩;have v0:=fe (ns.getD 3 0) (show (G:Int)≠0 by lia);have v1:=fN (ns.getD 3 0) (show 0<(G:Int) by lia);refine Ut (AG.new h9 _ _ _ h8) AC (by rw[cU];show 6#1+1<=1000;lia) λp10 H10 e10 _ h10=>?_;refine hN _ _ ⟨p10,us++[ns.getD 3 0%(G:Int)],rfl,(e68.trans (AG.new h9 _)).trans e10,by rw[h10,cq];rfl,λn hn=>?_,by rw[cg];exact Nat.le_add_left _ _,by rw[cg];show 6#1+1<=61;lia⟩;rcases cZ.mp hn with z|z
   ·exact ub n z
   ·rw[ce.mp z];exact⟨v0,v1⟩
 rintro _ hGo σ H7 ⟨pr,row,rfl,e7,hr7,rb,n1,n61⟩;ac_rfl;have ok:=ok.same e7;have ok':=ok'.same e7;have t7:Bl LP (Jt "sets_reached") t.p_7 H7:=(Bl.start (hT _ 10#3)).same (e6.trans e7);have e7:=e6.trans e7;obtain⟨low,W,nw⟩:=E4 (G:Int) lo dl k;obtain⟨low',W',nw'⟩:=E4 (G:Int) lo' tab' k';have kk:G^(k+k'-1)<=81:=dM (fF (by lia) (show k+k'-1<=M by lia)) sz;nofun;refine⟨r1,r2,(G:Int),lo,dl,k,lo',tab',k',low,W,low',W',rfl,ok,ok',nw,nw',λz=>qG z ?_,λ_=>λlj Wj nj rj H8 e8 okj=>hN _ _ ?_⟩
 ·have z1:=nw.small ok.m1;have z2:=nw'.small ok'.m1;have z3:=dM (fF (show 0<G by lia) (show W+W'-1<=k+k'-1 by lia)) kk;have z4:=gR G (W+W'-1);lia
 clear hN N;have al:=Kf ok.g2 ok.len ok.m1 ok.tb ok'.len ok'.m1 ok'.tb nw nw' nj;have wj:=nj.small (by have:=nw.one;have:=nw'.one;lia);have w1:=nw.small ok.m1;have w2:=nw'.small ok'.m1;generalize Ek (G:Int) (low+low') (BI (G:Int) (Ek (G:Int) lo dl k low W) W (Ek (G:Int) lo' tab' k' low' W') (W+W'-1)) (W+W'-1) lj Wj=tj at okj al;have wj:Wj<=M:=by lia
 clear nj w1 w2 nw nw' kk;have ok:=ok.same e8;have ok':=ok'.same e8;have hr7:=e8 _ _ hr7;have t7:=t7.same e8;obtain⟨s1,s1t⟩:=UA (lo:=lo) G2 G9 sm ok.len (by lia);obtain⟨s2,s2t⟩:=UA (lo:=lo') G2 G9 sm ok'.len (by lia);obtain⟨sj,sjt⟩:=UA (lo:=lj) G2 G9 sm okj.len wj;nofun;refine⟨r1,(G:Int),lo,dl,k,rfl,ok,s1,s1t,t7,λp1 b1 c1 H9 hb1 hc1 u9 t9 h1=>?_⟩;have ok:=ok.sameT u9 t7;have ok':=ok'.sameT u9 t7;have okj:=okj.sameT u9 t7;refine⟨r2,(G:Int),lo',tab',k',rfl,ok',s2,s2t,t9,λp2 b2 c2 H10 hb2 hc2 u10 t10 h2=>?_⟩;have ok:=ok.sameT u10 t9;have ok':=ok'.sameT u10 t9;have okj:=okj.sameT u10 t9;refine⟨rj,(G:Int),lj,tj,Wj,rfl,okj,sj,sjt,t10,λp3 b3 c3 H11 hb3 hc3 u11 t11 h3=>⟨by decide,λpt hpt=>hN _ _ ?_⟩⟩;clear hN N;have ok:=ok.sameT u11 t10;have ok':=ok'.sameT u11 t10;have okj:=okj.sameT u11 t10;have nt:∀(l:List V) ps,HO.lst l≠.tbl ps:=λl ps z=>by cases z
 have u:=(u9.trans u10).trans u11;have hr:=u.get t7 hr7 (nt _);have h1:=(u10.trans u11).get t9 h1 (nt _);have h2:=u11.get t10 h2 (nt _);have e12:=AG.new hpt (.lst [V.ref p1,V.ref p2,V.ref p3]);obtain⟨b3e,c3e⟩:=Yp ok ok' okj al hb1 hb2 hb3 hc1 hc2 hc3;refine EO (λHX=>AS HX r1 (G:Int) lo dl k/\AS HX r2 (G:Int) lo' tab' k'/\AS HX rj (G:Int) lj tj Wj/\HX pr=some (.lst (row.map 1#0))/\HX p1=some (.lst [V.bl b1,V.bl c1])/\HX p2=some (.lst [V.bl b2,V.bl c2])/\HX p3=some (.lst [V.bl b3,V.bl c3])/\HX pt=some (.lst [V.ref p1,V.ref p2,V.ref p3])) ⟨ok.same e12,ok'.same e12,okj.same e12,e12 _ _ hr,e12 _ _ h1,e12 _ _ h2,e12 _ _ h3,AC⟩ ?_;clear hT e4 e5 e45 e6 e7 e8 ok ok' okj hr7 hr t7 t9 t10 t11 u u9 u10 u11 h1 h2 h3 e12 hpt nt s1t s2t sjt;rintro H ⟨ok,ok',okj,hr,h1,h2,h3,ht⟩;nofun;obtain⟨y1,y2⟩:=Vg b1 c1 b2 c2 b3 c3;refine⟨_,_,.non,.lst 17#9 (.cons (GA h1) (.cons (GA h2) (.cons (GA h3) .nil))),rfl,y1,by decide,?_⟩;rw[y2];refine⟨_,rfl,?_⟩;rw[qE (by decide)];refine hN _ _ ?_;clear hN N y1 y2;nofun;refine (B1 17#9 rfl (B1 17#9 rfl (B1 (Aa.of h1) rfl ⟨_,rfl,?_⟩)))
 have fin:∀(v w:V) (p:qR),v=V.bl b3->w=V.bl c3->H p=none->XE K (V.ref p3) (V.ref p) (AZ H p (.lst [v,w])) λx' H'=>∃k,x'=V.bl k/\if k=true then Q (V.bl false) H' else N [some (V.ref a),some (V.ref x),some (V.int (G:Int)),some (V.int (M:Int)),some (V.int (m:Int)),some (V.ref pw),some (V.ref r1),some (V.ref r2),some (V.ref pr),some (V.ref rj),some (V.ref pt),none,none] H':=by
  rintro v w p rfl rfl hp;have e13:=AG.new hp (.lst [V.bl b3,V.bl c3]);obtain⟨y1,y2,y3⟩:=T9 b3 c3;refine⟨_,_,GA (e13 _ _ h3),GA AC,y1,y1,y2,?_⟩;rw[y3];refine⟨_,rfl,?_⟩;rw[qE (by decide)];refine hN _ _ ?_;clear hN N y1 y2 y3;have ok:=ok.same e13;have ok':=ok'.same e13;have okj:=okj.same e13;have hr:=e13 _ _ hr;have h3:=e13 _ _ h3;have ht:=e13 _ _ ht;clear h1 h2;generalize AZ H p (.lst [V.bl b3,V.bl c3])=HX at ok ok' okj hr h3 ht⊢;clear e13 hp;refine EF okj.g2 lj (dl:=tj) (m:=Wj) λlf tf mf fw=>?_;have s9:=sj _ _ _ fw;have iv:=FH okj.g2 okj.len okj.m1 okj.tb fw s9;nofun;refine⟨rj,(G:Int),lj,tj,Wj,lf,tf,mf,rfl,okj,fw,s9,λz pf H1 e1 nv=>hN _ _ ?_,λz pf H1 e1 nv=>hN _ _ ?_,λpf ra lb tb mb H1 e1 hf okb U=>hN _ _ ?_⟩
  ·clear hN N;have c3f:c3=false:=Bool.eq_false_iff.mpr λy=>iv.mp (hc3.mp y) z
   obtain⟨e,D,hpf,he⟩:=nv;nofun;refine (B1 (Aa.of (e1 _ _ ht)) rfl (B1 (Aa.of (e1 _ _ h3)) rfl ⟨_,rfl,?_⟩));rw[qF c3f];refine (B1 (Aa.of hpf) rfl ⟨_,.exc he T.ek_29,_,T.kt_29_29,?_⟩);rw[qF rfl];exact (B1 (Aa.of hpf) rfl ⟨_,.exc he T.ek_29,_,T.kt_29_46,q _⟩)
  ·clear hN N;have c3t:c3=true:=hc3.mpr (iv.mpr z);obtain⟨e,D,hpf,he⟩:=nv;nofun;refine (B1 (Aa.of (e1 _ _ ht)) rfl (B1 (Aa.of (e1 _ _ h3)) rfl ⟨_,rfl,?_⟩));rw[qE (by rw[c3t];decide)];refine hN _ _ ?_;clear hN N;nofun;refine (B1 (Aa.of hpf) rfl ?_);rw[qF (λy=>by cases y)];exact (B1 (Aa.of hpf) rfl ⟨e,D,rfl,he,q _⟩)
  ·clear hN N;have c3t:c3=true:=hc3.mpr ⟨lb,tb,mb,U⟩;have cc:c1=true/\c2=true:=by rw[<-eO,<-c3e];exact c3t
   have U:=U.like (Bu okj.g2 dl k tab' (k+k'-1)) (by have:=ok.m1;have:=ok'.m1;lia) (Db okj.g2 _ _ ok'.tb _) al.symm;nofun;refine (B1 (Aa.of (e1 _ _ ht)) rfl (B1 (Aa.of (e1 _ _ h3)) rfl ⟨_,rfl,?_⟩));rw[qE (by rw[c3t];decide)];refine hN _ _ ?_;clear hN N;nofun;refine (B1 (Aa.of hf) rfl ?_);rw[qE (by decide)];refine hN _ _ ?_;clear hN N;have ok:=ok.same e1;have ok':=ok'.same e1;have hr:=e1 _ _ hr;nofun;refine⟨r1,pr,(G:Int),lo,dl,k,row,rfl,ok,Aa.of hr,rb,n1,by lia,λq1 H2 l1=>?_⟩;refine⟨r2,q1,(G:Int),lo',tab',k',_,rfl,ok'.same l1.1,Aa.of l1.2.2,Lj ok.g2 _ ok.tb _ _,by rw[Bq];exact n1,by rw[Bq];lia,λq2 H3 l2=>hN _ _ ?_⟩;clear hN N;have e3:=l1.1.trans l2.1;ac_nf;refine (B1 (Aa.of (e3 _ _ hf)) rfl ⟨ra,q2,(G:Int),lb,tb,mb,_,rfl,okb.same e3,Aa.of l2.2.2,Lj ok.g2 _ ok'.tb _ _,by rw[Bq,Bq];exact n1,by rw[Bq,Bq];lia,λq3 H4 l3=>?_⟩);have e4:=e3.trans l3.1;refine⟨q3,rfl,_,Aa.of l3.2.2,_,Aa.of (e4 _ _ hr),?_⟩;have rg:=U.ring rb n1;rw[Nv ok.g2 lo lo' dl tab' ok.m1 ok'.m1 rb n1]at rg;rw[qF rg];exact (B1 (Aa.of (e4 _ _ hf)) rfl ⟨r1,r2,ra,(G:Int),lo,dl,k,lo',tab',k',lb,tb,mb,rfl,ok.same e4,ok'.same e4,s1,s2,hc1.mp cc.1,hc2.mp cc.2,okb.same e4,U,λH' _=>q H'⟩)
 cases b1 with
 |false =>
  rw[qE (by decide)];refine (B1 17#9 rfl (B1 (Aa.of h1) rfl ⟨_,rfl,?_⟩));cases c1 with
  |false =>
   rw[qE (by decide)];exact⟨by decide,λp hp=>fin _ _ p 17#5 17#4 hp⟩
  |true =>
   rw[qF rfl];exact (B1 17#9 rfl (B1 (Aa.of h2) rfl ⟨by decide,λp hp=>fin _ _ p 17#5 17#4 hp⟩))
 |true =>
  rw[qF rfl];refine (B1 17#9 rfl (B1 (Aa.of h2) rfl (B1 17#9 rfl (B1 (Aa.of h1) rfl ⟨_,rfl,?_⟩))));cases c1 with
  |false =>
   rw[qE (by decide)];exact⟨by decide,λp hp=>fin _ _ p 17#5 17#4 hp⟩
  |true =>
   rw[qF rfl];exact (B1 17#9 rfl (B1 (Aa.of h2) rfl ⟨by decide,λp hp=>fin _ _ p 17#5 17#4 hp⟩))
end
theorem Yu{l:PySem.W.OpenLaw}{w:qU}{K:qV}{h:Heap}{mg:Str->Option qQ}{fa c_41 c_56 c_66 c_57 c_40 c_46 c_29 f_44 f_48 f_21 f_5 f_38 f_55 f_20 f_27 f_9 f_15 f_73 f_63 f_37 f_39 f_68 f_59 f_43 f_1 f_36 f_62 f_74 f_53 f_71 f_76 f_65 f_61 f_64 f_52 f_58 f_54 f_35 f_67 f_69 f_22 f_47 f_8 f_51 f_50 f_17 f_6 f_23 f_49 f_34 f_28 f_42 f_60 f_25 f_26 f_70 f_24 f_45 f_7 f_16 f_72 f_4 f_12 f_32 f_11 f_33 f_2 f_13 f_18 f_19 f_31 f_30 f_10 f_3 f_14 f_0 f_75 k_EVEN cc_7 p_7:qR}{g_LONGEST_TABLE g_MOST_NODES:Tok}(X:K.In h)(G:h.Ns mainGlobals mg)(hfa:mg "law"=some 19#2)
  (n_41:PySem.W.nsIn K mainGlobals "RowError"=some (some (.ref c_41)))
  (n_56:PySem.W.nsIn K mainGlobals "NoRule"=some (some (.ref c_56)))
  (n_66:PySem.W.nsIn K mainGlobals "NoRow"=some (some (.ref c_66)))
  (n_57:PySem.W.nsIn K mainGlobals "NoSuch"=some (some (.ref c_57)))
  (n_40:PySem.W.nsIn K mainGlobals "NoWindow"=some (some (.ref c_40)))
  (n_46:PySem.W.nsIn K mainGlobals "TooWide"=some (some 12#2))
  (n_29:PySem.W.nsIn K mainGlobals "NoWayBack"=some (some 12#3))
  (n_EVEN:PySem.W.nsIn K mainGlobals "EVEN"=some (some (.ref k_EVEN)))
  (q_EVEN:PM K k_EVEN [0,0]=true)
  (h_44:AV K "is_whole" Xj f_44)
  (h_48:AV K "is_sign" Xk f_48)
  (h_21:AV K "check_word" Xl f_21)
  (h_5:AV K "check_length" bW f_5)
  (h_38:AV K "number_of" Xm f_38)
  (h_55:AV K "word_of" Xn f_55)
  (h_20:AV K "check_head" Xo f_20)
  (h_27:AV K "places_for" Xp f_27)
  (h_9:AV K "table_length" be f_9)
  (h_15:AV K "check_table" Xq f_15)
  (h_73:AV K "rule" Xr f_73)
  (h_63:AV K "places" Xs f_63)
  (h_37:AV K "next_sign" Xt f_37)
  (h_39:AV K "told_from" Xu f_39)
  (h_68:AV K "heads" Xv f_68)
  (h_59:AV K "counts" Xw f_59)
  (h_43:AV K "counting" Xx f_43)
  (h_1:AV K "sign_or_nought" bf f_1)
  (h_36:AV K "by_window" Xy f_36)
  (h_62:AV K "narrow" Xz f_62)
  (h_74:AV K "same" X0 f_74)
  (h_53:AV K "widened" X1 f_53)
  (h_71:AV K "lead" X3 f_71)
  (h_76:AV K "led" X4 f_76)
  (h_65:AV K "turned" X5 f_65)
  (h_61:AV K "joined" X6 f_61)
  (h_64:AV K "shares" X7 f_64)
  (h_52:AV K "ways_on" X8 f_52)
  (h_58:AV K "choose" X9 f_58)
  (h_54:AV K "word_by" YA f_54)
  (h_35:AV K "before_at" YB f_35)
  (h_67:AV K "frame" YC f_67)
  (h_69:AV K "nodes" YD f_69)
  (h_22:AV K "everything" YE f_22)
  (h_47:AV K "ends_of" YF f_47)
  (h_8:AV K "single_steps" bg f_8)
  (h_51:AV K "step_by" YG f_51)
  (h_50:AV K "reached" YH f_50)
  (h_17:AV K "turned_back" YI f_17)
  (h_6:AV K "fewest_steps" bj f_6)
  (h_23:AV K "most_steps" YJ f_23)
  (h_49:AV K "pair_of" YK f_49)
  (h_34:AV K "all_pairs" YL f_34)
  (h_28:AV K "word_pairs" YM f_28)
  (h_42:AV K "begin_of" YN f_42)
  (h_60:AV K "end_of" YO f_60)
  (h_25:AV K "pair_nexts" YQ f_25)
  (h_26:AV K "pair_ranks" YR f_26)
  (h_70:AV K "ranks" YS f_70)
  (h_24:AV K "one_to_one" YT f_24)
  (h_45:AV K "way_back" YU f_45)
  (h_7:Pg K "sets_reached" bo f_7 cc_7 p_7)
  (h_16:AV K "reach_paper" YV f_16)
  (h_72:AV K "onto" YW f_72)
  (h_4:AV K "_law_cell_at" bq f_4)
  (h_12:AV K "_law_stream" YX f_12)
  (h_32:AV K "_law_size" YY f_32)
  (h_11:AV K "_law_places" YZ f_11)
  (h_33:AV K "_law_word" Ya f_33)
  (h_2:AV K "_law_ring_led" br f_2)
  (h_13:AV K "_law_tracks" Yc f_13)
  (h_18:AV K "_law_marks" Yd f_18)
  (h_19:AV K "_law_table" Ye f_19)
  (h_31:AV K "_law_rule" Yf f_31)
  (h_30:AV K "_law_back" Yg f_30)
  (h_10:AV K "_law_joined" Yh f_10)
  (h_3:AV K "_law_too_wide" bt f_3)
  (h_14:AV K "_law_truths" Yi f_14)
  (h_0:AV K "_law_ways_back" bu f_0)
  (h_75:AV K "law" Vc f_75)
  (z_len:PySem.W.nsIn K mainGlobals "len"=some none)
  (z_list:PySem.W.nsIn K mainGlobals "list"=some none)
  (z_reversed:PySem.W.nsIn K mainGlobals "reversed"=some none)
  (z_isinstance:PySem.W.nsIn K mainGlobals "isinstance"=some none)
  (z_range:PySem.W.nsIn K mainGlobals "range"=some none)
  (z_int:PySem.W.nsIn K mainGlobals "int"=some none)
  (z_bool:PySem.W.nsIn K mainGlobals "bool"=some none)
  (z_ValueError:PySem.W.nsIn K mainGlobals "ValueError"=some none)
  (z_tuple:PySem.W.nsIn K mainGlobals "tuple"=some none)
  (z_enumerate:PySem.W.nsIn K mainGlobals "enumerate"=some none)
  (z_min:PySem.W.nsIn K mainGlobals "min"=some none)
  (z_sum:PySem.W.nsIn K mainGlobals "sum"=some none)
  (z_sorted:PySem.W.nsIn K mainGlobals "sorted"=some none)
  (z_all:PySem.W.nsIn K mainGlobals "all"=some none)
  (w_LONGEST_TABLE:PySem.W.nsIn K mainGlobals "LONGEST_TABLE"=some (some (.int 256 g_LONGEST_TABLE)))
  (w_MOST_NODES:PySem.W.nsIn K mainGlobals "MOST_NODES"=some (some (.int 9 g_MOST_NODES)))
  (x_40:PySem.W.excIn K c_40 NT "ValueError.__new__"=true)
  (x_46:PySem.W.excIn K c_46 NT "ValueError.__new__"=true)
  (x_29:PySem.W.excIn K c_29 NT "ValueError.__new__"=true)
  (ci_46:(PySem.W.clsIn K c_46).isSome=true)
  (ga_46:PySem.W.findIn K 12#2 "__getattribute__"=some (some (.builtin "BaseException.__getattribute__")))
  (gn_46:PySem.W.findIn K 12#2 "__getattr__"=some none)
  (ca_46:PySem.W.findIn K 12#2 "__class__"=some (some (.builtin "object.__class__")))
  (sg_46:PySem.W.specialIn K (.builtin "object.__class__") "__get__"=some (some (.builtin "getset_descriptor.__get__")))
  (tk_46:PySem.W.takesIn K (.builtin "object.__class__")=some true)
  (mo_46:PySem.W.mroIn K c_46 (.type "object")=some true)
  (mb_46:PySem.W.mroIn K c_46 (.type "BaseException")=some true)
  (ci_29:(PySem.W.clsIn K c_29).isSome=true)
  (ga_29:PySem.W.findIn K 12#3 "__getattribute__"=some (some (.builtin "BaseException.__getattribute__")))
  (gn_29:PySem.W.findIn K 12#3 "__getattr__"=some none)
  (ca_29:PySem.W.findIn K 12#3 "__class__"=some (some (.builtin "object.__class__")))
  (sg_29:PySem.W.specialIn K (.builtin "object.__class__") "__get__"=some (some (.builtin "getset_descriptor.__get__")))
  (tk_29:PySem.W.takesIn K (.builtin "object.__class__")=some true)
  (mo_29:PySem.W.mroIn K c_29 (.type "object")=some true)
  (mb_29:PySem.W.mroIn K c_29 (.type "BaseException")=some true)
  (kt_46_46:PySem.W.kitOne K 12#2 12#2=some true)
  (kt_46_29:PySem.W.kitOne K 12#2 12#3=some false)
  (kt_29_46:PySem.W.kitOne K 12#3 12#2=some false)
  (kt_29_29:PySem.W.kitOne K 12#3 12#3=some true)
  (em_46_41:PySem.W.exmOne K 12#2 (.ref c_41)=some true)
  (em_29_41:PySem.W.exmOne K 12#3 (.ref c_41)=some true)
  : (∀P∈[p_7],∃c,PySem.W.codeHdIn K c P=true)/\∃fd:FuncData,(∀(s:qS) (v:qQ),BindsTo s fd ⟨[v],[]⟩ [("_law_script",v)])/\∀base:Heap,K.In base->base.Ns mainGlobals mg->FD mg base->Fu l.prog w K mg base (J7 l.prog w) 15 fa fd ["_law_script"] (LB K [p_7]):=by
 have mo:∀{n:Str}{v:Value},PySem.W.nsIn K mainGlobals n=some 11#0->mg n=some v:=λe=>PySem.W.mg_of X G e;have T:B8 K mg ⟨c_41,c_56,c_66,c_57,c_40,c_46,c_29,f_44,f_48,f_21,f_5,f_38,f_55,f_20,f_27,f_9,f_15,f_73,f_63,f_37,f_39,f_68,f_59,f_43,f_1,f_36,f_62,f_74,f_53,f_71,f_76,f_65,f_61,f_64,f_52,f_58,f_54,f_35,f_67,f_69,f_22,f_47,f_8,f_51,f_50,f_17,f_6,f_23,f_49,f_34,f_28,f_42,f_60,f_25,f_26,f_70,f_24,f_45,f_7,f_16,f_72,f_4,f_12,f_32,f_11,f_33,f_2,f_13,f_18,f_19,f_31,f_30,f_10,f_3,f_14,f_0,f_75,k_EVEN,cc_7,p_7⟩:=⟨mo n_41,mo n_56,mo n_66,mo n_57,mo n_40,mo n_46,mo n_29,mo n_EVEN,q_EVEN,dX X G h_44,dX X G h_48,dX X G h_21,dX X G h_5,dX X G h_38,dX X G h_55,dX X G h_20,dX X G h_27,dX X G h_9,dX X G h_15,dX X G h_73,dX X G h_63,dX X G h_37,dX X G h_39,dX X G h_68,dX X G h_59,dX X G h_43,dX X G h_1,dX X G h_36,dX X G h_62,dX X G h_74,dX X G h_53,dX X G h_71,dX X G h_76,dX X G h_65,dX X G h_61,dX X G h_64,dX X G h_52,dX X G h_58,dX X G h_54,dX X G h_35,dX X G h_67,dX X G h_69,dX X G h_22,dX X G h_47,dX X G h_8,dX X G h_51,dX X G h_50,dX X G h_17,dX X G h_6,dX X G h_23,dX X G h_49,dX X G h_34,dX X G h_28,dX X G h_42,dX X G h_60,dX X G h_25,dX X G h_26,dX X G h_70,dX X G h_24,dX X G h_45,mo h_7.2,h_7.1,(let ⟨_,z⟩:=h_7.1;z.hd),dX X G h_16,dX X G h_72,dX X G h_4,dX X G h_12,dX X G h_32,dX X G h_11,dX X G h_33,dX X G h_2,dX X G h_13,dX X G h_18,dX X G h_19,dX X G h_31,dX X G h_30,dX X G h_10,dX X G h_3,dX X G h_14,dX X G h_0,dX X G h_75,PySem.W.mg_none_of X G z_len,PySem.W.mg_none_of X G z_list,PySem.W.mg_none_of X G z_reversed,PySem.W.mg_none_of X G z_isinstance,PySem.W.mg_none_of X G z_range,PySem.W.mg_none_of X G z_int,PySem.W.mg_none_of X G z_bool,PySem.W.mg_none_of X G z_ValueError,PySem.W.mg_none_of X G z_tuple,PySem.W.mg_none_of X G z_enumerate,PySem.W.mg_none_of X G z_min,PySem.W.mg_none_of X G z_sum,PySem.W.mg_none_of X G z_sorted,PySem.W.mg_none_of X G z_all,⟨_,mo w_LONGEST_TABLE⟩,⟨_,mo w_MOST_NODES⟩,x_40,x_46,x_29,⟨ci_46,ga_46,gn_46,ca_46,sg_46,tk_46,mo_46,mb_46⟩,⟨ci_29,ga_29,gn_29,ca_29,sg_29,tk_29,mo_29,mb_29⟩,kt_46_46,kt_46_29,kt_29_46,kt_29_29,em_46_41,em_29_41⟩;have e:=hfa.symm.trans T.d_75.1;cases e;obtain⟨fd,F⟩:=T.d_75.2;obtain⟨oc,od,kV,doc,pm,an,j6,ct,osl,ef,lk,hcd⟩:=F.ex;refine⟨(List.forall_mem_cons.mpr ⟨⟨_,T.hd_7⟩,(λ_ h=>qG h cu)⟩),fd,λs v=>by rw[ef];exact .of_eq rfl,λbase _ _ hB=>?_⟩;exact ag T F hB
end K91
noncomputable def PySem.W.Fast.tw13283199922417046039:=PySem.Challenge.pw_rowrules_k91_whole_both_and_only_both
theorem PySem.W.Fast.te13283199922417046039:PySem.Challenge.pw_rowrules_k91_whole_both_and_only_both=PySem.W.Fast.tw13283199922417046039:=rfl
namespace PySem.W.Fast
abbrev A:=Nat
def tw11449291075143536552:=A
def tw10178652051409860817:=A
def tw8837365925416506569:=A
def tw13186862132999138584:=A
def tw4037206304960057388:=A
def tw6507724191171119132:=A
def tw6189438738048319577:=A
def tw2904222960298398921:=A
def tw2814012466007777146:=A
def tw8853926417855956498:=A
def tw15656984969275285549:=A
def tw5791149907859093496:=A
def tw2313792408412327763:=A
def tw16436061268722067502:=A
def tw13675857825693402002:=A
def tw9469641205207890286:=A
def tw13198426268417844123:=A
def tw9388428932061246008:=A
def tw4772387772818585312:=A
def tw17318244628535865549:=A
def tw1878618405076937309:=A
def tw2111940243579987964:=A
def tw2535287192967573943:=A
def tw8249435708417566037:=A
def tw17673198250236087777:=A
def tw821017485664543021:=A
def tw843510029036455633:=A
def tw11662997660001519086:=A
def tw7257595724315944191:=A
def tw15135719397507313036:=A
def tw12169549133712818354:=A
def tw15048296010319836318:=A
def tw3052055602491010414:=A
def tw10046513363508420816:=A
def tw16546291126294588485:=A
def tw13009922602308723657:=A
def tw11568293261577035911:=A
def tw2873160311655213013:=A
def tw13825364106334453778:=A
def tw8529713347793526480:=A
def tw2581513464589354527:=A
def tw12405952334247332363:=A
def tw9371643612124496271:=A
def tw11322022395976495181:=A
def tw14850256904613228365:=A
def tw13736169763901672092:=A
def tw14282634546754926440:=A
def tw10454556223649269487:=A
def tw4994308149485207208:=A
def tw13386007534861055809:=A
def tw10732972922641394042:=A
def tw10089509833600328957:=A
def tw11108924215201093294:=A
def tw15575556365197901897:=A
def tw18370170347647990076:=A
def tw795569155011625002:=A
def tw9178834381763907801:=A
def tw15321027920095357641:=A
def tw2690325691722661310:=A
def tw8084307663699738461:=A
def tw16970408856140339397:=A
def tw14907364863751318433:=A
def tw6416822118350950419:=A
def tw9374498315864973904:=A
def tw10226979683353971537:=A
def tw8144449072912825032:=A
def tw15483379253924957579:=A
def tw15441787341851567353:=A
def tw13252500785250085805:=A
def tw5289061449753147130:=A
def tw10040298712046056612:=A
def tw5187798323724566859:=A
def tw7633473349788730741:=A
def tw15743101581242785140:=A
def tw7436180293769452104:=A
def tw3214640318419918619:=A
def tw5596942326990961009:=A
def tw12776964724497939953:=A
def tw5150080274261845748:=A
def tw1130902519047449060:=A
def tw4323207244010458836:=A
def tw17626920873446772674:=A
def tw6788913086447604103:=A
def tw10754199723613252427:=A
def tw4315533242320058234:=A
def tw15326555458088187767:=A
def tw17739912104984617950:=A
def tw14594933922259336508:=A
def tw7053151394779253790:=A
def tw2157299644188444521:=A
def tw7954167912572541660:=A
def tw18016870030991313640:=A
def tw9943933223869570480:=A
def tw8699193039332396320:=A
def tw16352196580374378939:=A
def tw11998284242086056942:=A
def tw6517836747353388782:=A
def tw8773136831837826882:=A
def tw5010438418815040062:=A
def tw2693999288898123176:=A
def tw3609186438216358517:=A
def tw2288386922944595994:=A
def tw329150247137556927:=A
def tw2218474569941021330:=A
def tw5096365576634965405:=A
def tw7202890064275468145:=A
def tw8003802579636813438:=A
def tw1775162010174993368:=A
def tw1461495654567012031:=A
def tw4412340831566519842:=A
def tw1173477131727839016:=A
def tw10367638740131855419:=A
def tw2247104261417338547:=A
def tw4782140296757623851:=A
def tw1879524283887250000:=A
def tw483694933402678555:=A
def tw936660856397743260:=A
def tw7878192423051783586:=A
def tw14564078502483475533:=A
def tw5414384402183565180:=A
def tw10648905171038480085:=A
def tw9952867953120593127:=A
def tw11033241778174378632:=A
def tw17597949297323767255:=A
def tw4267007657880152644:=A
def tw18016078676819633485:=A
def tw15491067180301657964:=A
def tw8537690114465039318:=A
def tw2516757282416279055:=A
def tw10087333659064786350:=A
def tw2384471734375317500:=A
def tw3357334333694474427:=A
def tw14506255653719768120:=A
def tw2001372947179151179:=A
def tw296372900423513138:=A
def tw6204644276070899397:=A
def tw2238745017727285317:=A
def tw2075818786398131242:=A
def tw18114096852785121507:=A
def tw18125602862529901371:=A
def tw18424152943368112938:=A
def tw4925436718949761732:=A
def tw8255426025308644596:=A
def tw9170962122813704085:=A
def tw10551921519939211727:=A
def tw1902021904322799748:=A
def tw14230954007778137725:=A
def tw6120216069218596116:=A
def tw11859593725821131333:=A
def tw6133436283971929510:=A
def tw12604119883713640438:=A
def tw2047894974198495705:=A
def tw15338232977694402739:=A
def tw6762421680985065225:=A
def tw7236291309709241229:=A
def tw7310175689788351669:=A
def tw14846003599581415334:=A
def tw11131959612368947691:=A
def tw13604932845293606445:=A
def tw12236887811022257342:=A
def tw14769985638186772639:=A
def tw12801246363746667447:=A
def tw13314456011300972343:=A
def tw14416113540730298137:=A
def tw12121303520778643239:=A
def tw11265231500381082179:=A
def tw15553771059814551551:=A
def tw8427934224657233001:=A
def tw3071194526492706146:=A
def tw18294631435443830154:=A
def tw8233566017650875921:=A
def tw14122966348875838290:=A
def tw17789706836795048380:=A
def tw11468131632180142129:=A
def tw9196815764530546589:=A
def tw2560510046475971628:=A
def tw10582388165950925969:=A
def tw13532336384314422484:=A
def tw18215642732311353853:=A
def tw18372664295049542561:=A
def tw14414636778409154524:=A
def tw8405442112991471004:=A
def tw670422618453793956:=A
def tw5696672919869944371:=A
def tw16946660131204555467:=A
def tw4423816409444123818:=A
def tw6968564885741575183:=A
def tw357233037285591319:=A
def tw7122460351783539206:=A
def tw8788279437813662640:=A
def tw662109129763581225:=A
def tw9455938714749125716:=A
def tw16304852222441688490:=A
def tw7352323354671701794:=A
def tw14959700990244966208:=A
def tw18332803459207755735:=A
def tw2270839706128544496:=A
def tw14549371726431376677:=A
def tw625527885907408383:=A
def tw1383937425105227229:=A
def tw9369425981113535515:=A
def tw9020540232085067753:=A
def tw9907593739242908253:=A
def tw9596312235952704119:=A
def tw5600517992695025338:=A
def tw2753617296444582835:=A
def tw427914943340630352:=A
def tw12287209812778126230:=A
def tw14726662548429984893:=A
def tw816605577622677304:=A
def tw1434645875686955148:=A
def tw1311299018903790813:=A
def tw17838150906527280082:=A
def tw13992977180500297163:=A
def tw1650205779844526541:=A
def tw16116767942909217505:=A
def tw11717540121948306471:=A
def tw2811512028975786482:=A
def tw10000958636709296247:=A
def tw4621568109478220744:=A
def tw11505053831572987441:=A
def tw4447583438428159976:=A
def tw3567555421806109716:=A
def tw3625324871068302638:=A
def tw11110506193681201147:=A
def tw5596845947680983016:=A
def tw10061796775055064339:=A
def tw6708803964543181443:=A
def tw9424136082872989257:=A
def tw3854965294455303616:=A
def tw3550378278740363357:=A
def tw627675257426575453:=A
end PySem.W.Fast
open PySem PySem.W PyProof.Rows
set_option maxRecDepth 100000 in
set_option maxHeartbeats 0 in
theorem PySem.Challenge.cw_rowrules_k91_whole_both_and_only_both_holds : PySem.Challenge.rw_rowrules_k91_whole_both_and_only_both.Holds := by
 w_on;o_law;k_head;(case hw=>w_witness2)
 k_fill
 refine L2.Q9 (l:=PySem.Challenge.rw_rowrules_k91_whole_both_and_only_both) (k:=15) (n:=0) (x:="_law_script") (ts:=[_]) rfl rfl ⟨rfl,by decide,by decide⟩ (λw h Y=>⟨PySem.W.km_in_of Y,PySem.W.km_tabs_of Y⟩) ?hTab ?F
 case hTab=>exact λw=>(List.forall_mem_cons.mpr ⟨by kernel_rfl,λ_ h=>absurd h cu⟩)
 case F =>
  intro w mg fa h KX G hmg;refine' K91.Yu KX G hmg ?_ ?_ ?_ ?_ ?_ ?_ ?_ ?_ ?_ (L2.AX ?_ ?_ ?_ ?_) (L2.AX ?_ ?_ ?_ ?_) (L2.AX ?_ ?_ ?_ ?_) (L2.AX ?_ ?_ ?_ ?_) (L2.AX ?_ ?_ ?_ ?_) (L2.AX ?_ ?_ ?_ ?_) (L2.AX ?_ ?_ ?_ ?_) (L2.AX ?_ ?_ ?_ ?_) (L2.AX ?_ ?_ ?_ ?_) (L2.AX ?_ ?_ ?_ ?_) (L2.AX ?_ ?_ ?_ ?_) (L2.AX ?_ ?_ ?_ ?_) (L2.AX ?_ ?_ ?_ ?_) (L2.AX ?_ ?_ ?_ ?_) (L2.AX ?_ ?_ ?_ ?_) (L2.AX ?_ ?_ ?_ ?_) (L2.AX ?_ ?_ ?_ ?_) (L2.AX ?_ ?_ ?_ ?_) (L2.AX ?_ ?_ ?_ ?_) (L2.AX ?_ ?_ ?_ ?_) (L2.AX ?_ ?_ ?_ ?_) (L2.AX ?_ ?_ ?_ ?_) (L2.AX ?_ ?_ ?_ ?_) (L2.AX ?_ ?_ ?_ ?_) (L2.AX ?_ ?_ ?_ ?_) (L2.AX ?_ ?_ ?_ ?_) (L2.AX ?_ ?_ ?_ ?_) (L2.AX ?_ ?_ ?_ ?_) (L2.AX ?_ ?_ ?_ ?_) (L2.AX ?_ ?_ ?_ ?_) (L2.AX ?_ ?_ ?_ ?_) (L2.AX ?_ ?_ ?_ ?_) (L2.AX ?_ ?_ ?_ ?_) (L2.AX ?_ ?_ ?_ ?_) (L2.AX ?_ ?_ ?_ ?_) (L2.AX ?_ ?_ ?_ ?_) (L2.AX ?_ ?_ ?_ ?_) (L2.AX ?_ ?_ ?_ ?_) (L2.AX ?_ ?_ ?_ ?_) (L2.AX ?_ ?_ ?_ ?_) (L2.AX ?_ ?_ ?_ ?_) (L2.AX ?_ ?_ ?_ ?_) (L2.AX ?_ ?_ ?_ ?_) (L2.AX ?_ ?_ ?_ ?_) (L2.AX ?_ ?_ ?_ ?_) (L2.AX ?_ ?_ ?_ ?_) (L2.AX ?_ ?_ ?_ ?_) (L2.AX ?_ ?_ ?_ ?_) (L2.AX ?_ ?_ ?_ ?_) (L2.AX ?_ ?_ ?_ ?_) (L2.AX ?_ ?_ ?_ ?_) (L2.VT ?_ ?_ ?_ ?_ ?_) (L2.AX ?_ ?_ ?_ ?_) (L2.AX ?_ ?_ ?_ ?_) (L2.AX ?_ ?_ ?_ ?_) (L2.AX ?_ ?_ ?_ ?_) (L2.AX ?_ ?_ ?_ ?_) (L2.AX ?_ ?_ ?_ ?_) (L2.AX ?_ ?_ ?_ ?_) (L2.AX ?_ ?_ ?_ ?_) (L2.AX ?_ ?_ ?_ ?_) (L2.AX ?_ ?_ ?_ ?_) (L2.AX ?_ ?_ ?_ ?_) (L2.AX ?_ ?_ ?_ ?_) (L2.AX ?_ ?_ ?_ ?_) (L2.AX ?_ ?_ ?_ ?_) (L2.AX ?_ ?_ ?_ ?_) (L2.AX ?_ ?_ ?_ ?_) (L2.AX ?_ ?_ ?_ ?_) (L2.AX ?_ ?_ ?_ ?_) ?_ ?_ ?_ ?_ ?_ ?_ ?_ ?_ ?_ ?_ ?_ ?_ ?_ ?_ ?_ ?_ ?_ ?_ ?_ ?_ ?_ ?_ ?_ ?_ ?_ ?_ ?_ ?_ ?_ ?_ ?_ ?_ ?_ ?_ ?_ ?_ ?_ ?_ ?_ ?_ ?_
  any_goals k_is
  ·kernel_rfl
  ·kernel_rfl
  ·k_exc
  ·k_exc
  ·k_exc
  ·show PySem.W.isClsIn _ _=true;k_is
  ·show PySem.W.isClsIn _ _=true;k_is
  ·kit_is
  ·kit_is
  ·kit_is
  ·kit_is
  ·kts_exm
  ·kts_exm
