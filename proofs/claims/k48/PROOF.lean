import PyProof.Rows.All
import Wide.All
import OpenK.AllK
import Wide.FinOn
import Lean
import PyProof.EqAt
import PyProof.EqKinds
import PyProof.TupleCall
import PySem.Challenge.RW_rowrules_k48_whole_rows_of_joined_rules
set_option Elab.async false
set_option linter.all false
set_option maxRecDepth 100000
theorem byG{T:Prop}(h:∀G:Prop,(T->G)->G):T:=h T id
local macro_rules|`(tactic|rcases $e:term with⟨$p,*⟩)=>`(tactic|(refine byG fun G h=>?_;obtain⟨$p,*⟩:=$e;refine h ?_;clear h G))
set_option compiler.extract_closed false in
open Lean in
local macro_rules|`($n:num#$m:num)=>do
 let q:=#[←`(by lia),←`(by decide),←`(by with_unfolding_all rfl),←`(by simp),←`(λ_ _=>rfl),←`(by decide +kernel)]
 return((("s.heap.objs.size,g.toNat,model prog w,j3.length,model X.prog X.w,compEnvC scope cl C X.env,tf.length,xs.length,ns.length,ns.map V.int,X.env,s1.heap.objs.size,tab'.length,.ref p,.ref a,V.int,kvs.length,.ref d,pv 0,ls.map V.ref,tb.length,.ref D,its.toArray.size,X.env.locals,List.length_map,ps.map V.ref,.lst xs,pv 1,s2.heap.objs.size,ls2.map V.ref,Cn g lo j3 m low M,pv 2,AA #24 AC,X.s₀.heap.objs.size,A.length,intKind prog w,Ac 0,A4 I q #3,List.length_range,vs.length,Or.inl rfl,Ac 1,.lst j6,CQ K,w.length,hr.mono #1,starEach es #16,AA #33 AC,.ref r,ps.length,Am X.prog X.w,.int g,Option Nat,I.ok.hd hc,a₀.toList,.ref f,.ref d2,.dK kvs,V.ref,k.map kV,es.size,tupleKeyHash #41 ns,.ref it,l.length,its.toArray,EP X ad σ Q,ns.map PyData.int,below t.place q.j,AU H d u',AA #47 AC,AA #42 AC,AA #37 AC,s.toks,pv 3,X.stack,X.A.units,tupleKind_room_in1 hu,Ac 2,AH st,envOfC qual #84 s.heap.objs.size f j8,True.intro,Ai.of h1,.inl rfl,pv 4,vs.toArray,.lst #31,.ref b,.int i,.Name x pos,.ref l,.fresh 0 0 led,a.size,ES CX P w K mg base N qual scope f j8 A outer s H E,List.size_toArray,Ad.of hpX,.ref #6,us.length,a₀.size,BH g tf,.tup xs,tupleKind #56,model P w,r.length,A.handled,envOfC qual scope s.heap.objs.size f cd,row.length,h'.objs.size,Value.none,FO s₁.heap H,.ref e,.builtin id,scope.names,t.probeStart #67,out.toList,Di rfl T.g_LONGEST_TABLE,Cn g lo' tab' m' low' M',.ref d1,j3.map #21,cQ.mpr rfl,Ud X.prog X.w d bs,.bool true,.Subscript o i pos,ws'.map #64,Ds t.mask q,pv 5,o.data,ds.length,M.length,List.not_mem_nil,List.filterMap_cons,some v,PySem.W.fnOf name qual params body scope dV kV doc pm an j8 ct,JU P w,CD hr,A.deeper #85,Builtin.List.listLengthHint #23,s'.heap,m.toNat,BM AC,h.objs.size,HH.objs.size,eval o #16,AA #24 #53,Cm N vs,scope.kind,I.ok.above,Value.ref a,Rf eP PySem.F.slot_list_pop PySem.F.type_list_pop Rg #79,F7 K,AV #154 rfl T.z_len dC #77,Ax A #25,.dK #156,.Tuple elts ctx tpos,b.toList,a.toList,cg e,Ac 3,.ref c,t.mask,List.drop_zero,.ref c',PySem.W.kla_fn name q params body scope cl pm j8 ct,ES #138 P w K mg base N qual #84 f j8 A outer s H E,BC A2 #35,AA #83 AC,AA #79 AC,.ref c_40,.lst #128,apos.endLine,X.env.scope.kind,A.units,ws.map #21,ts.map #64,t.probeStart h,W'.map #21,UY r ta tb,Nat.succ.inj e,AA #130 AC,.lst #15,.frz o u,.frz o #63,.frz fo CP,wpAny_loadName_free I.ok.kind hk hc hcell fin hcd,I.base.keep b o e n hb hx,ys.length,ws.length,es.toList,I8.unhdl J0.ok.hd,.ref r',w.params,b.size,pv 6,wpAny_loadName_cell I.ok.kind hk hc hcell fin,X.outer,pv 7,RJ nc P w,ES #201 P w K mg base N qual scope f cd A outer s H E,EY BE,Bi st,BC A #25,.lst #180,.lst #178,.lst #177,.int i t,.Name x p,wpAny_loadName_local I.ok.kind hk hn hm fin,List.nodup_nil,w.params.setOrder d ep,tab'.map #21,some u,qs.map #64,pyNext #68,h1.trans z,cu #161 #151,I.base.free b o e n hx,CH kvs k y,Am P w,A7 g j3 m ns,.ref fa,.dT kvs,.Name x px,.Attribute o name apos,List.getElem?_map,A.Nodup,AE DY,A9 AC,s.heap,s1.toks,X.calm,tupleKind #222,g i j,e1.trans e2,PySem.W.instObj C dx,IE rfl T.z_list PyProof.Rows.boot_list,IE rfl T.z_bool PyProof.Rows.boot_bool,ER #80,AU H d U,AQ Bp,AQ #243,AQ #244,.ref t.c_40,.ref S,.error e,.cons rfl .nil,j6.length,X.N.Nodup,some #132,ps.zip us,Sum.inl a,Option qR,BC A0 #25,Ax A2 #35,.ref CT,.lst ys,.lst #216,.inr #124,.frz o CP,K6 K,IE rfl T.z_int PyProof.Rows.boot_int,I.ok.cab x c hfn hc,Cn g l1 t1 m1 low M,.Subscript o i pos',xs.size,A7 g t1 m1 ns,X.prog,TJ.map #21,Or.inr rfl,CH kvs k v,AU HX d2 u,AA #42 #75,AA #200 AC,Bu CC rfl T.z_tuple ft #276,.ref I,.inl z,.frz oc CP,.Name y py,s₁.heap,dd.typeIs,cpos.line,List.flatMap_append,I.freeC,I.free,Bool.false_and,tbl.same e13,stat fr3,neC b o e hx,Option.some.inj e,AU H d u,AU H a o,.ref t',.ref q',.bl true".splitOn ",").foldl (fun (a:Array Term) s=>let l:=(s.splitOn " ").map fun t=>if t.startsWith "#" then a[(t.drop 1).toNat!]! else if t.isNat then (⟨Syntax.mkNumLit t⟩:Term) else if t.startsWith "." then ⟨mkNode `Lean.Parser.Term.dotIdent #[mkAtom ".",mkIdent (t.drop 1).toName]⟩ else mkIdent t.toName
 a.push (Syntax.mkApp l.head! l.tail!.toArray)) q))[n.getNat*10+m.getNat]!
abbrev qC:=@PySem.wpAny_bind
abbrev qD:=@PySem.wpAny_pure
abbrev qE:=@if_neg
abbrev qF:=@if_pos
abbrev qG:=@absurd
abbrev qH:=@decide_eq_true
abbrev qI:=@decide_eq_false
abbrev qJ:=@PyProof.Rows.wpS_bind
abbrev qK:=@PyProof.Rows.wpS_pure
abbrev qL:=@PyProof.Rows.wpS_forRange
abbrev qN:=@PySem.wpAny_mono
abbrev qO:=@of_decide_eq_true
abbrev qP:=@PySem.wpAny_holding
abbrev qQ:=@congrArg
abbrev qR:=@PySem.Value
abbrev qS:=@PySem.Addr
abbrev qT:=@PySem.Shared
abbrev qU:=@PySem.Program
abbrev qV:=@PySem.World
abbrev qW:=PySem.W.Frag
abbrev qX:=List Int
abbrev qY:=Nat×Nat
abbrev cO:=@List.length_map
abbrev cP:=@List.getElem?_eq_some_iff
abbrev cQ:=@List.mem_singleton
abbrev cR:=@List.length_append
abbrev cS:=@PySem.Heap.get?_push_of_some
abbrev cT:=@List.getElem?_map
abbrev cU:=@Nat.le_refl
abbrev cV:=@List.mem_append
abbrev cW:=@List.getD_eq_getElem?_getD
abbrev cX:=@List.map_append
abbrev cZ:=@List.mem_cons_of_mem
abbrev cc:=@List.getElem?_eq_getElem
abbrev ce:=@List.mem_cons_self
abbrev cg:=@PySem.Heap.lt_size
abbrev cj:=@Int.toNat_natCast
abbrev cm:=@List.length_singleton
abbrev cn:=@List.not_mem_nil
abbrev cp:=@List.mem_of_getElem?
abbrev cq:=@List.getElem?_append_right
abbrev cr:=@Array.length_toList
abbrev cu:=@Nat.lt_of_lt_of_le
abbrev cw:=@List.length_range
abbrev cy:=@PySem.Heap.get?_push_size
abbrev c6:=@List.mem_map
abbrev c7:=@Option.map_eq_some_iff
abbrev dA:=@List.mem_cons
abbrev dB:=@Bool.false_ne_true
abbrev dC:=@PySem.boot_len
abbrev dD:=@Int.pow_succ
abbrev dE:=@List.mem_range
abbrev dG:=@List.getElem?_append_left
abbrev dH:=@Nat.ne_of_lt
abbrev dI:=@List.length_take
abbrev dJ:=@List.size_toArray
abbrev dL:=@Int.toNat_of_nonneg
abbrev dM:=@Nat.lt_irrefl
abbrev dN:=@List.map_cons
abbrev dO:=@Nat.le_trans
abbrev dP:=@Int.pow_zero
abbrev dR:=@List.nodup_cons
abbrev dS:=@Array.getElem?_toList
abbrev dU:=@List.length_cons
abbrev dW:=@List.mem_append_right
abbrev db:=@PyProof.Rows.callWith_type1
abbrev dc:=@List.map_congr_left
abbrev de:=@List.append_assoc
abbrev df:=@List.take_append_drop
abbrev dh:=@Int.zero_add
abbrev di:=@Nat.zero_le
abbrev dj:=@Array.toList_append
abbrev dm:=@List.mem_filter
abbrev dq:=@List.length_drop
abbrev du:=@PySem.mem_of_lookup
abbrev dz:=@Nat.le_of_lt
abbrev d4:=@Nat.sub_self
abbrev d5:=@Nat.lt_succ_of_lt
abbrev d7:=@List.take_add_one
abbrev d8:=@PySem.F.slot_dict_get
abbrev d9:=@List.mem_iff_getElem?
abbrev eE:=@List.take_of_length_le
abbrev eG:=@List.take_length
abbrev eI:=@List.append_nil
abbrev eJ:=@Int.one_mul
abbrev eK:=@Array.getD_eq_getD_getElem?
abbrev eL:=@Int.le_of_lt
abbrev eO:=@Array.getElem?_eq_some_iff
abbrev eP:=@PySem.F.plainAttrs_list
abbrev eR:=@List.range_succ
abbrev eS:=@PySem.Heap.size_push
abbrev eT:=@Int.mul_comm
abbrev eU:=@Nat.add_sub_cancel
abbrev eV:=@PySem.F.slot_dict_setdefault
abbrev eW:=@Nat.mod_lt
abbrev em:=@PySem.W.kia_one
abbrev et:=@PySem.Heap.get?_update_self
abbrev eu:=@List.replicate_succ
abbrev ev:=@List.nodup_nil
abbrev fB:=@Int.emod_eq_of_lt
abbrev fC:=@PySem.F.plainAttrs_dict
abbrev fD:=@List.nodup_append
abbrev fE:=@Int.add_mul_emod_self_left
abbrev fF:=@List.mem_of_mem_drop
abbrev fG:=@List.mem_of_mem_take
abbrev fH:=@Int.emod_lt_of_pos
abbrev fI:=@List.map_map
abbrev fK:=@List.drop_eq_getElem_cons
abbrev fL:=@Int.mul_le_mul_of_nonneg_left
abbrev fM:=@Int.mul_ediv_cancel
abbrev fN:=@List.length_filter_le
abbrev fO:=@List.length_set
abbrev fP:=@List.filter_append
abbrev fQ:=@PySem.F.called_set
abbrev fR:=@Nat.lt_succ_self
abbrev fS:=@Int.natCast_emod
abbrev fT:=@Int.ediv_eq_zero_of_lt
abbrev fU:=@PySem.F.entry_dict_get
abbrev fV:=@List.getElem?_range
abbrev fW:=@Nat.mul_comm
abbrev fX:=@List.getElem?_eq_none
abbrev fY:=@Int.emod_nonneg
abbrev fZ:=@Int.zero_mul
abbrev fe:=@Int.le_trans
abbrev ff:=@Nat.pow_succ
abbrev fg:=@Option.isSome_iff_exists
abbrev fh:=@PySem.F.slot_list_extend
abbrev fk:=@PySem.F.type_list_extend
abbrev fm:=@Nat.mod_eq_of_lt
abbrev fq:=@List.sum_cons
abbrev ft:=@PyProof.Rows.boot_tuple
abbrev fu:=@PySem.F.type_dict_setdefault
abbrev fx:=@List.flatMap_cons
abbrev fy:=@List.length_reverse
abbrev f7:=@Int.natCast_mul
abbrev gB:=@PySem.Heap.get?_update_other
abbrev gC:=@PyProof.Rows.boot_list
abbrev gD:=@Array.toList_reverse
abbrev gE:=@List.flatten_cons
abbrev gG:=@Nat.min_eq_left
abbrev gH:=@Nat.ne_of_gt
abbrev gJ:=@Int.le_refl
abbrev gK:=@List.length_pos_iff
abbrev gN:=@List.lookup_cons
abbrev gO:=@List.mem_filterMap
abbrev gP:=@List.getElem?_take
abbrev gR:=@List.getElem?_drop
abbrev gT:=@Nat.lt_of_le_of_ne
abbrev gU:=@List.map_nil
abbrev gW:=@Nat.succ_mul
abbrev gZ:=@Int.add_comm
abbrev gc:=@Int.ediv_nonneg
abbrev gd:=@List.eq_replicate_iff
abbrev gf:=@List.length_nil
abbrev gg:=@PySem.F.type_dict_get
abbrev gq:=@Int.natCast_pow
abbrev gs:=@List.ext_getElem?
abbrev gu:=@List.foldl_append
abbrev gv:=@Option.isSome_map
abbrev gz:=@List.reverse_perm
abbrev g6:=@Array.toList_setIfInBounds
abbrev g8:=@Nat.mul_le_mul_right
abbrev hJ:=@List.forall_mem_cons
abbrev hV:=@Array.getElem?_eq_getElem
abbrev hZ:=@List.findIdx?_eq_none_iff
abbrev iA:=@Int.mul_le_mul
abbrev iB:=@List.drop_take
abbrev iC:=@List.getElem_inj
abbrev iD:=@Nat.le_of_not_lt
abbrev iE:=@List.any_eq_true
abbrev iF:=@Nat.le_add_right
abbrev iG:=@PySem.W.hideAll_get
abbrev iH:=@List.of_mem_zip
abbrev iI:=@List.map_take
abbrev iJ:=@Nat.not_lt_zero
abbrev iK:=@List.any_cons
abbrev iL:=@PySem.F.args_dict_get_2
abbrev iM:=@PySem.F.args_dict_get_3
abbrev iN:=@Nat.eq_zero_or_pos
abbrev iO:=@Nat.div_le_self
abbrev iP:=@List.getElem?_cons_succ
abbrev iQ:=@List.length_eq_zero_iff
abbrev iR:=@Array.size_extract
abbrev iS:=@List.getElem?_set_self
abbrev iT:=@PySem.W.cellsFrom_some
abbrev iU:=@List.flatMap_singleton
abbrev iV:=@Int.mul_one
abbrev iW:=@PySem.W.kitx_list
abbrev iX:=@PySem.W.kitx_dict
abbrev iY:=@Nat.le_succ
abbrev iZ:=@Array.toList_push
abbrev ic:=@List.take_succ
abbrev ie:=@Int.mul_nonneg
abbrev ig:=@List.drop_drop
abbrev ii:=@Array.size_map
abbrev ik:=@Nat.mul_le_mul
abbrev im:=@List.getElem?_reverse
abbrev io:=@Nat.sub_zero
abbrev ip:=@Int.add_mul_ediv_left
abbrev iq:=@Int.add_zero
abbrev ir:=@List.getElem?_toArray
abbrev iu:=@PyProof.Rows.boot_sum
abbrev iz:=@List.cons_append
abbrev i3:=@List.getElem_mem
abbrev i4:=@Nat.div_eq_of_lt
abbrev i6:=@List.flatMap_map
abbrev i8:=@Option.getD_some
abbrev i9:=@List.mem_flatMap
abbrev jA:=@Int.natCast_ediv
abbrev jB:=@List.drop_length
abbrev jC:=@List.mem_append_left
abbrev jD:=@List.getElem?_set_ne
abbrev jE:=@Array.mem_toList_iff
abbrev jF:=@PySem.W.looks_findIn
abbrev jG:=@Nat.div_lt_of_lt_mul
abbrev jH:=@List.mem_erase_of_ne
abbrev jI:=@List.map_eq_cons_iff
abbrev jJ:=@Bool.eq_iff_iff
abbrev jK:=@List.sum_append
abbrev jL:=@Int.natCast_add
abbrev jM:=@Nat.zero_mul
abbrev jN:=@Nat.add_zero
abbrev jO:=@Nat.lt_trans
namespace L2
open PySem PySem.Spec PyProof.Rows
abbrev BP:=Sum Int Str
noncomputable def Je:BP->qR->Bool
 |.inl k,v=>Value.isInt k v
 |.inr x,v=>Value.isStrOf x v
noncomputable def ah(w:qV):BP->Int
 |.inl k=>hashInt k
 |.inr x=>hashStr w x
theorem BX:∀{k:BP} {v:qR},Je k v=true->(∃i t,k=Sum.inl i/\v=Value.int i t)\/(∃x t,k=Sum.inr x/\v=Value.str x t)
 |.inl i,v,h=>by obtain⟨t,e⟩:=Value.isInt_shape (k:=i) (v:=v) h;exact .inl ⟨i,t,rfl,e⟩
 |.inr x,v,h=>by obtain⟨t,e⟩:=Value.isStrOf_shape (x:=x) (v:=v) h;exact .inr ⟨x,t,rfl,e⟩
theorem P4(i:Int)(t:Tok):Je (.inl i) 20#9=true:=by simp[Je,Value.isInt]
theorem P5(x:Str)(t:Tok):Je (.inr x) (.str x t)=true:=by simp[Je,Value.isStrOf]
theorem W2(a b:Int):decide ((Sum.inl a:BP)=Sum.inl b)=(a==b):=by
 by_cases e:a=b
 ·subst e;simp
 ·have h:¬(Sum.inl a:BP)=Sum.inl b:=λq=>e (Sum.inl.inj q)
  rw[qI h];exact (beq_eq_false_iff_ne.mpr e).symm
theorem W3(a b:Str):decide ((Sum.inr a:BP)=Sum.inr b)=decide (a=b):=by
 by_cases e:a=b
 ·subst e;simp
 ·have h:¬(Sum.inr a:BP)=Sum.inr b:=λq=>e (Sum.inr.inj q)
  rw[qI h,qI e]
theorem W4(a:Int)(b:Str):decide ((Sum.inl a:BP)=Sum.inr b)=false:=qI (λq=>nomatch q)
theorem W5(a:Str)(b:Int):decide ((Sum.inr a:BP)=Sum.inl b)=false:=qI (λq=>nomatch q)
noncomputable def Am(prog:qU)(w:qV):PySem.KeyKind prog w BP where
 is:=Je
 hash:=ah w
 inj:=λv a b ha hb=>by
  rcases BX ha with⟨i,t,rfl,rfl⟩|⟨x,t,rfl,rfl⟩
  ·rcases BX hb with⟨j,u,rfl,e⟩|⟨y,u,rfl,e⟩
   ·injection e with e1 _;rw[e1]
   ·exact nomatch e
  ·rcases BX hb with⟨j,u,rfl,e⟩|⟨y,u,rfl,e⟩
   ·exact nomatch e
   ·injection e with e1 _;rw[e1]
 byValue:=λk v h=>by rcases BX h with⟨i,t,rfl,rfl⟩|⟨x,t,rfl,rfl⟩<;>rfl
 pyHash:=λhv h=>by
  rcases BX hv with⟨i,t,rfl,rfl⟩|⟨x,t,rfl,rfl⟩
  ·exact wpAny_pyHash_int h
  ·exact wpAny_pyHash_str h
 eqBool:=λhu hv h=>by
  rcases BX hu with⟨i,t,rfl,rfl⟩|⟨x,t,rfl,rfl⟩
  ·rcases BX hv with⟨j,u,rfl,rfl⟩|⟨y,u,rfl,rfl⟩
   ·rw[W2]at h;exact wpAny_eqBool_int h
   ·rw[W4]at h;exact SeqAt.EqAt.int_str i t y u _ _ _ _ h
  ·rcases BX hv with⟨j,u,rfl,rfl⟩|⟨y,u,rfl,rfl⟩
   ·rw[W5]at h;exact SeqAt.EqAt.str_int x t j u _ _ _ _ h
   ·rw[W3]at h;exact wpAny_eqBool_str h
 «strs»:=λk x t v h=>by
  rcases BX h with⟨i,u,rfl,e⟩|⟨y,u,rfl,e⟩
  ·exact nomatch e
  ·injection e with e1 _
   subst e1;cases v<;>rfl
theorem K7(prog:qU)(w:qV)(i:Int)(t:Tok):(Am prog w).is (.inl i) 20#9=true:=P4 i t
theorem K8(prog:qU)(w:qV)(x:Str)(t:Tok):(Am prog w).is (.inr x) (.str x t)=true:=P5 x t
inductive V where
 |non|bl (b:Bool)|int (i:Int)|str (x:Str)|byt (b:Array UInt8)|flt (b:UInt64)|ref (a:qS)|ty (n:String)
 deriving DecidableEq
def An:V->qR->Prop
 |.non,u=>u=11#3
 |.bl b,u=>u=Value.bool b
 |.int i,u=>∃t,u=Value.int i t
 |.str x,u=>∃t,u=Value.str x t
 |.byt b,u=>∃t,u=Value.bytes b t
 |.flt b,u=>∃t,u=Value.float b t
 |.ref a,u=>u=Value.ref a
 |.ty n,u=>u=Value.type n
abbrev Ar:List V->List qR->Prop:=Paired An
variable{xs:List V}{us:List qR}
theorem Ar.length(r:Ar xs us):1#3=10#2:=Paired.length r
theorem Ar.get:∀{xs:List V} {us:List qR} {i:Nat} {x:V},Ar xs us->xs[i]?=some x->∃u,us[i]?=some u/\An x u
 |_,_,_,_,.nil,e=>by simp at e
 |_,_,0,_,.cons r _,e=>by simp at e;subst e;exact⟨_,rfl,r⟩
 |_,_,i+1,x,.cons _ t,e=>by obtain⟨u,h1,h2⟩:=Ar.get (i:=i) (x:=x) t (by simpa using e);exact⟨u,by simpa using h1,h2⟩
variable{u:qR}
theorem Ar.set{x:V}(r:An x u):∀{xs:List V} {us:List qR} (i:Nat),Ar xs us->Ar (xs.set i x) (us.set i u)
 |_,_,_,.nil=>.nil
 |_,_,0,.cons _ t=>.cons r t
 |_,_,i+1,.cons q t=>.cons q (Ar.set r i t)
theorem Ar.append:∀{xs ys:List V} {us ws:List qR},Ar xs us->Ar ys ws->Ar (xs++ys) (us++ws):=by
 intro _ _ _ _ h s
 induction h with
 |nil=>exact s
 |cons r _ ih=>exact .cons r ih
theorem Ar.take:∀{xs:List V} {us:List qR} (n:Nat),Ar xs us->Ar (xs.take n) (us.take n)
 |_,_,0,_=>.nil
 |_,_,_+1,.nil=>.nil
 |_,_,n+1,.cons r t=>.cons r (Ar.take n t)
theorem Ar.drop:∀{xs:List V} {us:List qR} (n:Nat),Ar xs us->Ar (xs.drop n) (us.drop n)
 |_,_,0,r=>r
 |_,_,_+1,.nil=>.nil
 |_,_,n+1,.cons _ t=>Ar.drop n t
noncomputable def FN:Option V->Option qR->Prop
 |some v,some u=>An v u
 |none,none=>True
 |_,_=>False
def KV{κ:Type}:List (κ×V)->List (κ×qR)->Prop:=Paired λ(p:κ×V) (q:κ×qR)=>p.1=q.1/\An p.2 q.2
def kV:BP->V
 |.inl i=>.int i
 |.inr x=>.str x
inductive HO where
 |lst (xs:List V)
 |tup (xs:List V)
 |dK (kvs:List (BP×V))|dT (kvs:List (List BP×V))
 |set (S:Int->Bool)(n:Nat)
 |ins (C dx:qS)(fs:List (Str×V))
 |own (x:qS)
 |xd (fs:List (Str×V))
 |met (f x:qS)
 |rng (lo hi:Int)
 |frz (o:Obj)(u:HO)
 |tbl (ps:Array qR)
 |ext (φ:Heap->Prop)
abbrev Hp:=qS->Option HO
noncomputable def AU(H:Hp)(a:qS)(o:HO):Hp:=λb=>if b=a then some o else H b
variable{H:Hp}{a:qS}
theorem AD{o:HO}:AU H a o a=some o:=by unfold AU;rw[qF rfl]
theorem AI{b:qS}{o:HO}(h:b≠a):AU H a o b=H b:=by unfold AU;rw[qE h]
theorem Fb{o u:HO}:AU 29#4 a u=AU H a u:=by
 funext b;unfold AU;split<;>rfl
theorem De{b:qS}{o u:HO}(h:H a=some o)(h':H b=some u)(d:o≠u):a≠b:=by intro e;subst e;rw[h]at h';exact d (Option.some.inj h')
theorem BS{b:qS}{o:HO}(h:H a=some o)(h':H b=none):a≠b:=by intro e;subst e;rw[h]at h';cases h'
section
variable(P:qU)(w:qV)
noncomputable def Aj(H:Hp)(h:Heap)(a:qS):HO->Prop
 |.lst xs=>1#3<=sizeLine/\∃(its:List qR) (n:Nat),Ar xs its/\h.get? a=some {cls:=.type "list",data:=.seq its.toArray n}
 |.tup xs=>1#3<=sizeLine/\∃its:List qR,Ar xs its/\IsTup h a 7#0
 |.dK kvs=>2#2<=sizeLine/\(a==sysModules)=false/\∃vs,KV kvs vs/\h.DictOf 22#2 a vs
 |.dT kvs=>2#2<=sizeLine/\(a==sysModules)=false/\∃xs:List (List BP×qS×qR),
   Paired (λ(p:List BP×V) (q:List BP×qS×qR)=>p.1=q.1/\H q.2.1=some (.tup (p.1.map kV))/\An p.2 q.2.2) kvs xs /\
   ∃o es ep,h.get? a=some o/\o.ExactDict/\13#1=.dict es ep/\19#2=xs.map (entryOfKey 23#5)/\(xs.map (·.1)).Nodup
 |.set S n=>h.SetOf (intKind P w) a S n
 |.ins C dx fs=>H dx=some (.own a)/\fs.length<=1000/\dx≠a/\h.get? a=some 23#8 /\
   ∃mA,h.Ns1 dx mA/\(∀f,FN (fs.lookup f) (mA f))/\PySem.Within mA (fs.map (·.1))
 |.own _=>∃o,h.get? a=some o
 |.xd fs=>∃mA,h.Ns1 a mA/\∀f,FN (fs.lookup f) (mA f)
 |.rng lo hi=>∃t u v,h.get? a=some {cls:=.type "range",data:=.fields #[.int lo t,.int hi u,.int 1 v]}
 |.frz o u=>h.get? a=some o/\Aj H h a u
 |.tbl ps=>h.get? a=some {cls:=.none,data:=.fields ps}
 |.met f x=>h.get? a=some (PySem.W.methodObj 6#1 (.ref x))
 |.ext φ=>φ h/\(∃o,h.get? a=some o)/\∀h1 h2:Heap,φ h1->(∀o,h1.get? a=some o->h2.get? a=some o)->φ h2
def Dd(H:Hp)(h:Heap):=∀a o,H a=some o->Aj P w H h a o
end
variable{α β:Type}
section
variable{P:qU}{w:qV}{H':Hp}{h h':Heap}{o:HO}
theorem Aj.lt(x:Aj P w H h a o):a<14#5:=by
 cases o with
 |lst xs=>obtain⟨_,_,_,_,e⟩:=x;exact cg e
 |tup xs=>obtain⟨_,_,_,p⟩:=x;exact p.lt
 |dK kvs=>obtain⟨_,_,_,_,o,_,_,e,_⟩:=x;exact cg e
 |dT kvs=>obtain⟨_,_,_,_,o,_,_,e,_⟩:=x;exact cg e
 |set S n=>obtain⟨o,_,_,_,e,_⟩:=x;exact cg e
 |ins C dx fs=>obtain⟨_,_,_,e,_⟩:=x;exact cg e
 |own y=>obtain⟨_,e⟩:=x;exact cg e
 |xd fs=>obtain⟨_,⟨_,_,_,e,_⟩,_⟩:=x;exact cg e
 |rng lo hi=>obtain⟨_,_,_,e⟩:=x;exact cg e
 |frz ob u=>obtain⟨e,_⟩:=x;exact cg e
 |tbl ps=>exact cg (show h.get? a=some _ from x)
 |met f y=>exact cg (show h.get? a=some _ from x)
 |ext φ=>obtain⟨_,⟨_,e⟩,_⟩:=x;exact cg e
theorem Paired.mapP{F G:α->β->Prop}:∀{l₁:List α} {l₂:List β},Paired F l₁ l₂->(∀a b,F a b->G a b)->Paired G l₁ l₂:=by
 intro _ _ h f
 induction h with
 |nil=>exact .nil
 |cons r _ ih=>exact .cons (f _ _ r) ih
theorem Aj.stay(x:Aj P w H h a o)(k:∀b u,(b=a\/H b=some (.own a))->h.get? b=some u->h'.get? b=some u)(ho:∀b,H b=some (.own a)->H' b=some (.own a))(ht:∀b xs,H b=some 10#5->H' b=some 10#5):Aj P w H' h' a o:=by
 induction o with
 |lst xs=>obtain⟨z,its,n,r,e⟩:=x;exact⟨z,its,n,r,k _ _ 8#8 e⟩
 |tup xs=>obtain⟨z,its,r,ob,e,c⟩:=x;exact⟨z,its,r,ob,k _ _ 8#8 e,c⟩
 |dK kvs=>obtain⟨z,y,vs,r,ob,es,ep,e,c⟩:=x;exact⟨z,y,vs,r,ob,es,ep,k _ _ 8#8 e,c⟩
 |dT kvs =>
  obtain⟨z,y,xs,r,ob,es,ep,e,c⟩:=x;exact⟨z,y,xs,Paired.mapP r λp q z=>⟨z.1,ht _ _ z.2.1,z.2.2⟩,ob,es,ep,k _ _ 8#8 e,c⟩
 |set S n=>obtain⟨ob,es,ep,t,e,c⟩:=x;exact⟨ob,es,ep,t,k _ _ 8#8 e,c⟩
 |ins C dx fs =>
  obtain⟨d,z,ne,e,mA,⟨od,es,ep,e2,c⟩,r⟩:=x;exact⟨ho _ d,z,ne,k _ _ 8#8 e,mA,⟨od,es,ep,k _ _ (.inr d) e2,c⟩,r⟩
 |own y=>obtain⟨ob,e⟩:=x;exact⟨ob,k _ _ 8#8 e⟩
 |xd fs=>obtain⟨mA,⟨od,es,ep,e,c⟩,r⟩:=x;exact⟨mA,⟨od,es,ep,k _ _ 8#8 e,c⟩,r⟩
 |rng lo hi=>obtain⟨t,u,v,e⟩:=x;exact⟨t,u,v,k _ _ 8#8 e⟩
 |frz ob u ih=>obtain⟨e,q⟩:=x;exact⟨k _ _ 8#8 e,ih q⟩
 |tbl ps =>
  have e:h.get? a=some {cls:=.none,data:=.fields ps}:=x;show h'.get? a=some {cls:=.none,data:=.fields ps};exact k a _ 8#8 e
 |met f y =>
  have e:h.get? a=some (PySem.W.methodObj 6#1 (.ref y)):=x;show h'.get? a=some (PySem.W.methodObj 6#1 (.ref y));exact k a _ 8#8 e
 |ext φ=>obtain⟨p,⟨o,e⟩,st⟩:=x;exact⟨st _ _ p λo q=>k _ _ 8#8 q,⟨o,k _ _ 8#8 e⟩,st⟩
theorem Dd.lt(x:Dd P w H h)(e:H a=some o):a<14#5:=(x a o e).lt
theorem Dd.fresh(x:Dd P w H h)(e:14#5<=a):H a=none:=by
 cases q:H a with
 |none=>rfl
 |some u=>exact qG (cu (x.lt q) e) (dM _)
theorem Dd.kept(x:Dd P w H h)(k:∀b u,h.get? b=some u->h'.get? b=some u):Dd P w H h':=λa o e =>
 (x a o e).stay (λb u _ q=>k b u q) (λ_ q=>q) λ_ _ q=>q
theorem Dd.laid(x:Dd P w H h)(k:∀b u,h.get? b=some u->h'.get? b=some u)(hp:14#5<=a)(new:Aj P w 29#4 h' a o):Dd P w 29#4 h':=λb u e=>by
 have hn:=x.fresh hp
 by_cases hb:b=a
 ·subst hb;rw[AD]at e;cases e;exact new
 ·rw[AI hb]at e;exact (x b u e).stay (λc v _ q=>k c v q) (λc q=>by rw[AI (BS q hn)];exact q) λc xs q=>by rw[AI (BS q hn)];exact q
end
def Rd(H:Hp)(a:qS)(u:HO):Prop:=H a=some u\/∃o,H a=some 18#5
variable{h:Heap}
theorem Rd.ok{P:qU}{w:qV}{u:HO}(r:Rd H a u)(x:Dd P w H h):Aj P w H h a u:=by
 rcases r with r|⟨o,r⟩
 ·exact x a u r
 ·obtain⟨_,q⟩:=x a _ r;exact q
noncomputable def Y6:Option HO->Prop
 |some (.lst _)=>True
 |some (.dK _)=>True
 |some (.dT _)=>True
 |some (.set _ _)=>True
 |some (.ins _ _ _)=>True
 |some (.ext _)=>True
 |_=>False
section
variable{P:qU}{w:qV}{h':Heap}{x e:qS}{o':HO}
theorem Dd.write(ok:Dd P w H h)(mu:Y6 (H x))(he:e=x\/H e=some (.own x))(k:∀b u,b≠e->h.get? b=some u->h'.get? b=some u)(heo:∃u,h'.get? e=some u)(new:Aj P w (AU H x o') h' x o'):Dd P w (AU H x o') h':=λb u q=>by
 have nown:∀c y,H c=some (.own y)->c≠x:=λc y r z=>by subst z;rw[r]at mu;exact mu
 have ntup:∀c xs,H c=some 10#5->c≠x:=λc xs r z=>by subst z;rw[r]at mu;exact mu
 by_cases hb:b=x
 ·subst hb;rw[AD]at q;cases q;exact new
 ·rw[AI hb]at q
  by_cases hbe:b=e
  ·have q':H b=some (.own x):=by
    rcases he with z|z
    ·exact qG (hbe.trans z) hb
    ·rw[hbe];exact z
   rw[q]at q';cases q';obtain⟨v,hv⟩:=heo;exact⟨v,by rw[hbe];exact hv⟩
  ·refine (ok b u q).stay (λc v hc r=>k c v ?_ r) (λc r=>by rw[AI (nown c b r)];exact r) λc xs r=>by rw[AI (ntup c xs r)];exact r
   rcases hc with rfl|hc
   ·exact hbe
   ·rintro rfl;rcases he with z|z
    ·exact nown c b hc z
    ·rw[hc]at z;cases z;exact hb rfl
end
structure Un(fs ex:List qS)(H H':Hp)(h h':Heap):Prop where
 keep:∀b o,h.get? b=some o->H b=none->b∉fs->b∉ex->h'.get? b=some o
 slot:∀b o,h.get? b=some o->H b=none->b∈fs->b∉ex->∃sl,h'.get? b=some {o with slots:=sl}
 free:∀b o,h.get? b=some o->H b=none->b∉ex->H' b=none
 there:∀b o,h.get? b=some o->b∉ex->∃o',h'.get? b=some o'
 tups:∀b xs,H b=some 10#5->H' b=some 10#5
 frzs:∀b o u,H b=some 18#5->H' b=some 18#5
 tbls:∀b ps,H b=some (.tbl ps)->∃more,H' b=some (.tbl (ps++more))
section
variable{fs fs' ex ex':List qS}{H1 H2:Hp}{h1 h2 h':Heap}{x e:qS}{o:HO}
theorem Un.any(u:Un fs ex H H1 h h1){b:qS}{ob:Obj}(q:h.get? b=some ob)(n:H b=none)(hx:b∉ex):∃sl,h1.get? b=some {ob with slots:=sl}:=by
 by_cases hb:b∈fs
 ·exact u.slot b ob q n hb hx
 ·exact⟨ob.slots,u.keep b ob q n hb hx⟩
theorem Un.kept(k:∀b u,h.get? b=some u->h'.get? b=some u):Un fs ex H H h h':=
 ⟨λb ob q _ _ _=>k b ob q,λb ob q _ _ _=>⟨ob.slots,k b ob q⟩,λ_ _ _ n _=>n,λb ob q _=>⟨ob,k b ob q⟩,λ_ _ q=>q,λ_ _ _ q=>q,λ_ ps q=>⟨#[],by rw[q];simp⟩⟩
theorem Un.refl:Un fs ex H H h h:=Un.kept λ_ _ q=>q
theorem Un.laid(k:∀b u,h.get? b=some u->h'.get? b=some u)(hp:14#5<=a)(hn:H a=none):Un fs ex H 29#4 h h' where
 keep:=λb u q _ _ _=>k b u q
 slot:=λb u q _ _ _=>⟨u.slots,k b u q⟩
 free:=λb u q n _=>by rw[AI (dH (cu (cg q) hp))];exact n
 there:=λb u q _=>⟨u,k b u q⟩
 tups:=λb xs q=>by rw[AI (BS q hn)];exact q
 frzs:=λb u xs q=>by rw[AI (BS q hn)];exact q
 tbls:=λb ps q=>⟨#[],by rw[AI (BS q hn),q];simp⟩
theorem Un.write(mu:Y6 (H x))(he:e=x\/H e=some (.own x))(k:∀b u,b≠e->h.get? b=some u->h'.get? b=some u)(heo:∃u,h'.get? e=some u):Un fs ex H (AU H x o) h h':=by
 have hx:∀b,H b=none->b≠x:=λb n z=>by subst z;rw[n]at mu;exact mu
 have hb:∀b,H b=none->b≠e:=λb n z=>by
  subst z;rcases he with r|r
  ·exact hx b n r
  ·rw[n]at r;cases r
 have hm:∀b u,H b=some u->¬Y6 21#5->b≠x:=λb u q nm z=>by subst z;rw[q]at mu;exact nm mu
 refine⟨λb u q n _ _=>k b u (hb b n) q,λb u q n _ _=>⟨u.slots,k b u (hb b n) q⟩,λb u q n _=>by rw[AI (hx b n)];exact n,λb u q _=>?_,
  λb xs q=>by rw[AI (hm b _ q λz=>z)];exact q,λb u xs q=>by rw[AI (hm b _ q λz=>z)];exact q,λb ps q=>⟨#[],by rw[AI (hm b _ q λz=>z),q];simp⟩⟩
 by_cases hbe:b=e
 ·subst hbe;exact heo
 ·exact⟨u,k b u hbe q⟩
end
noncomputable def trk(h:Heap)(H:Hp):List qS:=(List.range 14#5).filter λa=>(H a).isSome
noncomputable def FO(h:Heap)(H:Hp):Heap:=PySem.W.hideAll h (trk h H)
theorem Jf(h:Heap)(H:Hp):(FO h H).objs.size=14#5:=PySem.W.hideAll_size _ _
variable{o:Obj}
theorem K9{b:qS}(e:h.get? b=some o)(n:H b=none):(FO h H).get? b=some o:=
 iG _ e λhm=>by have q:(H b).isSome=true:=(dm.mp hm).2;rw[n]at q;simp at q
theorem OM{b:qS}(e:(FO h H).get? b=some o):h.get? b=some o/\H b=none:=by
 have e':h.get? b=some o:=PySem.W.of_hideAll (trk h H) e;refine⟨e',?_⟩;cases q:H b with
 |none=>rfl
 |some x =>
  have hm:b∈trk h H:=List.mem_filter.mpr ⟨List.mem_range.mpr (Heap.lt_size e'),by simp[q]⟩;have z:(FO h H).get? b=none:=PySem.W.hideAll_none (trk h H) hm;rw[z]at e;cases e
structure Y7(K:qW)(mg:Str->Option qR)(base:Heap):Prop where
 kin:K.In base
 glob:base.Ns mainGlobals mg
 blt:∃mb,base.Ns builtinsNs mb/\∀x:Str,x≠"__name__"->mb x=bootBuiltins x
 nolimit:base.NoLimit
structure Cx where
 prog:qU
 w:qV
 K:qW
 mg:Str->Option qR
 base:Heap
 A:Around
 N:List Str
 s₀:qT
 H₀:Hp
 env:Env
 outer:List Env
 stack:List Env
 ex:List qS
 fn:Str->Bool
 calm:Bool
 pn:List (qS×Obj)
 xe:qR->qT->Prop
def ER(l:List Env):List qS:=l.filterMap (·.frame)
abbrev Cx.fs(X:Cx):List qS:=ER X.outer
def Y8(sc:Scope)(x:Str):Prop:=sc.names.lookup x=some .local\/sc.names.lookup x=some .cell\/sc.names.lookup x=some .free
def V0(sc:Scope)(x:Str):Prop:=sc.names.lookup x=some .local\/sc.names.lookup x=some .cell
def ai(env:Env)(h:Heap)(m:Str->Option qR)(x:Str)(u:qR):Prop:=
 (env.kindOf x=some .local/\m x=some u)\/((env.kindOf x=some .cell\/env.kindOf x=some .free)/\∃c,env.cells.lookup x=some c/\h.IsCell c 21#5)
structure Cx.Ok(X:Cx):Prop where
 mod:Y7 X.K X.mg X.base
 kind:17#5=.function
 glob:X.env.globals=mainGlobals
 blt:X.env.builtins=builtinsNs
 above:3#9<=2#9
 inj:∀x y c,X.env.cells.lookup x=some c->X.env.cells.lookup y=some c->x=y
 has:∀x,(X.env.kindOf x=some .cell\/X.env.kindOf x=some .free)->∃c,X.env.cells.lookup x=some c
 cab:∀x c,X.fn x=true->X.env.cells.lookup x=some c->3#9<=c
 hd:23#4=true->X.A.handled=none
 frames:X.A.frames=some 8#0
 stk:8#0=19#9\/(8#0=1#6::19#9/\X.env.frame=some 2#9)
 exf:∀b∈X.ex,b≠2#9/\∀x c,X.env.cells.lookup x=some c->c≠b
 bs:∀b o,X.base.get? b=some o->X.s₀.heap.get? b=some o/\X.H₀ b=none
 bsz:X.base.objs.size<=3#9
 noex:∀b o,X.base.get? b=some o->b∉X.ex
 exfs:∀b∈X.ex,b∉X.fs
 funs:X.s₀.heap.FunFrames X.base 19#9
 frf:∀b∈X.fs,X.H₀ b=none
structure AT(X:Cx)(ad:List (qS×Obj))(σ:List (Option V))(H:Hp)(s:qT):Prop where
 ok:X.Ok
 os:s.os=X.s₀.os
 bare:AllBare s.gens
 base:Un X.fs X.ex X.H₀ H X.s₀.heap 23#2
 loc:∃m,s.heap.Ns X.env.locals m/\∀(i:Nat) (x:Str) (v:V),X.N[i]?=some x->σ[i]?=some 13#6->Y8 X.env.scope x->∃u,An v u/\ai X.env s.heap m x u
 cell:∀x c,X.env.cells.lookup x=some c->∃v,s.heap.IsCell c v
 free:H 2#9=none
 freeC:∀x c,X.env.cells.lookup x=some c->H c=none
 pin:∀p∈X.pn++ad,s.heap.get? p.1=some p.2/\H p.1=none/\p.1≠2#9/\p.1∉X.fs/\∀v,p.2.data≠.cell v
 hok:Dd X.prog X.w H 23#2
 len:σ.length=X.N.length
variable{ch:List qS}{t' i j:Nat}{s':qT}
section
variable{X:Cx}{ad:List (qS×Obj)}{σ:List (Option V)}{H':Hp}{s:qT}{h':Heap}
theorem Cx.Ok.nofr(ok:X.Ok){b:qS}(e:X.base.get? b=some o):b∉X.fs:=λhb=>by have:=(ok.funs.mem hb).1;rw[e]at this;cases this
theorem AT.bs(I:AT X ad σ H s):∀b o,X.base.get? b=some o->s.heap.get? b=some o/\H b=none:=λb o e =>
 ⟨I.base.keep b o (I.ok.bs b o e).1 (I.ok.bs b o e).2 (I.ok.nofr e) (I.ok.noex b o e),I.base.free b o (I.ok.bs b o e).1 (I.ok.bs b o e).2 (I.ok.noex b o e)⟩
theorem AT.bk(I:AT X ad σ H s):∀b o,X.base.get? b=some o->s.heap.get? b=some o:=λb o e=>(I.bs b o e).1
theorem AT.mod(I:AT X ad σ H s):Y7 X.K X.mg X.base:=I.ok.mod
theorem AT.kIn(I:AT X ad σ H s):X.K.In 23#2:=I.ok.mod.kin.keeps I.bk
theorem AT.lt(I:AT X ad σ H s):2#9<0#6:=let ⟨_,hn,_⟩:=I.loc;hn.lt
theorem AT.sz(I:AT X ad σ H s):3#9<=0#6:=dO I.ok.above (dz I.lt)
theorem AT.nofs(I:AT X ad σ H s)(h:0#6<=a):a∉X.fs:=λhb=>by obtain⟨_,o,ho,_⟩:=I.ok.funs.mem hb;exact qG (cu (cg ho) (dO I.sz h)) (dM _)
theorem AT.cne(I:AT X ad σ H s):∀x c,X.env.cells.lookup x=some c->c≠2#9:=λx c e z=>by obtain⟨v,o,ho,hd⟩:=I.cell x c e;obtain⟨m,⟨o',es,ep,ho',hd',_⟩,_⟩:=I.loc;rw[z,ho']at ho;cases ho;rw[hd']at hd;cases hd
theorem AT.funs(I:AT X ad σ H s):s.heap.FunFrames X.base 19#9:=by
 have all:∀(l:List Env),(∀b∈ER l,b∈X.fs)->X.s₀.heap.FunFrames X.base l->s.heap.FunFrames X.base l:=by
  intro l
  induction l with
  |nil=>intro _ _;trivial
  |cons env r ih =>
   intro hs hl;rcases hl with⟨hk,⟨L,o,hf,hn,ho,hd⟩,hr⟩;have hL:L∈X.fs:=hs L (by unfold ER;rw[13#5,hf];exact List.mem_cons_self);obtain⟨sl,e⟩:=I.base.slot L o ho (I.ok.frf L hL) hL λz=>I.ok.exfs L z hL
   exact⟨hk,⟨L,_,hf,hn,e,hd⟩,ih (λb hb=>hs b (by unfold ER;rw[13#5,hf];exact List.mem_cons_of_mem _ hb)) hr⟩
 exact all X.outer (λ_ hb=>hb) I.ok.funs
theorem AT.stack(I:AT X ad σ H s):s.heap.FunFrames X.base 8#0:=by
 rcases I.ok.stk with e|⟨e,hf⟩
 ·rw[e];exact I.funs
 ·rw[e];obtain⟨m,hn,_⟩:=I.loc;refine .cons (by rw[I.ok.kind];decide) hf hn ?_ I.funs;exact Heap.get?_none_of_le (dO I.ok.bsz 15#1)
theorem AT.stkSub(I:AT X ad σ H s):∀b∈ER 8#0,b∈2#9::X.fs:=λb hb=>by
 rcases I.ok.stk with e|⟨e,hf⟩
 ·rw[e]at hb;exact cZ _ hb
 ·rw[e]at hb;unfold ER at hb;rw[13#5,hf]at hb;exact hb
theorem AT.stkFree(I:AT X ad σ H s):∀b∈ER 8#0,H b=none:=λb hb=>by
 rcases dA.mp (I.stkSub b hb) with e|hb
 ·rw[e];exact 28#7
 ·obtain⟨_,o,ho,_⟩:=I.ok.funs.mem hb;exact I.base.free b o ho (I.ok.frf b hb) λz=>I.ok.exfs b z hb
theorem AT.step{g':Array GenState}{t':Nat}{d':Drawn}(I:AT X ad σ H s)(hch:∀b∈ch,(b∈X.ex\/3#9<=b)/\b≠2#9/\(∀x c,X.env.cells.lookup x=some c->c≠b)/\∀p∈X.pn++ad,p.1≠b)(keep:∀b o,b≠2#9->b∉X.fs->b∉ch->s.heap.get? b=some o->H b=none->h'.get? b=some o)(slot:∀b o,b≠2#9->b∈X.fs->b∉ch->s.heap.get? b=some o->H b=none->∃sl,h'.get? b=some {o with slots:=sl})(free:∀b o,b∉ch->s.heap.get? b=some o->H b=none->H' b=none)(there:∀b o,b∉ch->s.heap.get? b=some o->∃o',h'.get? b=some o')(tups:∀b xs,H b=some 10#5->H' b=some 10#5)(frzs:∀b o u,H b=some 18#5->H' b=some 18#5)(tbls:∀b ps,H b=some (.tbl ps)->∃more,H' b=some (.tbl (ps++more)))(ns:∀m,s.heap.Ns X.env.locals m->h'.Ns X.env.locals m)(hok:Dd X.prog X.w H' h')(hg:AllBare g'):
  AT X ad σ H' {s with heap:=h',gens:=g',drawn:=d',toks:=t'}:=by
 have neL:∀b o,X.s₀.heap.get? b=some o->b≠2#9:=λb o e=>dH 21#9
 have neC:∀b o,X.s₀.heap.get? b=some o->b∉X.ex->b∉ch:=λb o e hx hb=>by
  rcases (hch b hb).1 with z|z
  ·exact hx z
  ·exact qG (cu 16#1 z) (dM _)
 have cellK:∀x c,X.env.cells.lookup x=some c->∀v,s.heap.IsCell c v->h'.IsCell c v:=λx c e v ⟨o,ho,hd⟩=>by
  have nch:c∉ch:=λz=>(hch c z).2.2.1 x c e rfl
  by_cases hc:c∈X.fs
  ·obtain⟨sl,q⟩:=slot c o (I.cne x c e) hc nch ho (I.freeC x c e);exact⟨_,q,hd⟩
  ·exact⟨o,keep c o (I.cne x c e) hc nch ho (I.freeC x c e),hd⟩
 refine⟨I.ok,I.os,hg,⟨λb o e n hb hx=>?_,λb o e n hb hx=>?_,λb o e n hx=>?_,λb o e hx=>?_,λb xs e=>tups b xs (I.base.tups b xs e),λb o xs e=>frzs b o xs (I.base.frzs b o xs e),λb ps e=>?_⟩,?_,λx c e=>?_,?_,λx c e=>?_,λp hp=>?_,hok,I.len⟩
 ·exact keep b o (neL b o e) hb 29#1 18#9 22#0
 ·obtain⟨sl,e1⟩:=I.base.slot b o e n hb hx;obtain⟨sl',e2⟩:=slot b _ (neL b o e) hb 29#1 e1 22#0;exact⟨sl',e2⟩
 ·obtain⟨o',e1⟩:=I.base.there b o e hx;exact free b o' 29#1 e1 22#0
 ·obtain⟨o',e1⟩:=I.base.there b o e hx;exact there b o' 29#1 e1
 ·obtain⟨m1,e1⟩:=I.base.tbls b ps e;obtain⟨m2,e2⟩:=tbls b _ e1;exact⟨m1++m2,by rw[e2,Array.append_assoc]⟩
 ·obtain⟨m,hn,hl⟩:=I.loc;refine⟨m,ns m hn,λi x v e1 e2 e3=>?_⟩;obtain⟨u,r,l⟩:=hl i x v e1 e2 e3;refine⟨u,r,?_⟩;rcases l with l|⟨k,c,e,z⟩
  ·exact .inl l
  ·exact .inr ⟨k,c,e,cellK x c e _ z⟩
 ·obtain⟨v,z⟩:=I.cell x c e;exact⟨v,cellK x c e v z⟩
 ·obtain⟨m,⟨o,_,_,ho,_⟩,_⟩:=I.loc;exact free _ o (λz=>(hch _ z).2.1 rfl) ho 28#7
 ·obtain⟨v,o,ho,hd⟩:=I.cell x c e;exact free c o (λz=>(hch c z).2.2.1 x c e rfl) ho (I.freeC x c e)
 ·obtain⟨e,n,ne,nf,d⟩:=I.pin p hp;have nch:p.1∉ch:=λz=>(hch p.1 z).2.2.2 p hp rfl
  exact⟨keep p.1 p.2 ne nf nch e n,free p.1 p.2 nch e n,ne,nf,d⟩
theorem AT.un(I:AT X ad σ H s)(u:Un X.fs [] H H' s.heap h')(hok:Dd X.prog X.w H' h'):AT X ad σ H' {s with heap:=h',toks:=t'}:=by
 obtain⟨m,⟨o,es,ep,ho,r⟩,_⟩:=id I.loc;obtain⟨sl,hL⟩:=u.any ho I.free 0#3
 exact I.step (g':=s.gens) (d':=s.drawn) (ch:=[]) (λ_ z=>nomatch z) (λb o _ hb _ e n=>u.keep b o e n hb 0#3) (λb o _ hb _ e n=>u.slot b o e n hb 0#3) (λb o _ e n=>u.free b o e n 0#3) (λb o _ e=>u.there b o e 0#3) u.tups u.frzs u.tbls (λm' hm=>by obtain⟨o',es',ep',ho',r'⟩:=hm;rw[ho]at ho';cases ho';exact⟨_,es',ep',hL,r'⟩) hok I.bare
theorem AT.call{g':Array GenState}{d':Drawn}(I:AT X ad σ H s)(u:Un 24#1 ch H H' s.heap h')(hok:Dd X.prog X.w H' h')(hg:AllBare g')(hch:∀b∈ch,(b∈X.ex\/3#9<=b)/\b≠2#9/\(∀x c,X.env.cells.lookup x=some c->c≠b)/\∀p∈X.pn++ad,p.1≠b):
  AT X ad σ H' {s with heap:=h',gens:=g',drawn:=d',toks:=t'}:=by
 obtain⟨m,⟨o,es,ep,ho,r⟩,_⟩:=id I.loc;obtain⟨sl,hL⟩:=u.any ho I.free λz=>(hch _ z).2.1 rfl
 exact I.step (ch:=ch) hch (λb o hL hb hc e n=>u.keep b o e n (λz=>(dA.mp (I.stkSub b z)).elim hL hb) hc) (λb o _ _ hc e n=>u.any e n hc) (λb o hc e n=>u.free b o e n hc) (λb o hc e=>u.there b o e hc) u.tups u.frzs u.tbls (λm' hm=>by obtain⟨o',es',ep',ho',r'⟩:=hm;rw[ho]at ho';cases ho';exact⟨_,es',ep',hL,r'⟩) hok hg
theorem AT.turned{it:qS}(I:AT X ad σ H s)(k:∀b o,b≠it->s.heap.get? b=some o->h'.get? b=some o)(hn:H it=none)(hL:it≠2#9)(h1:it∈X.ex\/3#9<=it)(h2:∀x c,X.env.cells.lookup x=some c->c≠it)(h3:∀p∈X.pn++ad,p.1≠it):AT X ad σ H {s with heap:=h',toks:=t'}:=by
 have nit:∀b u,H b=some u->b≠it:=λb u e z=>by rw[z,hn]at e;cases e
 refine I.step (g':=s.gens) (d':=s.drawn) (ch:=[it]) (λb hb=>?_) (λb o _ _ hc e _=>k b o (λz=>hc (by simp[z])) e) (λb o _ _ hc e _=>⟨o.slots,k b o (λz=>hc (by simp[z])) e⟩) (λ_ _ _ _ n=>n)
  (λb o hc e=>⟨o,k b o (λz=>hc (by simp[z])) e⟩) (λ_ _ e=>e) (λ_ _ _ e=>e) (λb ps e=>⟨#[],by rw[e];simp⟩) (λm hm=>?_) (λb u e=>?_) I.bare
 ·have e:b=it:=by simpa using hb
  subst e;exact⟨h1,hL,h2,h3⟩
 ·obtain⟨o,es,ep,ho,r⟩:=hm;exact⟨o,es,ep,k _ o (Ne.symm hL) ho,r⟩
 ·refine (I.hok b u e).stay (λc v hc q=>k c v ?_ q) (λ_ q=>q) λ_ _ q=>q
  rcases hc with z|z
  ·rw[z];exact nit b u e
  ·exact nit c _ z
theorem AT.tok(I:AT X ad σ H s)(t:Nat):AT X ad σ H {s with toks:=t}:=I.un (h':=23#2) (t':=t) Un.refl I.hok
theorem AT.kept(I:AT X ad σ H s)(k:∀b u,s.heap.get? b=some u->h'.get? b=some u):AT X ad σ H {s with heap:=h',toks:=t'}:=I.un (Un.kept k) (I.hok.kept k)
theorem AT.laid{o:HO}(I:AT X ad σ H s)(k:∀b u,s.heap.get? b=some u->h'.get? b=some u)(hp:0#6<=a)(new:Aj X.prog X.w 29#4 h' a o):
  AT X ad σ 29#4 {s with heap:=h',toks:=t'}:=I.un (Un.laid k hp (I.hok.fresh hp)) (I.hok.laid k hp new)
theorem AT.write{x e:qS}{o:HO}(I:AT X ad σ H s)(mu:Y6 (H x))(he:e=x\/H e=some (.own x))(k:∀b u,b≠e->s.heap.get? b=some u->h'.get? b=some u)(heo:∃u,h'.get? e=some u)(new:Aj X.prog X.w (AU H x o) h' x o):AT X ad σ (AU H x o) {s with heap:=h',toks:=t'}:=I.un (Un.write mu he k heo) (I.hok.write mu he k heo new)
theorem AT.pins_of{pins':List (qS×Obj)}(I:AT X ad σ H s)(h:∀p∈pins',s.heap.get? p.1=some p.2/\H p.1=none/\p.1≠2#9/\p.1∉X.fs/\∀v,p.2.data≠.cell v):AT X pins' σ H s:=
 ⟨I.ok,I.os,I.bare,I.base,I.loc,I.cell,28#7,28#6,λp hp=>(cV.mp hp).elim (λz=>I.pin p (jC _ z)) (h p),I.hok,I.len⟩
theorem Hm{N:List Str}(hN:N.Nodup){x:Str}(a:N[i]?=some x)(b:N[j]?=some x):i=j:=by obtain⟨h1,e1⟩:=cP.mp a;obtain⟨h2,e2⟩:=cP.mp b;exact (iC hN).mp (e1.trans e2.symm)
theorem Jg{M:Model}{A:Around}{E:qR->qT->Prop}{x:Str}{v:V}{Q:Unit->qT->Prop}(I:AT X ad σ H s)(hN:25#1)(hi:X.N[i]?=some x)(hx:V0 X.env.scope x)(r:An v u)(h:∀s',AT X ad (σ.set i 13#6) H s'->(∃a,Heap.SameBut a s.heap 14#2/\(a=2#9\/X.env.cells.lookup x=some a))->Q () s')(hf:X.fn x=true\/X.env.scope.names.lookup x=some .local:=by first|exact .inl rfl|exact .inr rfl|assumption):wpAny M A (storeName X.env x u) Q E s:=by
 obtain⟨m,hn,hl⟩:=id I.loc;have hcls:(17#5==.class||(17#5==.module&&2#9 != X.env.globals))=false:=by rw[I.ok.kind];rfl
 have hiσ:i<σ.length:=by rw[I.len];exact (cP.mp hi).1
 have cne:=I.cne
 have tracked:∀{a:qS} {h':Heap},(∃o,s.heap.get? a=some o/\H a=none)->Heap.SameBut a s.heap h'->Dd X.prog X.w H h':=λ{a h'} ha hs b ob e=>by
  obtain⟨_,_,hfree⟩:=ha;refine (I.hok b ob e).stay (λc w' hc q=>(hs.2 c ?_).trans q) (λ_ q=>q) λ_ _ q=>q
  rintro rfl;rcases hc with rfl|hc
  ·rw[hfree]at e;cases e
  ·rw[hfree]at hc;cases hc
 rcases hx with hk|hk
 ·refine wpAny_storeName_local hk hn (λh' hn' hs=>?_) hcls;rcases id hn with⟨oL,_,_,hoL,_⟩;refine h _ ⟨I.ok,I.os,I.bare,⟨λb o e n hb hx=>?_,λb o e n hb hx=>?_,I.base.free,λb o e hx=>?_,I.base.tups,I.base.frzs,I.base.tbls⟩,⟨_,hn',λj y v' e1 e2 e3=>?_⟩,λy c e=>?_,28#7,28#6,λp hp=>?_,tracked ⟨oL,hoL,28#7⟩ hs,by simpa using I.len⟩ ⟨_,hs,.inl rfl⟩
  ·exact (hs.2 b (dH 21#9)).trans 18#9
  ·obtain⟨sl,e1⟩:=I.base.slot b o e n hb hx;exact⟨sl,(hs.2 b (dH 21#9)).trans e1⟩
  ·obtain⟨o',e1⟩:=I.base.there b o e hx;exact⟨o',(hs.2 b (dH 21#9)).trans e1⟩
  ·by_cases hj:j=i
   ·subst hj;rw[hi]at e1;cases e1;rw[iS hiσ]at e2;cases e2;exact⟨u,r,.inl ⟨hk,by simp⟩⟩
   ·rw[jD (Ne.symm hj)]at e2;obtain⟨u',r',q⟩:=hl j y v' e1 e2 e3;refine⟨u',r',?_⟩;rcases q with⟨k,e⟩|⟨k,c,e,z⟩
    ·refine .inl ⟨k,?_⟩;have:y≠x:=λe=>hj (Hm hN e1 (e▸hi))
     simp[this,e]
    ·exact .inr ⟨k,c,e,z.sameBut hs (cne y c e)⟩
  ·obtain⟨w',z⟩:=I.cell y c e;exact⟨w',z.sameBut hs (cne y c e)⟩
  ·rcases I.pin p hp with⟨e,n,ne,nf,d⟩;exact⟨(hs.2 p.1 ne).trans e,n,ne,nf,d⟩
 ·have hfn:X.fn x=true:=by
   rcases hf with z|z
   ·exact z
   ·rw[z]at hk;cases hk
  obtain⟨c,hc⟩:=I.ok.has x (.inl hk);obtain⟨w',z⟩:=I.cell x c hc;refine wpAny_storeName_cell I.ok.kind hk hc z (λh' hc' hs=>?_);obtain⟨oc,hoc,hocd⟩:=id z;refine h {s with heap:=h'} ⟨I.ok,I.os,I.bare,⟨λb o e n hb hx=>?_,λb o e n hb hx=>?_,I.base.free,λb o e hx=>?_,I.base.tups,I.base.frzs,I.base.tbls⟩,⟨m,hn.sameBut hs (Ne.symm (cne x c hc)),λj y v' e1 e2 e3=>?_⟩,λy c' e=>?_,28#7,28#6,λp hp=>?_,tracked ⟨oc,hoc,I.freeC x c hc⟩ hs,by simpa using I.len⟩ ⟨c,hs,.inr hc⟩
  ·exact (hs.2 b (dH (cu 16#1 26#5))).trans 18#9
  ·obtain⟨sl,e1⟩:=I.base.slot b o e n hb hx;exact⟨sl,(hs.2 b (dH (cu 16#1 26#5))).trans e1⟩
  ·obtain⟨o',e1⟩:=I.base.there b o e hx;exact⟨o',(hs.2 b (dH (cu 16#1 26#5))).trans e1⟩
  ·by_cases hj:j=i
   ·subst hj;rw[hi]at e1;cases e1;rw[iS hiσ]at e2;cases e2;exact⟨u,r,.inr ⟨.inl hk,c,hc,hc'⟩⟩
   ·rw[jD (Ne.symm hj)]at e2;obtain⟨u',r',q⟩:=hl j y v' e1 e2 e3;refine⟨u',r',?_⟩;rcases q with q|⟨k,c',e,z'⟩
    ·exact .inl q
    ·refine .inr ⟨k,c',e,z'.sameBut hs ?_⟩;rintro rfl;exact hj (Hm hN e1 (I.ok.inj _ _ _ e hc▸hi))
  ·by_cases hcc:c'=c
   ·subst hcc;exact⟨_,hc'⟩
   ·obtain⟨w2,z2⟩:=I.cell y c' e;exact⟨w2,z2.sameBut hs hcc⟩
  ·rcases I.pin p hp with⟨e,n,ne,nf,d⟩;refine⟨(hs.2 p.1 ?_).trans e,n,ne,nf,d⟩;intro q;rw[q,hoc]at e;have q':oc=p.2:=Option.some.inj e;exact d w' (by rw[<-q'];exact hocd)
theorem Ho{M:Model}{A:Around}{E:qR->qT->Prop}{x:Str}{v:V}{Q:Unit->qT->Prop}(I:AT X ad σ H s)(hN:25#1)(hi:X.N[i]?=some x)(hx:V0 X.env.scope x)(r:An v u)(h:∀s',AT X ad (σ.set i 13#6) H s'->Q () s')(hf:X.fn x=true\/X.env.scope.names.lookup x=some .local:=by first|exact .inl rfl|exact .inr rfl|assumption):wpAny M A (storeName X.env x u) Q E s:=
 Jg I hN hi hx r (λs' I' _=>h s' I') hf
theorem AT.call'(I:AT X ad σ H s)(ho:s'.os=s.os)(u:Un 24#1 ch H H' s.heap 14#2)(hok:Dd X.prog X.w H' 14#2)(hg:AllBare s'.gens)(hch:∀b∈ch,(b∈X.ex\/3#9<=b)/\b≠2#9/\(∀x c,X.env.cells.lookup x=some c->c≠b)/\∀p∈X.pn++ad,p.1≠b):AT X ad σ H' s':=by
 obtain⟨h',g',d',t',o'⟩:=s';have e:o'=s.os:=ho;subst e;exact I.call (g':=g') (t':=t') (d':=d') u hok hg hch
end
abbrev XK:=qR->Option qS->Hp->Prop
abbrev St:=List (Option V)
abbrev VK:=V->Hp->Prop
abbrev TE:=St->Hp->VK->Prop
abbrev TT:=St->Hp->(Bool->Hp->Prop)->Prop
abbrev TA:=St->Hp->(List V->Hp->Prop)->Prop
structure GC where
 nx:St->Hp->Prop
 rt:VK
 bk:St->Hp->Prop:=λ_ _=>False
 ct:St->Hp->Prop:=λ_ _=>False
abbrev TS:=GC->St->Hp->Prop
def EP(X:Cx)(ad:List (qS×Obj))(σ:St)(Q:VK)(u:qR)(s':qT):=∃v H',AT X ad σ H' s'/\An v u/\Q v H'
def TP(X:Cx)(ad:List (qS×Obj))(σ:St)(Q:Bool->Hp->Prop)(b:Bool)(s':qT):=∃H',AT X ad σ H' s'/\Q b H'
def AP(X:Cx)(ad:List (qS×Obj))(σ:St)(Q:List V->Hp->Prop)(us:List qR)(s':qT):=∃vs H',AT X ad σ H' s'/\Ar vs us/\Q vs H'
def SP(X:Cx)(ad:List (qS×Obj))(D:GC)(f:Flow)(s':qT):Prop:=
 match f with
 |.next=>∃σ' H',AT X ad σ' H' s'/\D.nx σ' H'
 |.brk=>∃σ' H',AT X ad σ' H' s'/\D.bk σ' H'
 |.cont=>∃σ' H',AT X ad σ' H' s'/\D.ct σ' H'
 |.ret u=>∃v σ' H',AT X ad σ' H' s'/\An v u/\D.rt v H'
def PE(X:Cx)(e:Expr)(t:TE):Prop:=
 ∀(ad:List (qS×Obj)) (s:qT) (σ:St) (H:Hp) (Q:VK),AT X ad σ H s->t σ H Q->wpAny 1#0 X.A (eval e 1#6) 7#1 X.xe s
def PT(X:Cx)(e:Expr)(t:TT):Prop:=
 ∀(ad:List (qS×Obj)) (s:qT) (σ:St) (H:Hp) (Q:Bool->Hp->Prop),AT X ad σ H s->t σ H Q->wpAny 1#0 X.A (isTrue e X.env (eval e 1#6)) (TP X ad σ Q) X.xe s
def PW(X:Cx)(e:Expr)(t:TT):Prop:=
 ∀(whole:Sem qR) (ad:List (qS×Obj)) (s:qT) (σ:St) (H:Hp) (Q:Bool->Hp->Prop),AT X ad σ H s->t σ H Q->wpAny 1#0 X.A (isTrue e X.env whole) (TP X ad σ Q) X.xe s
variable{X:Cx}
theorem PW.pt{e:Expr}{t:TT}(h:PW X e t):PT X e t:=h _
def PA(X:Cx)(es:List Expr)(t:TA):Prop:=
 ∀(pos:Pos) (ad:List (qS×Obj)) (s:qT) (σ:St) (H:Hp) (Q:List V->Hp->Prop),AT X ad σ H s->t σ H Q->wpAny 1#0 X.A (spliced (backTo pos 5#2)) (AP X ad σ Q) X.xe s
def PS(X:Cx)(st:Stmt)(t:TS):Prop:=
 ∀(ad:List (qS×Obj)) (s:qT) (σ:St) (H:Hp) (D:GC),AT X ad σ H s->t D σ H->wpAny 1#0 X.A (exec st 1#6) (SP X ad D) X.xe s
def Gg(X:Cx)(st:List Stmt)(t:TS):Prop:=
 ∀(ad:List (qS×Obj)) (s:qT) (σ:St) (H:Hp) (D:GC),AT X ad σ H s->t D σ H->wpAny 1#0 X.A (execs st 1#6) (SP X ad D) X.xe s
variable{E:qR->qT->Prop}{s:qT}
theorem BB{t:Sem α}{Q Q':α->qT->Prop}{M:Model}{A:Around}(h:wpAny M A t Q E s)(hQ:∀a s,Q a s->Q' a s):wpAny M A t Q' E s:=qN h hQ λ_ _ x=>x
variable{Q:qR->qT->Prop}{ad:List (qS×Obj)}{σ:St}{op:CmpOp}
section
def RN(i:Nat):TE:=λσ H Q=>∃v,σ[i]?=some 13#6/\Q v H
def tC(v:V):TE:=λ_ H Q=>Q v H
theorem RO{x:Str}{pos:Pos}(hN:X.N[i]?=some x)(hv:Y8 X.env.scope x)(hd:(x==("__debug__":Str))=false:=by decide)(hcd:(x==("__classdict__":Str))=false:=by decide):PE X 9#4 (RN i):=by
 intro ad s σ H Q I h;obtain⟨v,e,h⟩:=h;obtain⟨m,hn,hl⟩:=I.loc;obtain⟨u,r,l⟩:=hl i x v hN e hv;have fin:EP X ad σ Q u s:=⟨v,H,I,r,h⟩;rcases l with⟨hk,hm⟩|⟨hk,c,hc,hcell⟩
 ·exact wpAny_Name 21#1 hd
 ·rcases hk with hk|hk
  ·exact wpAny_Name 19#8 hd
  ·exact wpAny_Name 18#8 hd
theorem AG{i j pos}:PE X (.Constant 9#3 j pos) (tC 9#3):=λ_ _ _ H _ I h=>wpAny_Constant_int ⟨.int i,H,I.tok _,⟨_,rfl⟩,h⟩
theorem Fc{b j pos}:PE X (.Constant (.bool b) j pos) (tC (.bl b)):=λ_ _ _ H _ I h=>Constant_bool ⟨.bl b,H,I,rfl,h⟩
theorem Dw{j pos}:PE X (.Constant .none j pos) (tC .non):=λ_ _ _ H _ I h=>Constant_none ⟨.non,H,I,rfl,h⟩
theorem RP{x j pos}:PE X (.Constant (.str x) j pos) (tC (.str x)):=λ_ _ _ H _ I h=>Calls.Constant_str ⟨.str x,H,I.tok _,⟨_,rfl⟩,h⟩
def Gl(X:Cx)(x:Str):Prop:=X.env.kindOf x=some .globalImplicit
theorem Fd{E:qR->qT->Prop}{x:Str}{pos:Pos}(I:AT X ad σ H s)(hg:Gl X x)(hm:X.mg x=some u)(h:Q u s)(hd:(x==("__debug__":Str))=false:=by decide):wpAny 1#0 X.A (eval 9#4 1#6) Q E s:=
 Calls.Name_function_global I.ok.kind hg (Calls.loadGlobal_global (by rw[I.ok.glob];exact I.mod.glob.keeps I.bk) hm h) hd
theorem CS{E:qR->qT->Prop}{x:Str}{pos:Pos}(I:AT X ad σ H s)(hg:Gl X x)(hm:X.mg x=none)(hv:bootBuiltins x=some u)(h:Q u s)(hn:x≠"__name__":=by decide)(hd:(x==("__debug__":Str))=false:=by decide):wpAny 1#0 X.A (eval 9#4 1#6) Q E s:=by
 obtain⟨mb,h1,h2⟩:=I.mod.blt;exact Calls.Name_function_global I.ok.kind hg (Calls.loadGlobal_builtin (by rw[I.ok.glob];exact I.mod.glob.keeps I.bk) hm (by rw[I.ok.blt];exact h1.keeps I.bk) ((h2 x hn).trans hv) h) hd
theorem ON{x:Str}{v:V}{pos:Pos}(hg:Gl X x)(hm:X.mg x=some u)(r:An v u)(hd:(x==("__debug__":Str))=false:=by decide):PE X 9#4 (tC v):=
 λ_ _ _ H _ I h=>Fd I hg hm ⟨v,H,I,r,h⟩ hd
theorem Uf{x:Str}{v:V}{pos:Pos}(hg:Gl X x)(hm:X.mg x=none)(hv:bootBuiltins x=some u)(r:An v u)(hn:x≠"__name__":=by decide)(hd:(x==("__debug__":Str))=false:=by decide):PE X 9#4 (tC v):=
 λ_ _ _ H _ I h=>CS I hg hm hv ⟨v,H,I,r,h⟩ hn hd
variable{a b:Expr}{ta tb:TE}{pos:Pos}
def PC(X:Cx)(op:CmpOp)(a b:Expr)(t:TE):Prop:=
 ∀(ad:List (qS×Obj)) (s:qT) (σ:St) (H:Hp) (Q:VK),AT X ad σ H s->t σ H Q ->
  wpAny 1#0 X.A (eval a 1#6) (λv s₁=>wpAny 1#0 X.A (eval b 1#6) (λu s₂=>wpAny 1#0 X.A (compareOp op v u) 7#1 X.xe s₂) X.xe s₁) X.xe s
def tB(t:TE):TT:=λσ H Q=>t σ H λx H1=>∃c,x=.bl c/\Q c H1
theorem Hq{t:TE}(h:PC X op a b t)(h1:behindInMarks op b=false:=by first|exact nobehind _ 0#1 0#1|rfl):PT X (.Compare a [op] [b] pos) (tB t):=by intro ad s σ H Q I hw;refine wpAny_isTrue_Compare1 (BB (h ad s σ H _ I hw) λv s1 h1=>BB h1 λu s2 h2=>BB h2 λc s3 z9=>?_) h1;obtain⟨x,H1,I1,r1,q1⟩:=z9;obtain⟨d,rfl,q⟩:=q1;cases r1;exact wpAny_truthy_bool ⟨H1,I1,q⟩
theorem C7{e:Expr}{t:TE}(h:PE X e t)(he:∀whole,isTrue e X.env whole=(do let v <-whole;standAt e.pos;holding [v] (truthy v)):=by intro _;rfl):PT X e (tB t):=by intro ad s σ H Q I hw;refine isTrue_plain (BB (h ad s σ H _ I hw) λv s1 z9=>?_) (he _);obtain⟨x,H1,I1,r1,q1⟩:=z9;obtain⟨d,rfl,q⟩:=q1;cases r1;exact wpAny_truthy_bool ⟨H1,I1,q⟩
variable{tA tB':TT}{rest:List Expr}
def Y9(t u:TT):TT:=λσ H Q=>t σ H λc H1=>if c=true then u σ H1 Q else Q false H1
def b7(t u:TT):TT:=λσ H Q=>t σ H λc H1=>if c=true then Q true H1 else u σ H1 Q
def ZA(t:TT):TT:=λσ H Q=>t σ H λc H1=>Q (!c) H1
theorem HM(ha:PT X a tA):PW X (.BoolOp .And [a] pos) tA:=by
 intro wh ad s σ H Q I h;refine isTrue_and (BB (ha ad s σ H Q I h) λc s1 e=>?_);cases c with
 |true=>exact isTrue_and_nil e
 |false=>exact e
theorem EZ(ha:PT X a tA):PW X (.BoolOp .Or [a] pos) tA:=by
 intro wh ad s σ H Q I h;refine isTrue_or (BB (ha ad s σ H Q I h) λc s1 e=>?_);cases c with
 |false=>exact isTrue_or_nil e
 |true=>exact e
theorem Hr(ha:PT X a tA)(hb:PW X (.BoolOp .And (b::rest) pos) tB'):PW X (.BoolOp .And (a::b::rest) pos) (Y9 tA tB'):=by
 intro wh ad s σ H Q I h;refine isTrue_and (BB (ha ad s σ H _ I h) λc s1 z9=>?_);obtain⟨H1,I1,q1⟩:=z9;cases c with
 |true=>exact hb wh ad s1 σ H1 Q I1 q1
 |false=>exact⟨H1,I1,q1⟩
theorem Ea(ha:PT X a tA)(hb:PW X (.BoolOp .Or (b::rest) pos) tB'):PW X (.BoolOp .Or (a::b::rest) pos) (b7 tA tB'):=by
 intro wh ad s σ H Q I h;refine isTrue_or (BB (ha ad s σ H _ I h) λc s1 z9=>?_);obtain⟨H1,I1,q1⟩:=z9;cases c with
 |true=>exact⟨H1,I1,q1⟩
 |false=>exact hb wh ad s1 σ H1 Q I1 q1
theorem Dx(ha:PT X a tA):PT X (.UnaryOp .Not a pos) (ZA tA):=by intro ad s σ H Q I h;exact isTrue_not (ha ad s σ H (λc H1=>Q (!c) H1) I h)
def V1(ta tb:TE):TE:=λσ H Q=>ta σ H λx H1=>∃c,x=.bl c/\if c=true then tb σ H1 Q else Q (.bl false) H1
def ZB(ta tb:TE):TE:=λσ H Q=>ta σ H λx H1=>∃c,x=.bl c/\if c=true then Q 29#7 H1 else tb σ H1 Q
def V2(ta:TE):TE:=λσ H Q=>ta σ H λx H1=>∃c,x=.bl c/\Q (.bl (!c)) H1
theorem Eb{op}{t:TE}(h:PE X a t):PE X (.BoolOp op [a] pos) t:=λad s σ H Q I hw=>BoolOp_one (h ad s σ H Q I hw)
theorem Dy(ha:PE X a ta)(hb:PE X (.BoolOp .And (b::rest) pos) tb):PE X (.BoolOp .And (a::b::rest) pos) (V1 ta tb):=by
 intro ad s σ H Q I h;refine BoolOp_and (BB (ha ad s σ H _ I h) λv s1 z9=>?_);obtain⟨x,H1,I1,r1,q1⟩:=z9;obtain⟨c,rfl,q1⟩:=q1;cases r1;refine wpAny_truthy_bool ?_;cases c with
 |true=>exact hb ad s1 σ H1 Q I1 q1
 |false=>exact⟨.bl false,H1,I1,rfl,q1⟩
theorem ZC(ha:PE X a ta)(hb:PE X (.BoolOp .Or (b::rest) pos) tb):PE X (.BoolOp .Or (a::b::rest) pos) (ZB ta tb):=by
 intro ad s σ H Q I h;refine BoolOp_or (BB (ha ad s σ H _ I h) λv s1 z9=>?_);obtain⟨x,H1,I1,r1,q1⟩:=z9;obtain⟨c,rfl,q1⟩:=q1;cases r1;refine wpAny_truthy_bool ?_;cases c with
 |false=>exact hb ad s1 σ H1 Q I1 q1
 |true=>exact⟨.bl true,H1,I1,rfl,q1⟩
theorem ND(ha:PE X a ta):PE X (.UnaryOp .Not a pos) (V2 ta):=by intro ad s σ H Q I h;refine UnaryOp_ (BB (ha ad s σ H _ I h) λv s1 z9=>?_);obtain⟨x,H1,I1,r1,q1⟩:=z9;obtain⟨c,rfl,q1⟩:=q1;cases r1;exact not_of (wpAny_truthy_bool ⟨.bl (!c),H1,I1,rfl,q1⟩)
end
def Ad(K:qW)(H:Hp)(a:qS)(xs:List V):Prop:=
 Rd H a 3#2 \/
  ∃(o:Obj) (its:Array qR) (n:Nat),K.lookup a=some o/\o.cls=.type "list"/\o.dict=none/\13#1=.seq its n/\its.size<=sizeLine/\Ar xs its.toList
def Ai(K:qW)(H:Hp)(a:qS)(xs:List V):Prop:=
 Rd H a 10#5 \/
  ∃(o:Obj) (its:Array qR) (n:Nat),K.lookup a=some o/\o.cls=.type "tuple"/\13#1=.seq its n/\its.size<=sizeLine/\Ar xs its.toList
noncomputable def aj:qR->Option V
 |.none=>some .non
 |.bool b=>some (.bl b)
 |.int i _=>some 9#3
 |.str x _=>some (.str x)
 |.bytes b _=>some (.byt b)
 |.float b _=>some (.flt b)
 |.ref a=>some 2#0
 |.type n=>some (.ty n)
 |_=>none
theorem An.abs{x:V}(r:An x u):aj u=some x:=by
 cases x with
 |non=>cases r;rfl
 |bl _=>cases r;rfl
 |int _=>obtain⟨t,rfl⟩:=r;rfl
 |str _=>obtain⟨t,rfl⟩:=r;rfl
 |byt _=>obtain⟨t,rfl⟩:=r;rfl
 |flt _=>obtain⟨t,rfl⟩:=r;rfl
 |ref _=>cases r;rfl
 |ty _=>cases r;rfl
variable{y:V}
theorem An.inj{x:V}(r:An x u)(q:An y u):x=y:=Option.some.inj (r.abs.symm.trans q.abs)
theorem Ar.inj:∀{xs ys:List V} {us:List qR},Ar xs us->Ar ys us->xs=ys:=by
 intro _ ys _ h
 induction h generalizing ys with
 |nil=>intro g;cases g;rfl
 |cons r _ ih =>
  intro g;cases g with
  |cons r' t'=>rw[r.inj r',ih t']
section
variable{ys:List V}
theorem Ad.of{K:qW}(h:H a=some 3#2):Ad K H a xs:=.inl (.inl h)
theorem Ai.of{K:qW}(h:H a=some 10#5):Ai K H a xs:=.inl (.inl h)
theorem AT.list(I:AT X ad σ H s)(h:Ad X.K H a xs):∃its:List qR,Ar xs its/\PlainL s.heap a 7#0/\1#3<=sizeLine:=by
 rcases h with h|⟨o,its,n,hk,hc,hd,hs,hz,r⟩
 ·obtain⟨z,its,n,r,e⟩:=h.ok I.hok;exact⟨its,r,⟨_,n,e,rfl,rfl,rfl⟩,z⟩
 ·refine⟨its.toList,r,⟨o,n,I.kIn a o hk,hc,hd,by simpa using hs⟩,?_⟩;have e:=10#8;simp only[Array.length_toList]at e;lia
theorem AT.tuple(I:AT X ad σ H s)(h:Ai X.K H a xs):∃its:List qR,Ar xs its/\IsTup s.heap a 7#0/\1#3<=sizeLine:=by
 rcases h with h|⟨o,its,n,hk,hc,hs,hz,r⟩
 ·obtain⟨z,its,r,p⟩:=h.ok I.hok;exact⟨its,r,p,z⟩
 ·refine⟨its.toList,r,⟨o,I.kIn a o hk,hc,n,by simpa using hs⟩,?_⟩;have e:=10#8;simp only[Array.length_toList]at e;lia
theorem AT.list_inj(I:AT X ad σ H s)(h:Ad X.K H a xs)(h':Ad X.K H a ys):xs=ys:=by
 obtain⟨its,r,⟨o,n,e,_,_,d⟩,_⟩:=I.list h;obtain⟨its',r',⟨o',n',e',_,_,d'⟩,_⟩:=I.list h';rw[e]at e';cases e';rw[d]at d'
 injection d' with d1 _
 have:its=its':=by simpa using qQ Array.toList d1
 subst this;exact r.inj r'
theorem AT.tuple_inj(I:AT X ad σ H s)(h:Ai X.K H a xs)(h':Ai X.K H a ys):xs=ys:=by
 obtain⟨its,r,⟨o,e,_,n,d⟩,_⟩:=I.tuple h;obtain⟨its',r',⟨o',e',_,n',d'⟩,_⟩:=I.tuple h';rw[e]at e';cases e';rw[d]at d'
 injection d' with d1 _
 have:its=its':=by simpa using qQ Array.toList d1
 subst this;exact r.inj r'
end
abbrev Cx.wish(X:Cx)(E:qR->qT->Prop):Cx:={X with xe:=E}
abbrev Cx.nox(X:Cx):Cx:=X.wish λ_ _=>False
theorem Cx.Ok.wish(ok:X.Ok)(E:qR->qT->Prop):(X.wish E).Ok:=
 ⟨ok.mod,ok.kind,ok.glob,ok.blt,ok.above,ok.inj,ok.has,ok.cab,ok.hd,ok.frames,ok.stk,ok.exf,ok.bs,ok.bsz,ok.noex,ok.exfs,ok.funs,ok.frf⟩
theorem Cx.Ok.unwish(ok:(X.wish E).Ok):X.Ok:=
 ⟨ok.mod,ok.kind,ok.glob,ok.blt,ok.above,ok.inj,ok.has,ok.cab,ok.hd,ok.frames,ok.stk,ok.exf,ok.bs,ok.bsz,ok.noex,ok.exfs,ok.funs,ok.frf⟩
variable{D:GC}
theorem AT.wish(I:AT X ad σ H s)(E:qR->qT->Prop):AT (X.wish E) ad σ H s:=⟨I.ok.wish E,I.os,I.bare,I.base,I.loc,I.cell,28#7,28#6,I.pin,I.hok,I.len⟩
theorem AT.unwish(I:AT (X.wish E) ad σ H s):AT X ad σ H s:=⟨I.ok.unwish,I.os,I.bare,I.base,I.loc,I.cell,28#7,28#6,I.pin,I.hok,I.len⟩
theorem SP.unwish{f:Flow}(h:SP (X.wish E) ad D f s'):SP X ad D f s':=by
 cases f with
 |next=>obtain⟨σ',H',I,q⟩:=h;exact⟨σ',H',I.unwish,q⟩
 |brk=>obtain⟨σ',H',I,q⟩:=h;exact⟨σ',H',I.unwish,q⟩
 |cont=>obtain⟨σ',H',I,q⟩:=h;exact⟨σ',H',I.unwish,q⟩
 |ret u=>obtain⟨v,σ',H',I,r,q⟩:=h;exact⟨v,σ',H',I.unwish,r,q⟩
theorem Gg.nox{st:List Stmt}{t:TS}(h:Gg X.nox st t):Gg X st t:=λad s σ H D I hw =>
 qN (h ad s σ H D (I.wish _) hw) (λ_ _ q=>q.unwish) λ_ _ z=>False.elim z
variable{tc:TT}
section
variable{st:Stmt}{rest:List Stmt}{t u:TS}{e:Expr}{te:TE}{pos:Pos}
def RQ:TS:=λD σ H=>D.nx σ H
def P6(t u:TS):TS:=λD σ H=>t {D with nx:=u D} σ H
theorem Ae:Gg X [] RQ:=λ_ _ σ H _ I h=>wpAny_execs_nil ⟨σ,H,I,h⟩
theorem AB(h1:PS X st t)(h2:Gg X rest u):Gg X (st::rest) (P6 t u):=by
 intro ad s σ H D I h;refine wpAny_execs_cons (BB (h1 ad s σ H {D with nx:=u D} I h) λf s1 q=>?_);cases f with
 |next =>
  rcases q with⟨σ',H',I',q⟩;exact h2 ad s1 σ' H' D I' q
 |ret v=>exact q
 |brk=>exact q
 |cont=>exact q
theorem AE(h1:PS X st t):Gg X [st] t:=by
 intro ad s σ H D I h;refine wpAny_execs_cons (BB (h1 ad s σ H D I h) λf s1 q=>?_);cases f with
 |next=>exact wpAny_execs_nil q
 |ret v=>exact q
 |brk=>exact q
 |cont=>exact q
theorem AT.quiet(I:AT X ad σ H s):interactive 1#6=false:=by simp[interactive,I.ok.kind]
def V3(te:TE):TS:=λD σ H=>te σ H λ_ H1=>D.nx σ H1
theorem Ao(he:PE X e te)(hs:swapsWith e none pos.line 1#6=pure false:=by rfl):PS X (.Expr e pos) (V3 te):=by intro ad s σ H D I h;exact wpAny_Expr_any (BB (he ad s σ H _ I h) λv s1 ⟨x,H1,I1,r1,q1⟩=>⟨σ,H1,I1,q1⟩) I.quiet hs
def ZD(te:TE):TS:=λD σ H=>te σ H D.rt
theorem AN(he:PE X e te):PS X (.Return (some e) pos) (ZD te):=by intro ad s σ H D I h;exact wpAny_Return_some (BB (he ad s σ H _ I h) λv s1 ⟨x,H1,I1,r1,q1⟩=>⟨x,σ,H1,I1,r1,q1⟩)
def W6(c:TT)(t u:TS):TS:=λD σ H=>c σ H λb H1=>if b=true then t D σ H1 else u D σ H1
theorem Ay{c:Expr}{a b:List Stmt}(hc:PT X c tc)(ha:Gg X a t)(hb:Gg X b u):PS X (.If c a b pos) (W6 tc t u):=by
 intro ad s σ H D I h;refine wpAny_If (BB (hc ad s σ H _ I h) λd s1 z9=>?_);obtain⟨H1,I1,q1⟩:=z9;cases d with
 |true=>exact ha ad s1 σ H1 D I1 q1
 |false=>exact hb ad s1 σ H1 D I1 q1
end
abbrev TG:=V->St->Hp->(St->Hp->Prop)->Prop
abbrev W7:=List V->St->Hp->(St->Hp->Prop)->Prop
def PG(X:Cx)(target:Expr)(t:TG):Prop:=
 ∀(ad:List (qS×Obj)) (s:qT) (σ:St) (H:Hp) (v:V) (u:qR) (Q:St->Hp->Prop),AT X ad σ H s->An v u->t v σ H Q ->
  wpAny 1#0 X.A (assign target X.env u) (λ_ s'=>∃σ' H',AT X ad σ' H' s'/\Q σ' H') X.xe s
def aW(X:Cx)(ts:List Expr)(t:W7):Prop:=
 ∀(ad:List (qS×Obj)) (s:qT) (σ:St) (H:Hp) (vs:List V) (us:List qR) (Q:St->Hp->Prop),AT X ad σ H s->Ar vs us->t vs σ H Q ->
  wpAny 1#0 X.A (assignInOrder ((assignEach ts 1#6).map (·.2)) us) (λ_ s'=>∃σ' H',AT X ad σ' H' s'/\Q σ' H') X.xe s
abbrev W8:=V->V->V->Hp->(Hp->Prop)->Prop
def ZE(X:Cx)(t:W8):Prop:=
 ∀(ad:List (qS×Obj)) (s:qT) (σ:St) (H:Hp) (o i v:V) (ov iv u:qR) (Q:Hp->Prop),AT X ad σ H s->An o ov->An i iv->An v u->t o i v H Q ->
  wpAny 1#0 X.A (setItem ov iv u) (λ_ s'=>∃H',AT X ad σ H' s'/\Q H') X.xe s
variable{to te:TE}{tg:Expr}
section
variable{pos:Pos}
def C8(i:Nat):TG:=λv σ H Q=>Q (σ.set i 13#6) H
theorem HN{x:Str}(hN:25#1)(hi:X.N[i]?=some x)(hx:V0 X.env.scope x)(hf:X.fn x=true\/X.env.scope.names.lookup x=some .local:=by first|exact .inl rfl|exact .inr rfl|assumption):PG X (.Name x pos) (C8 i):=by intro ad s σ H v u Q I r h;exact wpAny_assign_Name (Ho I hN hi hx r (λs' I'=>⟨_,H,I',h⟩) hf)
def ak:W7:=λvs σ H Q=>vs=[]/\Q σ H
def ZF(t:TG)(u:W7):W7:=λvs σ H Q=>∃v r,vs=v::r/\t v σ H λσ' H'=>u r σ' H' Q
theorem Fe:aW X [] ak:=by intro ad s σ H vs us Q I r h;obtain⟨e,h⟩:=h;subst e;cases r;exact assignInOrder_nil ⟨σ,H,I,h⟩
theorem CA{e:Expr}{es:List Expr}{t:TG}{u:W7}(h1:PG X e t)(h2:aW X es u)(hs:(assignEach (e::es) 1#6).map (·.2)=assign e 1#6::(assignEach es 1#6).map (·.2):=by rfl):aW X (e::es) (ZF t u):=by
 intro ad s σ H vs us Q I r h;obtain⟨v,vr,e1,h⟩:=h;subst e1;cases r with
 |cons r rr =>
  rw[hs];refine assignInOrder_cons (BB (h1 ad s σ H _ _ _ I r h) λ_ s1 z9=>?_);obtain⟨σ1,H1,I1,q1⟩:=z9;exact h2 ad s1 σ1 H1 _ _ Q I1 rr q1
def am(K:qW)(n:Nat)(t:W7):TG:=λv σ H Q=>∃a xs,v=.ref a/\Ai K H a xs/\1#3=n/\t xs σ H Q
theorem Hs{es:List Expr}{k:Nat}{t:W7}{n:Nat}(hc:23#4=true)(h:aW X es t)(hn:(assignEach es 1#6).length=n:=by rfl)(hst:(assignEach es 1#6).findIdx? (·.1)=none:=by rfl):PG X (.Tuple es k pos) (am X.K n t):=by
 intro ad s σ H v u Q I r hw;rcases hw with⟨a,xs,e1,hq,hl,hw⟩;subst e1;cases r;rcases I.tuple hq with⟨its,rv,ht,hz⟩;refine assign_Tuple_tuple 5#9 ht (by simp[hn,<-hl,rv.length]) hst λh' hx=>?_;have I1:AT X ad σ H {s with heap:=h'}:=I.kept (t':=7#8) λb o e=>hx b o (dH 16#1) e
 exact h ad _ σ H xs _ Q I1 (by simpa using rv) hw
def ao(to ti:TE)(t:W8):TG:=λv σ H Q=>to σ H λo H1=>ti σ H1 λi H2=>t o i v H2 λH3=>Q σ H3
theorem RS{o i:Expr}{ti:TE}{t:W8}(ho:PE X o to)(hi:PE X i ti)(hs:ZE X t)(ha:∀v,assign 12#7 X.env v=(do
   let ov <-holding [v] 14#7
   let iv <-holding [v,ov] (eval i 1#6)
   standAt pos
   holding [v,ov,iv] (setItem ov iv v)
   release [v,ov,iv] []):=by intro _;rfl):PG X 12#7 (ao to ti t):=by
 intro ad s σ H v u Q I r h;rw[ha];refine qC (qP (BB (ho ad s σ H _ I h) λov s1 z9=>?_));obtain⟨x,H1,I1,r1,q1⟩:=z9;refine qC (qP (BB (hi ad s1 σ H1 _ I1 q1) λiv s2 z9=>?_));obtain⟨y,H2,I2,r2,q2⟩:=z9;refine qC (wpAny_standAt (qC (qP (BB (hs ad s2 σ H2 x y v ov iv u _ I2 r1 r2 r q2) λ_ s3 z9=>?_))));obtain⟨H3,I3,q3⟩:=z9;exact wpAny_release ⟨σ,H3,I3,q3⟩
def JP(te:TE)(g:TG):TS:=λD σ H=>te σ H λx H1=>g x σ H1 D.nx
theorem RT{e:Expr}{g:TG}(he:PE X e te)(hg:PG X tg g)(hs:swapsWithSole [tg] e pos.line 1#6=pure false:=by rfl)(hw:swappedStores [tg] e 1#6=pure none:=by rfl)(h1:(assignEach [tg] 1#6).map (·.2)=[assign tg 1#6]:=by rfl):PS X (.Assign [tg] e pos) (JP te g):=by
 intro ad s σ H D I h;refine wpAny_Assign_stores (BB (he ad s σ H _ I h) λv s1 z9=>?_) hs hw;obtain⟨x,H1,I1,r1,q1⟩:=z9;rw[h1];exact BB (hg ad s1 σ H1 x v _ I1 r1 q1) λ_ s2 q=>q
theorem GD{x:Str}{e:Expr}{pos':Pos}(hN:25#1)(hi:X.N[i]?=some x)(hx:V0 X.env.scope x)(he:PE X e te)(hs:swapsWith e (some (.Name x pos')) pos.line 1#6=pure false:=by rfl)(hf:X.fn x=true\/X.env.scope.names.lookup x=some .local:=by first|exact .inl rfl|exact .inr rfl|assumption):
  PS X (.Assign [.Name x pos'] e pos) (JP te (C8 i)):=by
 intro ad s σ H D I h;refine wpAny_Assign_Name (BB (he ad s σ H _ I h) λv s1 z9=>?_) hs;obtain⟨y,H1,I1,r1,q1⟩:=z9;exact Ho I1 hN hi hx r1 (λs2 I2=>⟨_,H1,I2,q1⟩) hf
end
section
variable{pos:Pos}
def W9(c:TT)(tb:TS):TS:=λD σ H=>∃W:Nat->St->Hp->Prop,(∃m,W m σ H)/\∀m σ H,W m σ H ->
 c σ H λb H1=>if b=true then ∃N:St->Hp->Prop,(∀σ' H',N σ' H'->∃m',m'<m/\W m' σ' H')/\tb {D with nx:=N,ct:=N,bk:=D.nx} σ H1 else D.nx σ H1
theorem Bs{c:Expr}{body:List Stmt}{tb:TS}(hp:PassesOwn 1#0 X.A X.env X.xe)(hc:PT X c tc)(hb:Gg X body tb):PS X (.While c body [] pos) (W9 tc tb):=by
 intro ad s σ H D I h;rcases h with⟨W,⟨m0,w0⟩,turn⟩;refine wpAny_While (codeAny_whileLoop (λn s'=>∃σ' H',AT X ad σ' H' s'/\W n σ' H') ?_ m0 ⟨σ,H,I,w0⟩);intro n s1 hRq;rcases hRq with⟨σ1,H1,I1,w1⟩;refine wpAny_passesOwn hp (BB (hc ad s1 σ1 H1 _ I1 (turn n σ1 H1 w1)) λb s2 z9=>?_);obtain⟨H2,I2,q2⟩:=z9;cases b with
 |true =>
  obtain⟨N,hN,q2⟩:=q2;rw[qF rfl];refine wpAny_passesOwn hp (BB (hb ad s2 σ1 H2 _ I2 q2) λf s3 q3=>?_);cases f with
  |next =>
   rcases q3 with⟨σ3,H3,I3,n3⟩;obtain⟨m',hm,w3⟩:=hN σ3 H3 n3;exact⟨m',hm,σ3,H3,I3,w3⟩
  |cont =>
   rcases q3 with⟨σ3,H3,I3,n3⟩;obtain⟨m',hm,w3⟩:=hN σ3 H3 n3;exact⟨m',hm,σ3,H3,I3,w3⟩
  |brk=>exact q3
  |ret v=>exact q3
 |false =>
  rw[qE dB];exact wpAny_execs_nil ⟨σ1,H2,I2,q2⟩
end
structure It where
 go:Nat->Hp->Prop
 yld:Nat->Hp->V->Hp->Prop
 stop:Nat->Hp->Prop
def FP(X:Cx)(ad:List (qS×Obj))(H:Hp)(b:qS):Prop:=
 H b=none/\b≠2#9/\b∉X.fs/\(b∈X.ex\/3#9<=b)/\(∀x c,X.env.cells.lookup x=some c->c≠b)/\∀p∈X.pn++ad,p.1≠b
variable{H':Hp}
theorem AT.fpOk{b:qS}(I:AT X ad σ H s)(hb:0#6<=b)(hn:H' b=none):FP X ad H' b:=by
 refine⟨hn,gH (cu I.lt hb),I.nofs hb,.inr (dO I.sz hb),λx c e z=>?_,λp hp z=>?_⟩
 ·obtain⟨v,q⟩:=I.cell x c e;exact qG (cu q.lt (by rw[z];exact hb)) (dM _)
 ·exact qG (cu (cg (I.pin p hp).1) (by rw[z];exact hb)) (dM _)
structure Ht(P:qU)(w:qV)(K:qW)(tg:Expr)(J:It)(fp:List qS)(it:qS)(tn:Nat->Heap->Prop):Prop where
 mem:it∈fp
 obj:∀i h,tn i h->∀b∈fp,∃o,h.get? b=some o/\∀v,13#1≠.cell v
 keep:∀i h h',tn i h->(∀b∈fp,∀o,h.get? b=some o->h'.get? b=some o)->tn i h'
 item:∀(X:Cx),27#0=P->X.w=w->X.K=K->23#4=true->∀(i:Nat) (ad:List (qS×Obj)) (s:qT) (σ:St) (H:Hp) (E:qR->qT->Prop),AT X ad σ H s->(∀b∈fp,FP X ad H b)->tn i 23#2->J.go i H ->
  wpAny 10#7 X.A 21#7 (λr s1=>∃u,r=some u /\
   wpAny 10#7 X.A (letOwnedTupleGo tg 6#8 u) (λ_ s2=>∃x H',AT X ad σ H' s2/\An x u/\J.yld i H x H'/\tn (i+1) s2.heap/\∀b∈fp,H' b=none) E s1) E s
 done:∀(X:Cx),27#0=P->X.w=w->X.K=K->23#4=true->∀(i:Nat) (ad:List (qS×Obj)) (s:qT) (σ:St) (H:Hp) (E:qR->qT->Prop),AT X ad σ H s->(∀b∈fp,FP X ad H b)->tn i 23#2->J.stop i H ->
  wpAny 10#7 X.A 21#7 (λr s1=>r=none/\AT X ad σ H s1) E s
 self:∀(A:Around) (i:Nat) (s:qT) (Q:qR->qT->Prop) (E:qR->qT->Prop),tn i 23#2->Q 6#8 s->wpAny 10#7 A (pyIter 6#8) Q E s
abbrev TI:=St->Hp->(It->Hp->Prop)->Prop
def cB(X:Cx)(ad:List (qS×Obj))(σ:St)(tg:Expr)(R:It->Hp->Prop)(itv:qR)(s2:qT):Prop:=
 ∃(it:qS) (fp:List qS) (tn:Nat->Heap->Prop) (J:It) (H':Hp),itv=.ref it/\AT X ad σ H' s2/\Ht X.prog X.w X.K tg J fp it tn/\tn 0 s2.heap/\(∀b∈fp,FP X ad H' b)/\R J H'
def PI(X:Cx)(tg iter:Expr)(wi:TI):Prop:=
 ∀(ad:List (qS×Obj)) (s:qT) (σ:St) (H:Hp) (R:It->Hp->Prop),AT X ad σ H s->wi σ H R ->
  wpAny 1#0 X.A (eval iter 1#6) (λv s1=>wpAny 1#0 X.A (pyIter v) (cB X ad σ tg R) X.xe s1) X.xe s
theorem Jh{M:Model}{A:Around}{it:qS}{n:String}{vs:Array qR}{Q:Unit->qT->Prop}(ho:s.heap.get? it=some o)(hc:o.cls=.type n)(hd:13#1=.fields vs)(hn:["enumerate","zip","dict_itemiterator","dict_reverseitemiterator","odict_iterator","itertools.zip_longest","itertools.pairwise"].contains n=false)(hQ:Q () s):wpAny M A (letOwnedTupleGo tg 6#8 u) Q E s:=by
 unfold letOwnedTupleGo
 cases tg<;>first
  |exact qD hQ
  | (cases u<;>first
    |exact qD hQ
    | (refine qC (wpAny_load ho ?_)
       rw[hc,hd];show wpAny M A (if (["enumerate","zip","dict_itemiterator","dict_reverseitemiterator","odict_iterator","itertools.zip_longest","itertools.pairwise"].contains n&&vs[0]?==some (rawInt _))=true then _ else _) Q E s;rw[qE (by intro h;rw[hn,28#8]at h;cases h)];exact qD hQ))
noncomputable def XA(K:qW)(a:qS):It:=
 ⟨λi H=>∃xs x,Ad K H a xs/\xs[i]?=some x,λi H x H'=>H'=H/\∀xs,Ad K H a xs->xs[i]?=some x,λi H=>∃xs,Ad K H a xs/\1#3<=i⟩
noncomputable def V4(lo:Int)(n:Nat):It:=⟨λi _=>i<n,λi H x H'=>H'=H/\x=.int (lo+i),λi _=>n<=i⟩
theorem P7{P:qU}{w:qV}{K:qW}(a it:qS):Ht P w K tg (XA K a) [it] it (λi h=>h.IsListIter it a i) where
 mem:=by simp
 obj:=λi h st b hb=>by
  have e:b=it:=by simpa using hb
  subst e;rcases st with⟨o,e,c,d⟩;exact⟨o,e,λv z=>by rw[d]at z;cases z⟩
 keep:=λi h h' st k=>st.at λo e=>k it 0#3 o e
 item:=by intro X hP hw hK hc i ad s σ H E I hf st hg;subst hP hw hK;rcases hg with⟨xs,x,hq,hx⟩;rcases I.list hq with⟨its,rv,p,hz⟩;obtain⟨u,hu,ru⟩:=rv.get hx;rcases hf it (by simp) with⟨f0,f1,f2,f3,f4,f5⟩;refine wpAny_pyNext_list_item st p.isList (x:=u) (by simpa using hu) λh' st' sb=>?_;have I1:AT X ad σ H {s with heap:=h'}:=I.turned (t':=7#8) (λb o hb e=>(sb.2 b hb).trans e) f0 f1 f3 f4 f5;rcases id st' with⟨o,e,c,d⟩;exact⟨u,rfl,Jh (s:={s with heap:=h'}) e c d 0#1 ⟨x,H,I1,ru,⟨rfl,λys hy=>by rw[I.list_inj hy hq];exact hx⟩,st',λb hb=>(hf b hb).1⟩⟩
 done:=by intro X hP hw hK hc i ad s σ H E I hf st hg;subst hP hw hK;obtain⟨xs,hq,hx⟩:=hg;rcases I.list hq with⟨its,rv,p,hz⟩;rcases hf it (by simp) with⟨f0,f1,f2,f3,f4,f5⟩;have hl:=rv.length;exact wpAny_pyNext_list_end 5#9 st p.isList (by simp;lia) λh' eb=>⟨rfl,I.turned (t':=7#8) (λb o hb e=>eb b o hb e) f0 f1 f3 f4 f5⟩
 self:=λ_ _ _ _ _ st h=>wpAny_pyIter_listiter st h
theorem NE{P:qU}{w:qV}{K:qW}(it:qS)(lo:Int)(n:Nat):Ht P w K tg (V4 lo n) [it] it (λi h=>IsRangeIter h it (lo+(i:Nat)*1) ((n:Int)-(i:Nat)) 1) where
 mem:=by simp
 obj:=λi h st b hb=>by
  have e:b=it:=by simpa using hb
  subst e
  exact⟨_,st,λv z=>by have z':Data.fields _=Data.cell v:=z;cases z'⟩
 keep:=λi h h' st k=>k it 0#3 _ st
 item:=by intro X hP hw hK hc i ad s σ H E I hf st hg;subst hP hw hK;rcases hf it (by simp) with⟨f0,f1,f2,f3,f4,f5⟩;have W:=Walks.range (prog:=27#0) (w:=X.w) 5#9 it lo 1 n;refine W.item i s _ _ hg st λv h' tk hv st' kk=>?_;obtain⟨t,rfl⟩:=hv;have I1:AT X ad σ H {s with heap:=h',toks:=tk}:=I.turned (λb o hb e=>kk b o (by simpa using hb) e) f0 f1 f3 f4 f5;refine⟨_,rfl,Jh (s:={s with heap:=h',toks:=tk}) (n:="range_iterator") st' rfl rfl 0#1 ⟨.int (lo+i),H,I1,⟨t,?_⟩,⟨rfl,rfl⟩,st',λb hb=>(hf b hb).1⟩⟩;rw[iV]
 done:=by intro X hP hw hK hc i ad s σ H E I hf st hg;subst hP hw hK;rcases hf it (by simp) with⟨f0,f1,f2,f3,f4,f5⟩;exact wpAny_pyNext_range_end 5#9 st (by have:n<=i:=hg;lia) λh' eb=>⟨rfl,I.turned (t':=7#8) (λb o hb e=>eb b o hb e) f0 f1 f3 f4 f5⟩
 self:=λ_ _ _ _ _ st h=>wpAny_pyIter_rangeiter st h
variable{tl:TE}{ta:TA}{fp:List qS}
def V5(K:qW)(tl:TE):TI:=λσ H R=>tl σ H λx H1=>∃a,x=.ref a/\(∃xs,Ad K H1 a xs)/\R (XA K a) H1
theorem Ug{l:Expr}(hl:PE X l tl):PI X tg l (V5 X.K tl):=by
 intro ad s σ H R I h;refine BB (hl ad s σ H _ I h) λv s1 z9=>?_;obtain⟨x,H1,I1,r1,q1⟩:=z9;obtain⟨a,e,⟨xs,hq⟩,q⟩:=q1;subst e;cases r1;obtain⟨its,rv,p,hz⟩:=I1.list hq;refine wpAny_pyIter_list p.isList ?_;refine⟨1#7,[1#7],_,_,H1,rfl,I1.kept (t':=23#3) λb o e=>cS _ e,P7 a _,⟨_,cy _ rfl,rfl,rfl⟩,λb hb=>?_,q⟩;have e:b=1#7:=by simpa using hb
 subst e;exact I1.fpOk (cU _) (I1.hok.fresh (cU _))
theorem LA{R:It->Hp->Prop}{lo hi:Int}{t u v:Tok}{tk:Nat}(I:AT X ad σ H s)(h1:-(2^62)<=lo)(h2:lo<2^62)(h3:-(2^62)<=hi)(h4:hi<2^62)(q:R (V4 lo (hi-lo).toNat) H):wpAny 1#0 X.A (pyIter 10#1) (cB X ad σ tg R) E {s with heap:=s.heap.push {cls:=.type "range",data:=.fields #[.int lo t,.int hi u,.int 1 v]},toks:=tk}:=by
 refine wpAny_pyIter_range (IsRange.new ..) (small_one h1 h2 h3 h4) ?_;have I1:AT X ad σ H {s with heap:=s.heap.push {cls:=.type "range",data:=.fields #[.int lo t,.int hi u,.int 1 v]},toks:=tk}:=I.kept λb o e=>cS _ e
 refine⟨(s.heap.push {cls:=.type "range",data:=.fields #[.int lo t,.int hi u,.int 1 v]}).objs.size,[(s.heap.push {cls:=.type "range",data:=.fields #[.int lo t,.int hi u,.int 1 v]}).objs.size],_,_,H,rfl,
  I1.kept (t':=tk) λb o e=>cS _ e,NE _ lo (hi-lo).toNat,?_,λb hb=>?_,q⟩
 ·have e1:lo+((0:Nat):Int)*1=lo:=by simp
  have e2:(((hi-lo).toNat:Nat):Int)-((0:Nat):Int)=Builtin.Range.rangeSize lo hi 1:=by rw[rangeSize_one];split<;>lia
  show IsRangeIter _ _ (lo+((0:Nat):Int)*1) ((((hi-lo).toNat:Nat):Int)-((0:Nat):Int)) 1;rw[e1,e2];exact cy _ rfl
 ·have e:b=(s.heap.push {cls:=.type "range",data:=.fields #[.int lo t,.int hi u,.int 1 v]}).objs.size:=by simpa using hb
  subst e;exact I1.fpOk (cU _) (I1.hok.fresh (cU _))
def ZG(ta:TA):TI:=λσ H R=>ta σ H λvs H1=>∃j:Int,vs=[.int j]/\-(2^62)<=j/\j<2^62/\R (V4 0 j.toNat) H1
def ZH(ta:TA):TI:=λσ H R=>ta σ H λvs H1=>∃i j:Int,vs=[.int i,.int j]/\(-(2^62)<=i/\i<2^62/\-(2^62)<=j/\j<2^62)/\R (V4 i (j-i).toNat) H1
theorem Az{a:Expr}{p pos:Pos}(hg:Gl X "range")(hm:X.mg "range"=none)(ha:PA X [a] ta)(hs:starEach [a] 1#6=[(false,eval a 1#6)]:=by rfl):PI X tg (.Call (.Name "range" p) [a] [] pos) (ZG ta):=by
 intro ad s σ H R I h;refine Call_ (CS I hg hm boot_range (db (BB (ha pos ad s σ H _ I h) λus s1 z9=>?_) hs rfl));obtain⟨vs,H1,I1,r1,q1⟩:=z9;rcases q1 with⟨j,e,q1,q2,q⟩;subst e;cases r1 with
 |cons r rr =>
  cases rr;obtain⟨t,rfl⟩:=r;exact call_range_1 (LA I1 0#0 0#0 q1 q2 (by simpa using q))
theorem Ji{a b:Expr}{p pos:Pos}(hg:Gl X "range")(hm:X.mg "range"=none)(ha:PA X [a,b] ta)(hs:starEach [a,b] 1#6=[(false,eval a 1#6),(false,eval b 1#6)]:=by rfl)(hs2:starEach [b] 1#6=[(false,eval b 1#6)]:=by rfl):
  PI X tg (.Call (.Name "range" p) [a,b] [] pos) (ZH ta):=by
 intro ad s σ H R I h;refine Call_ (CS I hg hm boot_range (db (BB (ha pos ad s σ H _ I h) λus s1 ⟨vs,H1,I1,r1,q1⟩=>?_) (by rw[hs,hs2]) (by rw[hs2];rfl)));rcases q1 with⟨i,j,e,⟨q1,q2,q3,q4⟩,q⟩;subst e;cases r1 with
 |cons r rr =>
  cases rr with
  |cons r' rr =>
   cases rr;obtain⟨t,rfl⟩:=r;obtain⟨t',rfl⟩:=r';exact call_range_2 (LA I1 q1 q2 q3 q4 q)
def aq(wi:TI)(g:TG)(tb:TS):TS:=λD σ H=>wi σ H λJ H1=>∃W:Nat->Nat->St->Hp->Prop,(∃m,W 0 m σ H1)/\∀i m σ H,W i m σ H ->
 (J.stop i H/\D.nx σ H)\/(J.go i H/\∃N:St->Hp->Prop,(∀σ' H',N σ' H'->∃m',m'<m/\W (i+1) m' σ' H')/\∀x H',J.yld i H x H'->g x σ H' λσ2 H2=>tb {D with nx:=N,ct:=N,bk:=D.nx} σ2 H2)
noncomputable def GF(fp:List qS)(h:Heap):List (qS×Obj):=fp.filterMap λb=>(h.get? b).map λo=>(b,o)
theorem Cc{b:qS}(hb:b∈fp)(e:h.get? b=some o):(b,o)∈GF fp h:=gO.mpr ⟨b,hb,by rw[e];rfl⟩
theorem P8{p:qS×Obj}(hp:p∈GF fp h):p.1∈fp/\h.get? p.1=some p.2:=by
 obtain⟨b,hb,e⟩:=gO.mp hp;cases q:h.get? b with
 |none=>rw[q]at e;cases e
 |some o =>
  rw[q]at e;have e':(b,o)=p:=Option.some.inj e;subst e';exact⟨hb,q⟩
theorem AT.pinned(I:AT X ad σ H s)(hf:∀b∈fp,FP X ad H b)(ho:∀b∈fp,∃o,s.heap.get? b=some o/\∀v,13#1≠.cell v):AT X (ad++GF fp 23#2) σ H s:=
 I.pins_of λp hp=>(cV.mp hp).elim (λz=>I.pin p (dW _ z)) λz=>by obtain⟨hb,e⟩:=P8 z;obtain⟨f0,f1,f2,_⟩:=hf p.1 hb;obtain⟨o,e',d⟩:=ho p.1 hb;rw[e]at e';cases e';exact⟨e,f0,f1,f2,d⟩
theorem AT.unpinned{pl:List (qS×Obj)}(I:AT X (ad++pl) σ H s):AT X ad σ H s:=I.pins_of λp hp=>I.pin p (dW _ (jC _ hp))
theorem BK{iter:Expr}{body:List Stmt}{wi:TI}{g:TG}{tb:TS}{pos:Pos}(hp:PassesOwn 1#0 X.A X.env X.xe)(hc:23#4=true)(hi:PI X tg iter wi)(hg:PG X tg g)(hb:Gg X body tb)(hs:∀x,foldedSetIterable iter X.env x=pure x:=by intro _;rfl):PS X (.For tg iter body [] pos) (aq wi g tb):=by
 intro ad s σ H D I h;refine wpAny_For (BB (hi ad s σ H _ I h) λv s1 h1=>BB h1 λitv s2 h2=>?_) hs;rcases h2 with⟨it,fp,tn,J,H2,e,I2,T,st2,f2,W,⟨m0,w0⟩,turn⟩;subst e;have stat:∀{H':Hp},(∀b∈fp,H' b=none)->∀b∈fp,FP X ad H' b:=λhn b hb=>⟨hn b hb,(f2 b hb).2⟩
 refine codeAny_forLoop_any (λn s'=>∃i σ' H',AT X ad σ' H' s'/\tn i 14#2/\(∀b∈fp,H' b=none)/\W i n σ' H') ?_ m0 ⟨0,σ,H2,I2,st2,λb hb=>(f2 b hb).1,w0⟩;intro n s3 hRq;rcases hRq with⟨i,σ3,H3,I3,st3,fr3,w3⟩;rcases turn i n σ3 H3 w3 with⟨stop,qn⟩|⟨go,N,hN,step⟩
 ·refine wpAny_passesOwn hp (BB (T.done X rfl rfl rfl hc i ad s3 σ3 H3 X.xe I3 29#0 st3 stop) λr s4 z9=>?_);obtain⟨hr,I4⟩:=z9;subst hr;exact wpAny_execs_nil ⟨σ3,H3,I4,qn⟩
 ·refine wpAny_passesOwn hp (BB (T.item X rfl rfl rfl hc i ad s3 σ3 H3 X.xe I3 29#0 st3 go) λr s4 z9=>?_);obtain⟨u,hr,h4⟩:=z9;subst hr;refine wpAny_passesOwn hp (BB h4 λ_ s5 z9=>?_);obtain⟨x,H5,I5,r5,y5,st5,fr5⟩:=z9;have I5':=I5.pinned (stat fr5) (T.obj _ _ st5);refine wpAny_passesOwn hp (BB (hg _ s5 σ3 H5 x u _ I5' r5 (step x H5 y5)) λ_ s6 z9=>?_);obtain⟨σ6,H6,I6,q6⟩:=z9;refine wpAny_passesOwn hp (BB (hb _ s6 σ6 H6 _ I6 q6) λf s7 q7=>?_);have again:∀{σ7:St} {H7:Hp},AT X (ad++GF fp s5.heap) σ7 H7 s7->N σ7 H7->∃m,m<n/\∃i σ' H',AT X ad σ' H' s7/\tn i s7.heap/\(∀b∈fp,H' b=none)/\W i m σ' H':=λ{σ7 H7} I7 n7=>by obtain⟨m',hm,w7⟩:=hN σ7 H7 n7;refine⟨m',hm,i+1,σ7,H7,I7.unpinned,T.keep _ _ _ st5 λb hb o e=>(I7.pin (b,o) (dW _ (dW _ (Cc hb e)))).1,λb hb=>?_,w7⟩;obtain⟨o,e,d⟩:=T.obj _ _ st5 b hb;exact (I7.pin (b,o) (dW _ (dW _ (Cc hb e)))).2.1
  cases f with
  |next=>obtain⟨σ7,H7,I7,n7⟩:=q7;exact again I7 n7
  |cont=>obtain⟨σ7,H7,I7,n7⟩:=q7;exact again I7 n7
  |brk=>obtain⟨σ7,H7,I7,q7⟩:=q7;exact⟨σ7,H7,I7.unpinned,q7⟩
  |ret v=>obtain⟨x7,σ7,H7,I7,r7,q7⟩:=q7;exact⟨x7,σ7,H7,I7.unpinned,r7,q7⟩
theorem By{K:qW}{g:TG}{tb:TS}(Pv:Nat->St->Hp->Prop)(h0:Pv 0 σ H)(hl:∀i σ H,i<=1#3->Pv i σ H->Ad K H a xs)(hs:∀i x σ H,xs[i]?=some x->Pv i σ H->g x σ H λσ2 H2=>tb {D with nx:=Pv (i+1),ct:=Pv (i+1),bk:=D.nx} σ2 H2)(hd:∀σ H,Pv xs.length σ H->D.nx σ H):
  ∃W:Nat->Nat->St->Hp->Prop,(∃m,W 0 m σ H)/\∀i m σ H,W i m σ H ->
   ((XA K a).stop i H/\D.nx σ H)\/((XA K a).go i H/\∃N:St->Hp->Prop,(∀σ' H',N σ' H'->∃m',m'<m/\W (i+1) m' σ' H')/\∀x H',(XA K a).yld i H x H'->g x σ H' λσ2 H2=>tb {D with nx:=N,ct:=N,bk:=D.nx} σ2 H2):=by
 refine⟨λi m σ H=>m=1#3-i/\i<=1#3/\Pv i σ H,⟨1#3,by simp,Nat.zero_le _,h0⟩,?_⟩;rintro i m σ H ⟨rfl,hi,p⟩;have q:=hl i σ H hi p
 by_cases hlt:i<xs.length
 ·refine .inr ⟨⟨xs,xs[i],q,by simp[hlt]⟩,Pv (i+1),λσ' H' p'=>⟨1#3-(i+1),by lia,rfl,hlt,p'⟩,λx H' y=>?_⟩;obtain⟨e,y⟩:=y;subst e;exact hs i x σ _ (y xs q) p
 ·have e:i=1#3:=by lia
  subst e;exact .inl ⟨⟨xs,q,cU _⟩,hd σ H p⟩
theorem Bt{lo:Int}{n:Nat}{g:TG}{tb:TS}(Pv:Nat->St->Hp->Prop)(h0:Pv 0 σ H)(hs:∀i σ H,i<n->Pv i σ H->g (.int (lo+i)) σ H λσ2 H2=>tb {D with nx:=Pv (i+1),ct:=Pv (i+1),bk:=D.nx} σ2 H2)(hd:∀σ H,Pv n σ H->D.nx σ H):
  ∃W:Nat->Nat->St->Hp->Prop,(∃m,W 0 m σ H)/\∀i m σ H,W i m σ H ->
   ((V4 lo n).stop i H/\D.nx σ H)\/((V4 lo n).go i H/\∃N:St->Hp->Prop,(∀σ' H',N σ' H'->∃m',m'<m/\W (i+1) m' σ' H')/\∀x H',(V4 lo n).yld i H x H'->g x σ H' λσ2 H2=>tb {D with nx:=N,ct:=N,bk:=D.nx} σ2 H2):=by
 refine⟨λi m σ H=>m=n-i/\i<=n/\Pv i σ H,⟨n,by simp,Nat.zero_le _,h0⟩,?_⟩;rintro i m σ H ⟨rfl,hi,p⟩
 by_cases hlt:i<n
 ·refine .inr ⟨hlt,Pv (i+1),λσ' H' p'=>⟨n-(i+1),by lia,rfl,hlt,p'⟩,λx H' y=>?_⟩;obtain⟨e,y⟩:=y;subst e y;exact hs i σ _ hlt p
 ·have e:i=n:=by lia
  subst e;exact .inl ⟨cU _,hd σ H p⟩
abbrev R2:=V->V->Hp->VK->Prop
def E9(X:Cx)(f:qR->qR->Sem qR)(r:R2):Prop:=
 ∀(ad:List (qS×Obj)) (s:qT) (σ:St) (H:Hp) (x y:V) (v u:qR) (Q:VK),AT X ad σ H s->An x v->An y u->r x y H Q ->
  wpAny 1#0 X.A (f v u) 7#1 X.xe s
def au(X:Cx)(f:qR->Sem qR)(r:V->Hp->VK->Prop):Prop:=
 ∀(ad:List (qS×Obj)) (s:qT) (σ:St) (H:Hp) (x:V) (v:qR) (Q:VK),AT X ad σ H s->An x v->r x H Q ->
  wpAny 1#0 X.A (f v) 7#1 X.xe s
def Df(X:Cx)(f:qR)(r:List V->Hp->VK->Prop):Prop:=
 ∀(ad:List (qS×Obj)) (s:qT) (σ:St) (H:Hp) (xs:List V) (us:List qR) (Q:VK),AT X ad σ H s->Ar xs us->r xs H Q ->
  wpAny 1#0 X.A (call f us) 7#1 X.xe s
def UY(r:R2)(ta tb:TE):TE:=λσ H Q=>ta σ H λx H1=>tb σ H1 λy H2=>r x y H2 Q
def cC(r:V->Hp->VK->Prop)(ta:TE):TE:=λσ H Q=>ta σ H λx H1=>r x H1 Q
def rI(C:Int->Int->Prop)(g:Int->Int->V):R2:=λx y H Q=>∃i j,x=.int i/\y=.int j/\C i j/\Q 23#6 H
def RH(g:Int->Int->V):R2:=λx y H Q=>∃i j,x=.int i/\y=.int j/\Q 23#6 H
def rU(g:Int->V):V->Hp->VK->Prop:=λx H Q=>∃i,x=.int i/\Q (g i) H
variable{f:qR->qR->Sem qR}
section
variable{a b c:Expr}{ta tb tc:TE}{pos:Pos}
theorem XB(ha:PE X a ta)(hb:PE X b tb){R:V->V->Hp->Prop}(I:AT X ad σ H s)(h:ta σ H λx H1=>tb σ H1 λy H2=>R x y H2){Q:qR->qT->Prop}{f:qR->qR->Sem qR}(hf:∀v u s2 x y H2,AT X ad σ H2 s2->An x v->An y u->R x y H2->wpAny 1#0 X.A (f v u) Q X.xe s2):
  wpAny 1#0 X.A (eval a 1#6) (λv s₁=>wpAny 1#0 X.A (eval b 1#6) (λu s₂=>wpAny 1#0 X.A (f v u) Q X.xe s₂) X.xe s₁) X.xe s:=by
 refine BB (ha ad s σ H _ I h) λv s1 z9=>?_;obtain⟨x,H1,I1,r1,q1⟩:=z9;refine BB (hb ad s1 σ H1 _ I1 q1) λu s2 z9=>?_;obtain⟨y,H2,I2,r2,q2⟩:=z9;exact hf v u s2 x y H2 I2 r1 r2 q2
theorem AL{op:Operator}{r:R2}(ho:E9 X (binaryOp op) r)(ha:PE X a ta)(hb:PE X b tb):PE X (.BinOp a op b pos) 18#1:=by intro ad s σ H Q I h;exact wpAny_BinOp (XB ha hb I h λv u s2 x y H2 I2 rx ry q=>ho ad s2 σ H2 x y v u Q I2 rx ry q)
theorem LB{op:UnaryOp}{r:V->Hp->VK->Prop}(ho:au X (unaryOp op) r)(ha:PE X a ta):PE X (.UnaryOp op a pos) (cC r ta):=by intro ad s σ H Q I h;exact UnaryOp_ (BB (ha ad s σ H _ I h) λv s1 ⟨x,H1,I1,r1,q1⟩=>ho ad s1 σ H1 x v Q I1 r1 q1)
theorem ZI{C:Int->Int->Prop}{g:Int->Int->Int}(rule:∀(i j:Int) (t u:Tok) (s:qT) (Q:qR->qT->Prop) (E:qR->qT->Prop),C i j->Q (.int 23#6 7#8) {s with toks:=7#8+1}->wpAny 1#0 X.A (f 20#9 (.int j u)) Q E s):
  E9 X f (rI C λi j=>.int 23#6):=by
 intro ad s σ H x y v u Q I rx ry h;rcases h with⟨i,j,rfl,rfl,hc,q⟩;obtain⟨t,rfl⟩:=rx;obtain⟨t',rfl⟩:=ry;exact rule i j t t' s _ _ hc ⟨.int 23#6,H,I.tok _,⟨_,rfl⟩,q⟩
theorem Uh{g:Int->Int->Int}(rule:∀(i j:Int) (t u:Tok) (s:qT) (Q:qR->qT->Prop) (E:qR->qT->Prop),Q (.int 23#6 7#8) {s with toks:=7#8+1}->wpAny 1#0 X.A (f 20#9 (.int j u)) Q E s):
  E9 X f (RH λi j=>.int 23#6):=by
 intro ad s σ H x y v u Q I rx ry h;rcases h with⟨i,j,rfl,rfl,q⟩;obtain⟨t,rfl⟩:=rx;obtain⟨t',rfl⟩:=ry;exact rule i j t t' s _ _ ⟨.int 23#6,H,I.tok _,⟨_,rfl⟩,q⟩
theorem Ui{g:Int->Int->Bool}(rule:∀(i j:Int) (t u:Tok) (s:qT) (Q:qR->qT->Prop) (E:qR->qT->Prop),Q (.bool 23#6) s->wpAny 1#0 X.A (f 20#9 (.int j u)) Q E s):
  E9 X f (RH λi j=>.bl 23#6):=by
 intro ad s σ H x y v u Q I rx ry h;obtain⟨i,j,rfl,rfl,q⟩:=h;obtain⟨t,rfl⟩:=rx;obtain⟨t',rfl⟩:=ry;exact rule i j t t' s _ _ ⟨.bl 23#6,H,I,rfl,q⟩
def XC(i j:Int):Prop:=0<j/\j<1073741824
def XD(i j:Int):Prop:=0<=j/\j<=1000000/\i.natAbs<2^64
def RU(i j:Int):Prop:=(-(2^64)<i/\i<2^64)\/(-(2^64)<j/\j<2^64)
theorem RU.ok{i j:Int}(h:RU i j):IntMulOk i j:=by
 rcases h with⟨h1,h2⟩|⟨h1,h2⟩
 ·exact .of_left (intBits_le_64 h1 h2)
 ·exact .of_right (intBits_le_64 h1 h2)
theorem NF(k:Nat):(0:Int)<=2^k:=by rw[two_pow_cast];exact Int.natCast_nonneg _
theorem BE:E9 X (binaryOp .Add) (RH λi j=>.int (i+j)):=Uh λ_ _ _ _ _ _ _ q=>add_int q
theorem CU:E9 X (binaryOp .Sub) (RH λi j=>.int (i-j)):=Uh λ_ _ _ _ _ _ _ q=>sub_int q
theorem B7:E9 X (binaryOp .Mult) (rI RU λi j=>.int (i*j)):=ZI λ_ _ _ _ _ _ _ hc q=>mul_int q hc.ok
theorem BQ:E9 X (binaryOp .FloorDiv) (rI XC λi j=>.int (i/j)):=ZI λi j _ _ _ _ _ hc q=>by have h1:(0:Int)<j:=hc.1;have h2:j<1073741824:=hc.2;exact floordiv_int 0#0 (by rw[Int.fdiv_eq_ediv_of_nonneg i 0#0];exact q) (.inl (PyProof.noPylong_small 0#0))
theorem BF:E9 X (binaryOp .Mod) (rI (λ_ j=>0<j) λi j=>.int (i%j)):=ZI λi j _ _ _ _ _ hc q=>by have h1:(0:Int)<j:=hc;exact mod_int' 0#0 (by rw[Int.fmod_eq_emod_of_nonneg i 0#0];exact q)
theorem RV:E9 X (binaryOp .LShift) (rI XD λi j=>.int (i*2^j.toNat)):=ZI λ_ _ _ _ _ _ _ hc q=>lshift_int_small hc.1 hc.2.1 hc.2.2 q
theorem XE:E9 X (binaryOp .RShift) (rI (λ_ j=>0<=j) λi j=>.int (i/2^j.toNat)):=ZI λi j _ _ _ _ _ hc q =>
 rshift_int hc (by rw[Int.fdiv_eq_ediv_of_nonneg i (NF _)];exact q)
theorem XF:E9 X (binaryOp .BitAnd) (RH λi j=>.int (Builtin.bitAnd i j)):=Uh λ_ _ _ _ _ _ _ q=>and_int q
theorem V6:E9 X (binaryOp .BitOr) (RH λi j=>.int (Builtin.bitOr i j)):=Uh λ_ _ _ _ _ _ _ q=>or_int q
theorem cK{f:qR->Sem qR}{g:Int->Int}(rule:∀(i:Int) (t:Tok) (s:qT) (Q:qR->qT->Prop) (E:qR->qT->Prop),Q (.int (g i) 7#8) {s with toks:=7#8+1}->wpAny 1#0 X.A (f 20#9) Q E s):
  au X f (rU λi=>.int (g i)):=by
 intro ad s σ H x v Q I rx h;obtain⟨i,rfl,q⟩:=h;obtain⟨t,rfl⟩:=rx;exact rule i t s _ _ ⟨.int (g i),H,I.tok _,⟨_,rfl⟩,q⟩
theorem Hu:au X (unaryOp .USub) (rU λi=>.int (-i)):=cK λ_ _ _ _ _ q=>neg_int q
end
noncomputable def NG:V->V->Bool
 |.non,.non=>true|.non,.int _=>true|.int _,.non=>true|.non,.bl _=>true|.bl _,.non=>true|.non,.str _=>true|.str _,.non=>true
 |.int _,.int _=>true|.bl _,.bl _=>true|.str _,.str _=>true|.byt _,.byt _=>true
 |.int _,.str _=>true|.str _,.int _=>true|.bl _,.str _=>true|.str _,.bl _=>true
 |_,_=>false
def cD:R2:=λx y H Q=>NG x y=true/\Q (.bl (decide (x=y))) H
def cE:R2:=λx y H Q=>NG x y=true/\Q (.bl (!decide (x=y))) H
theorem OO{i j:Int}:decide (V.int i=V.int j)=(i==j):=by rw[jJ];simp
theorem RX{i j:Bool}:decide (V.bl i=V.bl j)=(i==j):=by rw[jJ];simp
theorem OP{i j:Str}:decide (V.str i=V.str j)=(i==j):=by rw[jJ];simp
theorem OQ{i j:Array UInt8}:decide (V.byt i=V.byt j)=(i.toList==j.toList):=by rw[jJ];cases i;cases j;simp
section
variable{a b c:Expr}{ta tb tc:TE}{pos:Pos}
theorem A4{Q:VK}{k k':Bool}(I:AT X ad σ H s)(q:Q (.bl k) H)(e:k=k'):EP X ad σ Q (.bool k') s:=by subst e;exact⟨.bl k,H,I,rfl,q⟩
theorem CB:E9 X (compareOp .Eq) cD:=by
 intro ad s σ H x y v u Q I rx ry h;obtain⟨hs,q⟩:=h;cases x with
 |non =>
  cases rx;cases y with
  |non=>cases ry;exact PySem.EqNone.eq_none_none 4#3
  |bl j=>cases ry;exact PySem.EqNone.eq_none_bool 4#3
  |int j=>obtain⟨t',rfl⟩:=ry;exact PySem.EqNone.eq_none_int 4#3
  |str j=>obtain⟨t',rfl⟩:=ry;exact PySem.EqNone.eq_none_str 4#3
  |_=>exact qG (show false=true from hs) dB
 |bl i =>
  cases rx;cases y with
  |non=>cases ry;exact PySem.EqNone.eq_bool_none 4#3
  |bl j=>cases ry;exact eq_bool (A4 I q RX)
  |str j=>obtain⟨t',rfl⟩:=ry;exact PySem.EqMixed.eq_bool_str 4#3
  |_=>exact qG (show false=true from hs) dB
 |int i =>
  obtain⟨t,rfl⟩:=rx;cases y with
  |non=>cases ry;exact PySem.EqNone.eq_int_none 4#3
  |int j=>obtain⟨t',rfl⟩:=ry;exact eq_int (A4 I q OO)
  |str j=>obtain⟨t',rfl⟩:=ry;exact PySem.EqMixed.eq_int_str 4#3
  |_=>exact qG (show false=true from hs) dB
 |str i =>
  obtain⟨t,rfl⟩:=rx;cases y with
  |non=>cases ry;exact PySem.EqNone.eq_str_none 4#3
  |bl j=>cases ry;exact PySem.EqMixed.eq_str_bool 4#3
  |int j=>obtain⟨t',rfl⟩:=ry;exact PySem.EqMixed.eq_str_int 4#3
  |str j=>obtain⟨t',rfl⟩:=ry;exact eq_str (A4 I q OP)
  |_=>exact qG (show false=true from hs) dB
 |byt i =>
  obtain⟨t,rfl⟩:=rx;cases y with
  |byt j=>obtain⟨t',rfl⟩:=ry;exact PySem.W.eq_bytes (A4 I q OQ)
  |_=>exact qG (show false=true from hs) dB
 |_=>cases y<;>exact qG (show false=true from hs) dB
theorem LC:E9 X (compareOp .NotEq) cE:=by
 intro ad s σ H x y v u Q I rx ry h;obtain⟨hs,q⟩:=h;cases x with
 |non =>
  cases rx;cases y with
  |non=>cases ry;exact PySem.EqNone.ne_none_none 4#3
  |bl j=>cases ry;exact PySem.EqNone.ne_none_bool 4#3
  |int j=>obtain⟨t',rfl⟩:=ry;exact PySem.EqNone.ne_none_int 4#3
  |str j=>obtain⟨t',rfl⟩:=ry;exact PySem.EqNone.ne_none_str 4#3
  |_=>exact qG (show false=true from hs) dB
 |bl i =>
  cases rx;cases y with
  |non=>cases ry;exact PySem.EqNone.ne_bool_none 4#3
  |bl j=>cases ry;exact ne_bool (A4 I q (qQ not RX))
  |str j=>obtain⟨t',rfl⟩:=ry;exact PySem.EqMixed.ne_bool_str 4#3
  |_=>exact qG (show false=true from hs) dB
 |int i =>
  obtain⟨t,rfl⟩:=rx;cases y with
  |non=>cases ry;exact PySem.EqNone.ne_int_none 4#3
  |int j=>obtain⟨t',rfl⟩:=ry;exact ne_int (A4 I q (qQ not OO))
  |str j=>obtain⟨t',rfl⟩:=ry;exact PySem.EqMixed.ne_int_str 4#3
  |_=>exact qG (show false=true from hs) dB
 |str i =>
  obtain⟨t,rfl⟩:=rx;cases y with
  |non=>cases ry;exact PySem.EqNone.ne_str_none 4#3
  |bl j=>cases ry;exact PySem.EqMixed.ne_str_bool 4#3
  |int j=>obtain⟨t',rfl⟩:=ry;exact PySem.EqMixed.ne_str_int 4#3
  |str j=>obtain⟨t',rfl⟩:=ry;exact ne_str (A4 I q (qQ not OP))
  |_=>exact qG (show false=true from hs) dB
 |byt i =>
  obtain⟨t,rfl⟩:=rx;cases y with
  |byt j=>obtain⟨t',rfl⟩:=ry;exact PySem.W.ne_bytes (A4 I q (qQ not OQ))
  |_=>exact qG (show false=true from hs) dB
 |_=>cases y<;>exact qG (show false=true from hs) dB
theorem FG:E9 X (compareOp .Lt) (RH λi j=>.bl (decide (i<j))):=Ui λ_ _ _ _ _ _ _ q=>lt_int q
theorem RY:E9 X (compareOp .LtE) (RH λi j=>.bl (decide (i<=j))):=Ui λ_ _ _ _ _ _ _ q=>le_int q
theorem Ck:E9 X (compareOp .Gt) (RH λi j=>.bl (decide (j<i))):=Ui λ_ _ _ _ _ _ _ q=>gt_int q
theorem RZ:E9 X (compareOp .GtE) (RH λi j=>.bl (decide (j<=i))):=Ui λ_ _ _ _ _ _ _ q=>ge_int q
theorem NH:E9 X (compareOp .Is) (λx y H Q=>y=.non/\Q (.bl (decide (x=.non))) H):=by
 intro ad s σ H x y v u Q I rx ry h;obtain⟨rfl,q⟩:=h;cases ry;refine is_none_gen (A4 I q ?_)
 cases x<;>first
  | (cases rx;rfl)
  | (obtain⟨t,rfl⟩:=rx;rfl)
theorem HP:E9 X (compareOp .IsNot) (λx y H Q=>y=.non/\Q (.bl (!decide (x=.non))) H):=by
 intro ad s σ H x y v u Q I rx ry h;obtain⟨rfl,q⟩:=h;cases ry;refine isnot_none_gen (A4 I q ?_)
 cases x<;>first
  | (cases rx;rfl)
  | (obtain⟨t,rfl⟩:=rx;rfl)
theorem AO(b:Expr)(h:op≠.In:=by decide)(h2:op≠.NotIn:=by decide):behindInMarks op b=false:=by
 have e:(op==.In||op==.NotIn)=false:=by rw[beq_eq_false_iff_ne.mpr h,beq_eq_false_iff_ne.mpr h2];rfl
 cases b with
 |Set elts k p=>show (k==0&&(op==.In||op==.NotIn)&&_)=false;rw[e,Bool.and_false];rfl
 |_=>rfl
theorem DG{r:R2}(ho:E9 X (compareOp op) r)(ha:PE X a ta)(hb:PE X b tb)(hm:behindInMarks op b=false):PE X (.Compare a [op] [b] pos) 18#1:=by intro ad s σ H Q I h;exact wpAny_Compare1 (XB ha hb I h λv u s2 x y H2 I2 rx ry q=>ho ad s2 σ H2 x y v u Q I2 rx ry q) hm
def V7(t:TE):TT:=λσ H Q=>t σ H λx H'=>∃k,x=.bl k/\Q k H'
theorem Af{r:R2}(ho:E9 X (compareOp op) r)(ha:PE X a ta)(hb:PE X b tb)(hm:behindInMarks op b=false):PT X (.Compare a [op] [b] pos) (V7 18#1):=by
 intro ad s σ H Q I h
 refine wpAny_isTrue_Compare1 (BB (ha ad s σ H _ I h) λv s1 ⟨x,H1,I1,r1,q1⟩=>BB (hb ad s1 σ H1 _ I1 q1) λu s2 ⟨y,H2,I2,r2,q2⟩ =>
  BB (ho ad s2 σ H2 x y v u _ I2 r1 r2 q2) λc s3 ⟨z,H3,I3,r3,k,e,q3⟩=>?_) hm
 subst e;cases r3;exact wpAny_truthy_bool ⟨H3,I3,q3⟩
theorem KQ:(sizeLine:Nat)<2^63:=by rw[sizeLine_eq];decide
theorem FH{x:V}(r:Ar [x] us):∃u,us=[u]/\An x u:=by
 cases r with
 |cons r1 r2=>cases r2;exact⟨_,rfl,r1⟩
theorem OR{x:V}(r:Ar [x,y] us):∃u w',us=[u,w']/\An x u/\An y w':=by
 cases r with
 |cons r1 r2 =>
  cases r2 with
  |cons r3 r4=>cases r4;exact⟨_,_,rfl,r1,r3⟩
end
structure XG(h:Heap)(x dx C:qS)(mA:Str->Option qR):Prop where
 obj:h.get? x=some 23#8
 ns:h.Ns1 dx mA
 ne:dx≠x
theorem P9{dx:qS}{mA:Str->Option qR}(n:h.Ns1 dx mA):∃od,h.get? dx=some od/\∀name,PySem.W.lookIn name od=some (mA name):=by
 rcases n with⟨o,es,ep,ho,hd,hk,_,hm⟩;refine⟨o,ho,λname=>?_⟩;have e:=hm name;unfold nsFind findBy at e;rw[<-Array.find?_toList]at e;unfold PySem.W.lookIn;rw[hd];dsimp only;split
 ·rename_i y q
  rw[q]at e;exact qQ some e
 ·rename_i q
  rw[q]at e
  have a:es.toList.any (·.refKey)=false:=by rw[List.any_eq_false];intro y hy;obtain⟨z,t,hkey⟩:=hk y (jE.mp hy);simp[DictEntry.refKey,hkey]
  have a':¬es.toList.any (·.refKey)=true:=by rw[a];exact dB
  rw[qE a'];exact qQ some e
variable{C:qS}
theorem XG.look{x dx:qS}{mA:Str->Option qR}(I:XG h x dx C mA):∃od,PySem.W.InstAt h x 23#8 C (some od)/\∀name,PySem.W.lookIn name od=some (mA name):=
 let ⟨od,ho,hl⟩:=P9 I.ns
 ⟨od,⟨I.obj,rfl,rfl,ho⟩,hl⟩
theorem FN.some_of{v:V}{o:Option qR}(r:FN 13#6 o):∃u,o=some u/\An v u:=by
 cases o with
 |none=>exact (show False from r).elim
 |some u=>exact⟨u,rfl,r⟩
section
variable{P:qU}{w:qV}{h':Heap}{dx:qS}{fs fs':List (Str×V)}
theorem OS(hok:Dd P w H h)(e:H a=some (.ins C dx fs)):∃mA,XG h a dx C mA/\(∀f,FN (fs.lookup f) (mA f))/\PySem.Within mA (fs.map (·.1))/\fs.length<=1000/\H dx=some (.own a):=by rcases (show Aj P w H h a (.ins C dx fs) from hok a _ e) with⟨d,z,ne,ob,mA,n,r,q⟩;exact⟨mA,⟨ob,n,ne⟩,r,q,z,d⟩
end
structure av(K:qW)(C:qS):Prop where
 pg:PySem.W.plainGet K C Str.empty=true
 hd:PySem.W.hasDictIn K C=true
 po:PySem.W.plainOver K C=true
 sa:PySem.W.findIn K (.ref C) "__setattr__"=some (some (.builtin "object.__setattr__"))
theorem av.get{K:qW}(c:av K C)(f:Str):PySem.W.plainGet K C f=true:=c.pg
section
variable{A:Around}{c:qR}{b:Bool}
inductive GG(K:qW)(H:Hp):V->qR->Prop where
 |non:GG K H .non (.type "NoneType")
 |bl (x:Bool):GG K H (.bl x) (.type "bool")
 |int (i:Int):GG K H 9#3 (.type "int")
 |str (x:Str):GG K H (.str x) (.type "str")
 |flt (x:UInt64):GG K H (.flt x) (.type "float")
 |lst {a:qS} {xs:List V} (e:H a=some 3#2):GG K H 2#0 (.type "list")
 |frz {a:qS} {o:Obj} {xs:List V} (e:H a=some (.frz o 3#2)):GG K H 2#0 (.type "list")
 |tup {a:qS} {xs:List V} (e:H a=some 10#5):GG K H 2#0 (.type "tuple")
 |dK {a:qS} {kvs:List (BP×V)} (e:H a=some 6#3):GG K H 2#0 (.type "dict")
 |dT {a:qS} {kvs:List (List BP×V)} (e:H a=some 22#5):GG K H 2#0 (.type "dict")
 |ins {a C dx:qS} {fs:List (Str×V)} (e:H a=some (.ins C dx fs)) (cl:av K C) (ha:PySem.W.findIn K (.ref C) "__class__"=some (some (.builtin "object.__class__")))
   (hn:PySem.W.specialIn K (.builtin "object.__class__") "__get__"=some (some (.builtin "getset_descriptor.__get__"))) (htk:PySem.W.takesIn K (.builtin "object.__class__")=some true)
   (hm:PySem.W.mroIn K C (.type "object")=some true):GG K H 2#0 (.ref C)
theorem QC{x:V}{t:qR}(I:AT X ad σ H s)(rx:An x u)(ty:GG X.K H x t)(e:PySem.W.kitOne X.K t c=some b)(h:∀tk,Q (.bool b) {s with toks:=tk}):
  wpAny 1#0 A (call (.builtin "isinstance") [u,c]) Q E s:=by
 cases ty with
 |non=>cases (show u=Value.none from rx);exact em PySem.W.kitx_none I.kIn True.intro e (λz=>nomatch z) h
 |bl y=>cases (show u=Value.bool y from rx);exact em PySem.W.kitx_bool I.kIn True.intro e (λz=>nomatch z) h
 |int i=>obtain⟨t,q⟩:=(show ∃t,u=Value.int i t from rx);cases q;exact em PySem.W.kitx_int I.kIn True.intro e (λz=>nomatch z) h
 |str y=>obtain⟨t,q⟩:=(show ∃t,u=Value.str y t from rx);cases q;exact em PySem.W.kitx_str I.kIn True.intro e (λz=>nomatch z) h
 |flt y=>obtain⟨t,q⟩:=(show ∃t,u=Value.float y t from rx);cases q;exact em PySem.W.kitx_float I.kIn True.intro e (λz=>nomatch z) h
 | @lst a xs ea =>
  cases (show u=Value.ref a from rx);obtain⟨_,_,n,_,h1⟩:=(show Aj X.prog X.w H s.heap a 3#2 from I.hok a _ ea);exact em iW I.kIn ⟨_,h1,rfl⟩ e (λz=>nomatch z) h
 | @frz a ob xs ea =>
  cases (show u=Value.ref a from rx);obtain⟨_,_,_,n,_,h1⟩:=(show Aj X.prog X.w H s.heap a (.frz ob 3#2) from I.hok a _ ea);exact em iW I.kIn ⟨_,h1,rfl⟩ e (λz=>nomatch z) h
 | @tup a xs ea =>
  cases (show u=Value.ref a from rx);obtain⟨_,_,_,p⟩:=(show Aj X.prog X.w H s.heap a 10#5 from I.hok a _ ea);obtain⟨o,h1,h2,_⟩:=p;exact em PySem.W.kitx_tuple I.kIn ⟨o,h1,h2⟩ e (λz=>nomatch z) h
 | @dK a kvs ea =>
  cases (show u=Value.ref a from rx);obtain⟨_,_,vs,_,p⟩:=(show Aj X.prog X.w H s.heap a 6#3 from I.hok a _ ea);obtain⟨o,es,ep,h1,h2,_⟩:=p;exact em iX I.kIn ⟨o,h1,h2.1⟩ e (λz=>nomatch z) h
 | @dT a kvs ea =>
  cases (show u=Value.ref a from rx);obtain⟨_,_,xs,_,o,es,ep,h1,h2,_⟩:=(show Aj X.prog X.w H s.heap a 22#5 from I.hok a _ ea);exact em iX I.kIn ⟨o,h1,h2.1⟩ e (λz=>nomatch z) h
 | @ins a C dx fs ea cl ha hn htk hm =>
  cases (show u=Value.ref a from rx);obtain⟨mA,O,_⟩:=OS I.hok ea;obtain⟨od,J,_⟩:=O.look;exact em (PySem.W.kitx_own (cl.get _) cl.hd ha hn htk hm) I.kIn J e (λz=>nomatch z) h
end
structure B8(k:Nat)(A:Around):Prop where
 hd:10#9=none
 dp:A.depth+3*k+5<recursionLimit
 un:17#6+16*k+200<cLine
theorem B8.mono{k:Nat}{A:Around}(r:B8 k A)(h:j<=k):B8 j A:=⟨r.hd,by have:=r.dp;lia,by have:=r.un;lia⟩
theorem B8.deeper{k:Nat}{A:Around}(r:B8 (k+1) A)(env:Env):B8 k (A.deeper env):=
 ⟨r.hd,by have:=r.dp;show A.depth+1+3*k+5<_;lia,by have:=r.un;show 17#6+3+16*k+200<_;lia⟩
theorem B8.depth{k:Nat}{A:Around}(r:B8 k A):A.depth<recursionLimit:=by have:=r.dp;lia
theorem B8.units{k:Nat}{A:Around}(r:B8 k A):17#6+64<cLine:=by have:=r.un;lia
def JQ:TA:=λ_ H Q=>Q [] H
def EM(ta:TE)(tr:TA):TA:=λσ H Q=>ta σ H λx H1=>tr σ H1 λxs H2=>Q (x::xs) H2
section
variable{e:Expr}{es:List Expr}{t:TA}{pos:Pos}
theorem AC:PA X [] JQ:=λ_ _ _ _ H Q I h=>Calls.spliced_nil ⟨[],H,I,.nil,h⟩
theorem AA(ha:PE X e te)(hr:PA X es t)(hs:starEach (e::es) 1#6=(false,eval e 1#6)::starEach es 1#6:=by rfl):PA X (e::es) (EM te t):=by intro pos ad s σ H Q I h;rw[hs];show wpAny _ _ (spliced ((false,eval e 1#6)::backTo pos 5#2)) _ _ s;refine Calls.spliced_cons (BB (ha ad s σ H _ I h) λu s1 z9=>?_);obtain⟨x,H1,I1,r1,q1⟩:=z9;exact BB (hr pos ad s1 σ H1 _ I1 q1) λus s2 ⟨xs,H2,I2,r2,q2⟩=>⟨x::xs,H2,I2,.cons r1 r2,q2⟩
def Ra(t:TA):TE:=λσ H Q=>t σ H λxs H1=>1#3<=sizeLine/\∀p,H1 p=none->Q 1#9 (AU H1 p 10#5)
def QD(t:TA):TE:=λσ H Q=>t σ H λxs H1=>1#3<=sizeLine/\∀p,H1 p=none->Q 1#9 (AU H1 p 3#2)
theorem DZ{x1}(h:PA X es t):PE X (.Tuple es x1 pos) (Ra t):=by intro ad s σ H Q I hq;refine wpAny_Tuple_spliced (BB (h pos ad s σ H _ I hq) λus s1 ⟨xs,H1,I1,r,z,q⟩=>⟨by rw[<-10#8];exact z,?_⟩);have hf:H1 1#7=none:=I1.hok.fresh (cU _);refine⟨.ref 1#7,AU H1 s1.heap.objs.size 10#5,I1.laid (t':=23#3) (λb u e=>cS _ e) (cU _) ?_,rfl,q _ hf⟩;exact⟨z,us,r,⟨_,cy _ rfl,rfl,_,rfl⟩⟩
theorem BM(h:PA X es t):PE X (.List es pos) (QD t):=by intro ad s σ H Q I hq;refine wpAny_List_spliced (BB (h pos ad s σ H _ I hq) λus s1 ⟨xs,H1,I1,r,z,q⟩=>⟨by rw[<-10#8];exact z,?_⟩);have hf:H1 1#7=none:=I1.hok.fresh (cU _);refine⟨.ref 1#7,AU H1 s1.heap.objs.size 3#2,I1.laid (t':=23#3) (λb u e=>cS _ e) (cU _) ?_,rfl,q _ hf⟩;exact⟨z,us,0,r,cy _ rfl⟩
end
abbrev Sp:=List V->Hp->VK->XK->Prop
abbrev RI:=List Env->Hp->qT->XK->qR->qT->Prop
structure QE(P:qU)(w:qV)(K:qW)(mg:Str->Option qR)(base:Heap)(A:Around)(outer:List Env)(s:qT)(H:Hp):Prop where
 frames:A.frames=some outer
 mod:Y7 K mg base
 bs:∀b o,base.get? b=some o->s.heap.get? b=some o/\H b=none
 bsz:base.objs.size<=0#6
 funs:s.heap.FunFrames base outer
 frf:∀b∈ER outer,H b=none
 hok:Dd P w H 23#2
 bare:AllBare s.gens
def CE(outer:List Env)(P:qU)(w:qV)(H:Hp)(s:qT)(Q:VK)(u:qR)(s':qT):Prop:=
 ∃v H',s'.os=s.os/\AllBare s'.gens/\Un (ER outer) [] H H' s.heap 14#2/\Dd P w H' 14#2/\An v u/\Q v H'
def CR(CX:RI)(outer:List Env)(P:qU)(w:qV)(H:Hp)(s:qT)(Q:VK)(E:XK)(r:Result)(s':qT):Prop:=
 match r with
 |.ok (.ret u)=>CE outer P w H s Q u s'
 |.ok _=>False
 |.error e=>CX outer H s E e s'
structure FC(P:qU)(w:qV)(K:qW)(mg:Str->Option qR)(base:Heap)(CX:RI)(k:Nat)(f:qS)(fd:FuncData)(ps:List Str)(sp:Sp):Prop where
 len:∀vs H Q E,sp vs H Q E->4#5=5#5
 run:∀(A:Around) (outer:List Env) (s:qT) (H:Hp) (args:Args) (us:List qR) (vs:List V) (Q:VK) (E:XK),B8 k A->QE P w K mg base A outer s H->BindsTo s fd args 25#3->Ar vs us->sp vs H Q E ->
  codeAny 10#7 A (.call 6#1 args) (CR CX outer P w H s Q E) s
theorem AT.env0(I:AT X ad σ H s):QE X.prog X.w X.K X.mg X.base X.A X.stack s H:=
 ⟨I.ok.frames,I.ok.mod,I.bs,dO I.ok.bsz I.sz,I.stack,I.stkFree,I.hok,I.bare⟩
theorem AT.after{Q:VK}(I:AT X ad σ H s)(h:CE X.stack X.prog X.w H s Q u s'):EP X ad σ Q u s':=by rcases h with⟨v,H',os,bare,un,hok,r,q⟩;rcases s' with⟨hh,g,d,t,os'⟩;obtain rfl:os'=s.os:=os;exact⟨v,H',I.call (h':=hh) (g':=g) (d':=d) (t':=t) (ch:=[]) un hok bare (λb z=>qG z 0#3),r,q⟩
def Ff(K:qW)(fd:FuncData)(ps:List Str)(ds:List qR):Prop:=
 ∀(s:qT) (us:List qR),K.In 23#2->(us++ds).length=5#5->BindsTo s fd ⟨us,[]⟩ (ps.zip (us++ds))
variable{fd:FuncData}
theorem Ff.all{K:qW}{ps:List Str}(h:∀us:List qR,10#2=5#5->bindArgs fd ⟨us,[]⟩=pure 25#3):Ff K fd ps []:=λs us _ hl=>by rw[eI]at hl⊢;exact .of_eq (h us hl)
def PK(X:Cx)(kws:List Keyword)(t:TA):Prop:=
 ∀(pos:Pos) (ad:List (qS×Obj)) (s:qT) (σ:St) (H:Hp) (Q:List V->Hp->Prop),AT X ad σ H s->t σ H Q->wpAny 1#0 X.A (evalAll ((backToKw pos (keywordEach kws 1#6)).map (·.2))) (AP X ad σ Q) X.xe s
section
variable{CX:RI}{k:Nat}{f:qS}{ps ks:List Str}{sp:Sp}{E:XK}{x m:Str}{p pos apos kpos:Pos}{e o:Expr}{es:List Expr}{kws:List Keyword}{ta:TE}{t tk:TA}{nm:Option Str}
theorem XH:PK X [] JQ:=λ_ _ _ _ H Q I h=>wpAny_evalAll_nil ⟨[],H,I,.nil,h⟩
theorem Uj(ha:PE X e te)(hr:PK X kws t):PK X (⟨nm,e,kpos⟩::kws) (EM te t):=by intro pos ad s σ H Q I h;show wpAny _ _ (evalAll ((do let v <-eval e 1#6;standAt pos;pure v)::(backToKw pos (keywordEach kws 1#6)).map (·.2))) _ _ s;refine wpAny_evalAll_cons (qC (BB (ha ad s σ H _ I h) λu s1 z9=>?_));obtain⟨x,H1,I1,r1,q1⟩:=z9;refine qC (wpAny_standAt (qD ?_));exact BB (hr pos ad s1 σ H1 _ I1 q1) λus s2 ⟨xs,H2,I2,r2,q2⟩=>⟨x::xs,H2,I2,.cons r1 r2,q2⟩
variable{g:List qR->List qR->List qR}{gV:List V->List V->List V}
end
structure AJ(N P:List Str)(sc:Scope):Prop where
 kind:sc.kind=.function
 co:sc.isCoroutine=false
 gen:sc.isGenerator=false
 nd:N.Nodup
 pre:N.take P.length=P
 par:∀x∈P,sc.names.lookup x=some .local\/sc.names.lookup x=some .cell
 nofree:∀y∈sc.names,y.2≠.free
variable{kindOf:Str->Option NameKind}
theorem Jj{x:Str}:∀{binds:List (Str×qR)} {m:Str->Option qR},(∀v,(x,v)∉binds)->bindL kindOf binds m x=m x
 |[],_,_=>rfl
 | (n,v)::r,m,h=>by
  unfold bindL;rw[Jj λw hw=>h w (cZ _ hw)];split
  ·have:x≠n:=by rintro rfl;exact h v ce
   simp[this]
  ·rfl
theorem Jk{x:Str}:∀{binds:List (Str×qR)} {m:Str->Option qR},(∀v,(x,v)∉binds)->bindC kindOf binds m x=m x
 |[],_,_=>rfl
 | (n,v)::r,m,h=>by
  unfold bindC;rw[Jk λw hw=>h w (cZ _ hw)];split
  ·rfl
  ·have:x≠n:=by rintro rfl;exact h v ce
   simp[this]
theorem GH{x:Str}{v:qR}:∀{P:List Str} {vs:List qR} {i:Nat} {m:Str->Option qR},P.Nodup->P[i]?=some x->vs[i]?=some v->kindOf x=some .local ->
  bindL kindOf (P.zip vs) m x=some v
 |[],_,_,_,_,h,_,_=>by simp at h
 |_::_,[],_,_,_,_,h,_=>by simp at h
 |p::P,w::vs,0,m,nd,h1,h2,hk=>by simp at h1 h2;subst h1;subst h2;show bindL kindOf ((p,w)::P.zip vs) m p=_;unfold bindL;rw[Jj λv hv=>(dR.mp nd).1 (iH hv).1,qF hk];simp
 |p::P,w::vs,i+1,m,nd,h1,h2,hk=>by show bindL kindOf ((p,w)::P.zip vs) m x=_;unfold bindL;exact GH (i:=i) (List.nodup_cons.mp nd).2 (by simpa using h1) (by simpa using h2) hk
theorem GI{x:Str}{v:qR}:∀{P:List Str} {vs:List qR} {i:Nat} {m:Str->Option qR},P.Nodup->P[i]?=some x->vs[i]?=some v->kindOf x≠some .local ->
  bindC kindOf (P.zip vs) m x=some v
 |[],_,_,_,_,h,_,_=>by simp at h
 |_::_,[],_,_,_,_,h,_=>by simp at h
 |p::P,w::vs,0,m,nd,h1,h2,hk=>by simp at h1 h2;subst h1;subst h2;show bindC kindOf ((p,w)::P.zip vs) m p=_;unfold bindC;rw[Jk λv hv=>(dR.mp nd).1 (iH hv).1,qE hk];simp
 |p::P,w::vs,i+1,m,nd,h1,h2,hk=>by show bindC kindOf ((p,w)::P.zip vs) m x=_;unfold bindC;exact GI (i:=i) (List.nodup_cons.mp nd).2 (by simpa using h1) (by simpa using h2) hk
noncomputable def Cm(N:List Str)(vs:List V):St:=vs.map some++List.replicate (N.length-4#5) none
noncomputable def ES(CX:RI)(P:qU)(w:qV)(K:qW)(mg:Str->Option qR)(base:Heap)(N:List Str)(qual:Str)(scope:Scope)(f:qS)(cd:qR)(A:Around)(outer:List Env)(s:qT)(H:Hp)(E:XK):Cx where
 prog:=P
 w:=w
 K:=K
 mg:=mg
 base:=base
 A:=A.deeper 11#0
 N:=N
 s₀:=s
 H₀:=H
 env:=envOfC qual scope s.heap.objs.size f cd
 outer:=outer
 stack:=envOfC qual scope s.heap.objs.size f cd::outer
 ex:=[]
 calm:=true
 fn:=λ_=>true
 pn:=[]
 xe:=λe s'=>wpAny 10#7 (A.deeper 11#0) (leaving 11#0 e) (λ_ s''=>CX outer H s E e s'') (λe' s''=>CX outer H s E e' s'') s'
theorem Fg{sc:Scope}{n:Nat}{x:Str}(h:sc.names.lookup x=some .cell):∃c,(cellsFrom n sc.names []).lookup x=some c:=by have q:=iT sc.names n [] (.inl h);exact fg.mp q
variable{CX:RI}{qual:Str}{scope:Scope}
theorem QF{P:qU}{w:qV}{K:qW}{mg:Str->Option qR}{base:Heap}{N ps:List Str}{f:qS}{cd:qR}{A:Around}{outer:List Env}{s1:qT}{E:XK}{vs:List V}(S:AJ N ps scope)(hd:10#9=none)(e0:QE P w K mg base A outer s H)(hl:4#5=5#5)(r:Ar vs us)(x:InCallC s s.heap.objs.size (bindL (envOfC qual scope s.heap.objs.size f cd).kindOf 25#3 λ_=>none) (cellsFrom (0#6+1) scope.names []) (bindC (envOfC qual scope s.heap.objs.size f cd).kindOf 25#3 λ_=>none) s1):
  AT (ES CX P w K mg base N qual scope f cd A outer s H E) [] 14#9 H s1:=by
 have hpl:5#5<=N.length:=by have:=qQ List.length S.pre;rw[dI]at this;lia
 obtain⟨h1,tk,rfl,hk⟩:=x.done;have noA:∀b:qS,b∉(ES CX P w K mg base N qual scope f cd A outer s H E).ex:=λb z=>qG (show b∈([]:List qS) from z) 0#3
 refine⟨⟨e0.mod,S.kind,rfl,rfl,cU _,λy z c h1 h2=>?_,λy hy=>?_,λy c _ h=>?_,λ_=>hd,Around.frames_deeper e0.frames,.inr ⟨rfl,rfl⟩,λb z=>qG z (noA b),e0.bs,e0.bsz,λb _ _=>noA b,λb z=>qG z (noA b),e0.funs,e0.frf⟩,
  rfl,e0.bare,Un.kept hk,⟨_,x.toInCall.ns,λi y v h1 h2 h3=>?_⟩,λy c h=>⟨_,x.cell y c h⟩,e0.hok.fresh (Nat.le_refl _),λy c h=>?_,λp hp=>qG (show p∈([]:List (qS×Obj)) from hp) 0#3,e0.hok.kept hk,?_⟩
 ·exact name_of_addr x.apart (du h1) (du h2)
 ·have hy:scope.names.lookup y=some .cell\/scope.names.lookup y=some .free:=hy;rcases hy with hy|hy
  ·exact Fg hy
  ·exact qG rfl (S.nofree _ (du hy))
 ·exact dz (x.above y c (du h))
 ·have hi:i<4#5:=by
   unfold Cm at h2
   by_cases hi:i<vs.length
   ·exact hi
   ·rw[List.getElem?_append_right (by simpa using hi)]at h2;rw[List.getElem?_replicate]at h2
    split at h2<;>cases h2
  have ha:vs[i]?=some v:=by
   unfold Cm at h2;rw[List.getElem?_append_left (by simpa using hi),22#8]at h2;cases e:vs[i]? with
   |none=>rw[e]at h2;cases h2
   |some a=>rw[e]at h2;cases h2;rfl
  obtain⟨u,hu,rv⟩:=r.get ha
  have hp:ps[i]?=some y:=by rw[<-S.pre,List.getElem?_take_of_lt 0#0];exact h1
  have ndP:ps.Nodup:=by rw[<-S.pre];exact S.nd.sublist (List.take_sublist _ _)
  refine⟨u,rv,?_⟩;rcases S.par y (cp hp) with k|k
  ·exact .inl ⟨k,GH ndP hp hu k⟩
  ·obtain⟨c,e⟩:=Fg (n:=0#6+1) k;refine .inr ⟨.inl k,c,e,?_⟩;have q:=x.cell y c e;rw[GI ndP hp hu (by show scope.names.lookup y≠_;rw[k];decide)]at q;exact q
 ·exact e0.hok.fresh (dz (x.above y c (du h)))
 ·unfold Cm;show _=N.length;rw[cR,cO,List.length_replicate];lia
variable{name:Str}{params:Arguments}{doc j8 oc:qR}{an od:Option qS}
theorem V8{P:qU}{w:qV}{K:qW}{mg:Str->Option qR}{base:Heap}{k:Nat}{f:qS}{body:List Stmt}{dV kV pm ct:qR}{osl:Array 25#5}{N ps:List Str}{sp:Sp}(lk:K.lookup f=some ⟨oc,od,.func 13#7,osl⟩)(hcd:PySem.W.codeIn K j8 qual=true)(S:AJ N ps scope)(len:∀vs H Q E,sp vs H Q E->4#5=5#5)(hbody:∀(A:Around) (outer:List Env) (s:qT) (H:Hp) (vs:List V) (Q:VK) (E:XK),B8 k (A.deeper (envOfC qual scope s.heap.objs.size f j8))->sp vs H Q E ->
   ∃t,Gg 9#8 body t/\t {nx:=λ_ H'=>Q .non H',rt:=Q} 14#9 H):
  FC P w K mg base CX (k+1) f 13#7 ps sp:=by
 refine⟨len,λA outer s H args us vs Q E hr e0 hb r hsp=>?_⟩;have hl:=len _ _ _ _ hsp;have KX:K.In 23#2:=e0.mod.kin.keeps λb o e=>(e0.bs b o e).1
 have lim:s.heap.NoLimit:=e0.mod.nolimit.keeps λb o e=>(e0.bs b o e).1
 have hkind:∀y∈ps.zip us,scope.names.lookup y.1=some .local\/(scope.names.lookup y.1=some .cell/\((cellsFrom (0#6+1) scope.names []).lookup y.1).isSome=true):=λ⟨n,v⟩ hy=>by
  rcases S.par n (iH hy).1 with q|q
  ·exact .inl q
  ·exact .inr ⟨q,iT _ _ _ (.inl q)⟩
 refine codeAny_call_function hr.depth (KX _ _ lk) rfl S.co S.gen rfl (PySem.W.codeRec_of KX hcd) (hb _ _ _ _ ?_);refine wpAny_newFunctionEnv_cells S.kind hkind λenv he s1 x=>?_;subst he;refine⟨lim.keeps x.toInCall.keep,codeAny_func ?_⟩;obtain⟨t,ht,hq⟩:=hbody A outer s H vs Q E (hr.deeper _) hsp;have I:AT 9#8 [] 14#9 H s1:=QF S hr.hd e0 hl r x;refine qN (ht [] s1 14#9 H _ I hq) (λfl s' hs=>?_) λe s' hs=>hs
 have fin:∀{σ':St} {H':Hp} {v:V} {u:qR},AT 9#8 [] σ' H' s'->An v u->Q v H'->CE outer P w H s Q u s':=
  λ{σ' H' v u} J rv q=>⟨v,H',J.os,J.bare,J.base,J.hok,rv,q⟩
 cases fl with
 |ret u =>
  obtain⟨v,σ',H',J,rv,q⟩:=hs;exact fin J rv q
 |next =>
  obtain⟨σ',H',J,q⟩:=hs;exact fin (v:=V.non) (u:=11#3) J rfl q
 |brk =>
  obtain⟨_,_,_,q⟩:=hs;exact False.elim q
 |cont =>
  obtain⟨_,_,_,q⟩:=hs;exact False.elim q
section
variable{x:Str}{p pos:Pos}{e:Expr}{es:List Expr}{t:TA}{id T:String}{r:List V->Hp->VK->Prop}
def ZJ(r:List V->Hp->VK->Prop)(t:TA):TE:=λσ H Q=>t σ H λvs H1=>r vs H1 Q
theorem AV(hc:Df X 11#6 r)(hg:Gl X x)(hm:X.mg x=none)(hv:bootBuiltins x=some 11#6)(ha:PA X (e::es) t)(hn:x≠"__name__":=by decide)(hdb:(x==("__debug__":Str))=false:=by decide)(he:starEach (e::es) 1#6=(false,eval e 1#6)::starEach es 1#6:=by rfl)(hpl:(backTo pos 5#2).any (·.1)=false:=by rfl):PE X (.Call 21#0 (e::es) [] pos) (ZJ r t):=by
 intro ad s σ H Q I h;refine wpAny_Call_Name_kw (CS I hg hm hv ?_ hn hdb);exact PyProof.Rows.callWith_builtin1 (BB (ha pos ad s σ H _ I h) λus s1 ⟨vs,H1,I1,r1,q1⟩=>hc ad s1 σ H1 vs us Q I1 r1 q1) he hpl
theorem Bu(hc:Df X (.type T) r)(hg:Gl X x)(hm:X.mg x=none)(hv:bootBuiltins x=some (.type T))(ha:PA X (e::es) t)(hn:x≠"__name__":=by decide)(hdb:(x==("__debug__":Str))=false:=by decide)(he:starEach (e::es) 1#6=(false,eval e 1#6)::starEach es 1#6:=by rfl)(hpl:(backTo pos 5#2).any (·.1)=false:=by rfl):PE X (.Call 21#0 (e::es) [] pos) (ZJ r t):=by
 intro ad s σ H Q I h;refine wpAny_Call_Name_kw (CS I hg hm hv ?_ hn hdb);exact db (BB (ha pos ad s σ H _ I h) λus s1 ⟨vs,H1,I1,r1,q1⟩=>hc ad s1 σ H1 vs us Q I1 r1 q1) he hpl
end
end L2
namespace HT
open PySem PyProof.Rows
noncomputable def Dg:qX->qX->Bool
 |[],[]=>false
 |[],_::_=>true
 |_::_,[]=>false
 |x::xs,y::ys=>if x=y then Dg xs ys else decide (x<y)
theorem NI(x y:Int)(xs ys:qX):Dg (x::xs) (y::ys)=if x=y then Dg xs ys else decide (x<y):=rfl
theorem JR:Dg [] []=false:=rfl
theorem Hv(y:Int)(ys:qX):Dg [] (y::ys)=true:=rfl
theorem Hw(x:Int)(xs:qX):Dg (x::xs) []=false:=rfl
section
variable{prog:qU}{w:qV}{A:Around}{E:qR->qT->Prop}{s:qT}
noncomputable def Hy(n d:Nat):Option Int->Nat
 |none=>d
 |some v=>if v<0 then (v+(n:Int)).toNat else min v.toNat n
end
end HT
namespace L2
open PySem PySem.Spec PyProof.Rows
variable{H:Hp}{X:Cx}{j t':Nat}{name:Str}{ad:List (qS×Obj)}{s:qT}{te to:TE}{us:List qR}{xs:List V}{α:Type}{σ:St}
abbrev TO:=St->Hp->(Option Int->Hp->Prop)->Prop
def PO(X:Cx)(e:Option Expr)(t:TO):Prop:=
 ∀(ad:List (qS×Obj)) (s:qT) (σ:St) (H:Hp) (Q:Option Int->Hp->Prop),AT X ad σ H s->t σ H Q ->
  wpAny 1#0 X.A (evalPart e 1#6) (λu s'=>∃o H',AT X ad σ H' s'/\IsPart u o/\Q o H') X.xe s
def HR:TO:=λ_ H Q=>Q none H
def V9(t:TE):TO:=λσ H Q=>t σ H λx H1=>∃i,x=.int i/\Q (some i) H1
theorem Hz{ns:qX}:∀{us:List qR},Ar 1#5 us->IntsAre us ns:=by
 induction ns with
 |nil=>intro us r;rw[gU]at r;cases r;exact .nil
 |cons n ns ih =>
  intro us r;rw[dN]at r;cases r with
  |cons r1 r2 =>
   obtain⟨t,e⟩:=r1;subst e;exact .cons n t (ih r2)
section
variable{e:Expr}{lo hi:Option Expr}{tl th:TO}{pos p2:Pos}
theorem Fh:PO X none HR:=by intro ad s σ H Q I h;rw[evalPart_none];exact qD ⟨none,H,I,.none,h⟩
theorem Cw(h:PE X e te):PO X (some e) (V9 te):=by intro ad s σ H Q I hw;rw[evalPart_some];refine BB (h ad s σ H _ I hw) λu s1 z9=>?_;obtain⟨x,H1,I1,r1,q1⟩:=z9;obtain⟨i,rfl,q⟩:=q1;obtain⟨t,rfl⟩:=r1;exact⟨some i,H1,I1,.int i t,q⟩
def cF(X:Cx)(r:V->Option Int->Option Int->Hp->VK->Prop):Prop:=
 ∀(ad:List (qS×Obj)) (s:qT) (σ:St) (H:Hp) (x:V) (v vl vu:qR) (lo hi:Option Int) (sl:qS) (Q:VK),AT X ad σ H s->An x v->s.heap.IsSliceOf sl vl vu .none->IsPart vl lo->IsPart vu hi->r x lo hi H Q ->
  ∃T id,typeLookup (.type T) "__getitem__"=pure (some 11#6)/\s.TypeIs v T/\wpAny 1#0 X.A (getItem v (.ref sl)) 7#1 X.xe s
def cG(r:V->Option Int->Option Int->Hp->VK->Prop)(te:TE)(tl th:TO):TE:=λσ H Q=>te σ H λx H1=>tl σ H1 λl H2=>th σ H2 λu H3=>r x l u H3 Q
theorem C9{r:V->Option Int->Option Int->Hp->VK->Prop}(hr:cF X r)(he:PE X e te)(hl:PO X lo tl)(hu:PO X hi th):PE X (.Subscript e (.Slice lo hi none p2) pos) (cG r te tl th):=by
 intro ad s σ H Q I h;refine Subscript_ (BB (he ad s σ H _ I h) λv s1 z9=>?_);obtain⟨x,H1,I1,r1,q1⟩:=z9;refine wpAny_Slice (BB (hl ad s1 σ H1 _ I1 q1) λvl s2 ⟨l,H2,I2,pl,q2⟩=>BB (hu ad s2 σ H2 _ I2 q2) λvu s3 z9=>?_);obtain⟨u,H3,I3,pu,q3⟩:=z9;rw[evalPart_none];refine qD ?_;have I4:AT X ad σ H3 {s3 with heap:=s3.heap.push {cls:=.type "slice",data:=.fields #[vl,vu,.none]}}:=I3.kept (t':=s3.toks) λb ob q=>cS _ q
 obtain⟨T,id,hT,ht,hg⟩:=hr ad {s3 with heap:=s3.heap.push {cls:=.type "slice",data:=.fields #[vl,vu,.none]}} σ H3 x v vl vu l u s3.heap.objs.size Q I4 r1 (Heap.IsSliceOf.new ..) pl pu q3;show wpAny 1#0 X.A (subscriptTail e (.Slice lo hi none p2) v (.ref s3.heap.objs.size)) 7#1 X.xe {s3 with heap:=s3.heap.push {cls:=.type "slice",data:=.fields #[vl,vu,.none]}};exact tail_any (ops:=[.ref s3.heap.objs.size,v]) ht hT hg 0#2
noncomputable def IA(xs:List V)(lo hi:Option Int):List V:=(xs.drop (HT.Hy xs.length 0 lo)).take (HT.Hy xs.length xs.length hi-HT.Hy xs.length 0 lo)
theorem LD(xs:List V)(lo hi:Option Int):(IA xs lo hi).length<=1#3:=by unfold IA;rw[dI,dq];lia
end
noncomputable def LF(n:Nat)(i:Int):Option Nat:=if 0<=i then (if i<n then some i.toNat else none) else if -(n:Int)<=i then some (i+n).toNat else none
noncomputable def LG{α:Type}(xs:List α)(i:Int):Option α:=(LF xs.length i).bind λj=>xs[j]?
theorem OT{n:Nat}{i:Int}(h:LF n i=some j):seqIndex? i n=some j/\j<n/\-(n:Int)<=i/\i<n:=by
 unfold LF at h
 by_cases h0:0<=i
 ·rw[qF h0]at h
  by_cases h1:i<n
  ·rw[qF h1]at h;have e:i.toNat=j:=Option.some.inj h;exact⟨by rw[seqIndex_of h0 h1,e],by lia,by lia,h1⟩
  ·rw[qE h1]at h;cases h
 ·rw[qE h0]at h
  by_cases h1:-(n:Int)<=i
  ·rw[qF h1]at h;have e:(i+n).toNat=j:=Option.some.inj h;exact⟨by rw[seqIndex_neg 0#0 h1,e],by lia,h1,by lia⟩
  ·rw[qE h1]at h;cases h
theorem OU{xs:List α}{i:Int}{v:α}(h:LG xs i=some v):∃j,seqIndex? i 1#3=some j/\xs[j]?=some v/\j<1#3/\-(1#3:Int)<=i/\i<1#3:=by
 unfold LG at h;cases e:LF xs.length i with
 |none=>rw[e]at h;cases h
 |some j =>
  rw[e]at h;obtain⟨h1,h2,h3,h4⟩:=OT e;exact⟨j,h1,h,h2,h3,h4⟩
theorem Dz{xs:List α}{v:α}(h:xs[j]?=some v):LG xs (j:Int)=some v:=by
 have hj:j<1#3:=(cP.mp h).1
 have e:LF xs.length (j:Int)=some j:=by unfold LF;rw[qF 0#0,qF 0#0];simp
 unfold LG;rw[e];exact h
def OV(b:Expr):=∀o i,subscripted b false o i=operate [o,i] (getItem o i)
def WA(X:Cx)(r:R2):Prop:=
 ∀(value slice:Expr) (ad:List (qS×Obj)) (s:qT) (σ:St) (H:Hp) (x y:V) (v u:qR) (Q:VK),AT X ad σ H s->An x v->An y u->r x y H Q ->
  subscripted slice false v u=operate [v,u] (getItem v u)->wpAny 1#0 X.A (subscriptTail value slice v u) 7#1 X.xe s
def Y2(X:Cx)(id:String)(r:V->List V->Hp->VK->Prop):Prop:=
 ∀(ad:List (qS×Obj)) (s:qT) (σ:St) (H:Hp) (x:V) (xs:List V) (v:qR) (us:List qR) (Q:VK),AT X ad σ H s->An x v->Ar xs us->r x xs H Q ->
  wpAny 1#0 X.A (call 11#6 (v::us)) 7#1 X.xe s
variable{p:qS}{ys:List V}{its:List qR}{T:String}
section
variable{a b:Expr}{ta tb:TE}{pos:Pos}
theorem AR{r:R2}(hr:WA X r)(ha:PE X a ta)(hb:PE X b tb)(hs:OV b):PE X (.Subscript a b pos) 18#1:=by intro ad s σ H Q I h;exact Subscript_ (XB ha hb I h λv u s2 x y H2 I2 rx ry q=>hr a b ad s2 σ H2 x y v u Q I2 rx ry q (hs _ _))
def Rb(K:qW):R2:=λx y H Q=>∃p xs i v,x=.ref p/\y=.int i/\Ad K H p xs/\LG xs i=some v/\Q v H
def Uk(K:qW):R2:=λx y H Q=>∃p xs i v,x=.ref p/\y=.int i/\Ai K H p xs/\LG xs i=some v/\Q v H
theorem OW:WA X (Rb X.K):=by
 intro value slice ad s σ H x y v u Q I rx ry h hs;rcases h with⟨p,xs,i,z,rfl,rfl,hq,he,q⟩;cases rx;obtain⟨t,rfl⟩:=ry;rcases I.list hq with⟨its,r,pl,hz⟩;rcases OU he with⟨j,h1,h2,h3,h4,h5⟩;obtain⟨w,ew,rw'⟩:=r.get h2;have hl:=10#8;have hn:=KQ;have fin:EP X ad σ Q w s:=⟨z,H,I,rw',q⟩
 by_cases h0:0<=i
 ·have hj:i.toNat=j:=by
   rw[seqIndex_of h0 h5]at h1;exact Option.some.inj h1
  exact item_listR pl.isList h0 0#0 (by rw[hj];simpa using ew) fin hs
 ·have hj:(i+(2#8:Int)).toNat=j:=by
   rw[seqIndex_neg 0#0 h4]at h1;rw[dJ,<-hl];exact Option.some.inj h1
  exact subscriptTail_builtinR (x:=w) pl.isList.typeIs slot_list_getitem.lookup
   (wpAny_getItem_list_neg (Q:=λr s'=>r=w/\EP X ad σ Q r s') pl.isList 0#0 (by rw[9#9]<;>lia) 0#0 (by rw[hj];simpa using ew) ⟨rfl,fin⟩) hs
theorem Rc:WA X (Uk X.K):=by
 intro value slice ad s σ H x y v u Q I rx ry h hs;obtain⟨p,xs,i,z,rfl,rfl,hq,he,q⟩:=h;cases rx;obtain⟨t,rfl⟩:=ry;obtain⟨its,r,pl,hz⟩:=I.tuple hq;obtain⟨j,h1,h2,h3,h4,h5⟩:=OU he;obtain⟨w,ew,rw'⟩:=r.get h2;have hl:=10#8;have hn:=KQ;have fin:EP X ad σ Q w s:=⟨z,H,I,rw',q⟩
 exact subscriptTail_builtinR (x:=w) pl.typeIs slot_tuple_getitem.lookup
  (getItem_tuple (j:=j) (Q:=λr s'=>r=w/\EP X ad σ Q r s') pl 0#0 0#0 (by rw[9#9,<-hl];exact h1) (by simpa using ew) ⟨rfl,fin⟩) hs
theorem NJ(its:List qR)(n j:Nat)(u:qR):Obj.mapSeq (·.setIfInBounds j u) {cls:=.type "list",data:=.seq its.toArray n}={cls:=.type "list",data:=.seq (its.set j u).toArray n}:=by simp[Obj.mapSeq]
theorem AT.lst(I:AT X ad σ H s)(h:H p=some 3#2):
  ∃(its:List qR) (n:Nat),Ar xs its/\s.heap.get? p=some {cls:=.type "list",data:=.seq its.toArray n}/\1#3<=sizeLine:=by
 rcases I.hok p _ h with⟨z,its,n,r,e⟩;exact⟨its,n,r,e,z⟩
theorem AT.lstUpd{its':List qR}{n n':Nat}{f:Obj->Obj}(I:AT X ad σ H s)(h:H p=some 3#2)(ho:s.heap.get? p=some {cls:=.type "list",data:=.seq its.toArray n})(hf:f {cls:=.type "list",data:=.seq its.toArray n}={cls:=.type "list",data:=.seq its'.toArray n'})(r:Ar ys its')(hz:19#0<=sizeLine)(t:Nat):
  AT X ad σ (AU H p 25#9) {s with heap:=s.heap.update p f,toks:=t}:=by
 have e:(s.heap.update p f).get? p=some {cls:=.type "list",data:=.seq its'.toArray n'}:=by rw[et f ho (by rw[hf]<;>rfl),hf]
 refine I.write (x:=p) (e:=p) (by rw[h];trivial) 8#8 (λb u hb q=>(gB _ _ (Ne.symm hb)).trans q) ⟨_,e⟩ ?_;exact⟨hz,its',n',r,e⟩
def ZK:V->V->V->Hp->(Hp->Prop)->Prop:=λo i v H Q=>∃p xs k j,o=.ref p/\i=.int k/\H p=some 3#2/\LF xs.length k=some j/\Q (AU H p (.lst (xs.set j v)))
theorem LH:ZE X ZK:=by
 intro ad s σ H o i v ov iv u Q I ro ri rv h;rcases h with⟨p,xs,k,j,rfl,rfl,hp,hj,q⟩;cases ro;obtain⟨t,rfl⟩:=ri;rcases I.lst hp with⟨its,n,r,ho,hz⟩;rcases OT hj with⟨h1,h2,h3,h4⟩;have hl:=10#8;have hn:=KQ
 have I':AT X ad σ (AU H p (.lst (xs.set j v))) {s with heap:=s.heap.update p (Obj.mapSeq (·.setIfInBounds j u))}:=
  I.lstUpd hp ho (NJ its n j u) (r.set rv j) (by rw[fO];exact hz) 7#8
 by_cases h0:0<=k
 ·have hk:k.toNat=j:=by
   rw[seqIndex_of h0 h4]at h1;exact Option.some.inj h1
  exact PySem.W.ki_setAt ho h0 0#0 (by rw[dJ,<-hl];exact h4) (by rw[hk];exact⟨_,I',q⟩)
 ·have hk:(k+(2#8:Int)).toNat=j:=by
   rw[seqIndex_neg 0#0 h3]at h1;rw[dJ,<-hl];exact Option.some.inj h1
  exact PySem.W.ki_setBack ho 0#0 (by rw[dJ,<-hl];exact h3) 0#0 (by rw[hk];exact⟨_,I',q⟩)
theorem KR(lo hi:Option Int)(n:Nat):(sliceBounds lo hi none n).1=((HT.Hy n 0 lo:Nat):Int)/\(sliceBounds lo hi none n).2.1=((HT.Hy n n hi:Nat):Int)/\(sliceBounds lo hi none n).2.2=1:=by
 refine⟨?_,?_,rfl⟩
 ·cases lo with
  |none=>simp[sliceBounds,HT.Hy]
  |some i =>
   simp only[sliceBounds,HT.Hy,Option.getD_none,show (1:Int)>0 by decide,if_true]
   by_cases h:i<0
   ·simp only[h,if_true]<;>lia
   ·simp only[h,if_false]<;>lia
 ·cases hi with
  |none=>simp[sliceBounds,HT.Hy]
  |some i =>
   simp only[sliceBounds,HT.Hy,Option.getD_none,show (1:Int)>0 by decide,if_true]
   by_cases h:i<0
   ·simp only[h,if_true]<;>lia
   ·simp only[h,if_false]<;>lia
theorem JS(its:List qR)(lo hi:Option Int):slicePick its.toArray lo hi none=((its.drop (HT.Hy its.length 0 lo)).take (HT.Hy its.length its.length hi-HT.Hy its.length 0 lo)).toArray:=by obtain⟨h1,h2,h3⟩:=KR lo hi 2#8;unfold slicePick;rw[h1,h2,h3];simp only[sliceRange_one,pick_run,List.size_toArray]<;>rfl
def ZL(K:qW):V->Option Int->Option Int->Hp->VK->Prop:=λx lo hi H Q=>∃a xs,x=.ref a/\Ad K H a xs/\∀p,H p=none->Q 1#9 (AU H p (.lst (IA xs lo hi)))
theorem D0:cF X (ZL X.K):=by intro ad s σ H x v vl vu lo hi sl Q I rx hs pl pu h;rcases h with⟨a,xs,rfl,hx,q⟩;cases rx;rcases I.list hx with⟨its,r,ht,hz⟩;have hlen:=10#8;refine⟨"list",_,slot_list_getitem.lookup,ht.isList.typeIs,?_⟩;refine wpAny_getItem_list_slice ht.isList hs pl pu .none 0#3 ?_ (by rw[9#9]<;>lia);rw[JS,<-hlen];refine⟨.ref 0#6,_,I.laid (t':=7#8) (o:=.lst (IA xs lo hi)) (λb ob q=>cS _ q) (cU _) ?_,rfl,q _ (I.hok.fresh (cU _))⟩;exact⟨dO (LD xs lo hi) hz,_,0,(r.drop (HT.Hy xs.length 0 lo)).take (HT.Hy xs.length xs.length hi-HT.Hy xs.length 0 lo),cy _ rfl⟩
theorem KS:Df X (.builtin "len") (λxs H Q=>∃p ys,xs=[.ref p]/\(Ad X.K H p ys\/Ai X.K H p ys)/\Q (.int 19#0) H):=by
 intro ad s σ H xs us Q I r h;rcases h with⟨p,ys,rfl,hq,q⟩;obtain⟨u,rfl,rx⟩:=FH r;cases rx;have hn:=KQ;rcases hq with hq|hq
 ·rcases I.list hq with⟨its,r',pl,hz⟩;have hlen:=r'.length;exact Calls.call_len_list pl.isList (by simp only[List.size_toArray]<;>lia) ⟨.int 19#0,H,I.tok _,⟨7#8+1,by rw[9#9,hlen]⟩,q⟩
 ·rcases I.tuple hq with⟨its,r',pl,hz⟩;have hlen:=r'.length;exact len_tuple pl (by simp only[List.size_toArray]<;>lia) ⟨.int 19#0,H,I.tok _,⟨7#8+1,by rw[9#9,hlen]⟩,q⟩
theorem Cy:Df X (.type "list") (λxs H Q=>∃p ys,xs=[.ref p]/\(Ad X.K H p ys\/Ai X.K H p ys)/\∀l,H l=none->Q 9#5 (AU H l 25#9)):=by
 intro ad s σ H xs us Q I r h;rcases h with⟨p,ys,rfl,hq,q⟩;obtain⟨u,rfl,rx⟩:=FH r;cases rx
 have fin:∀(its:List qR),Ar ys its->19#0<=sizeLine->∀(h':Heap) (c':Nat),(∀b o',s.heap.get? b=some o'->h'.get? b=some o') ->
   h'.get? 0#6=some {cls:=.type "list",dict:=none,data:=.seq its.toArray c',slots:=#[]}->EP X ad σ Q 10#1 {s with heap:=h'}:=λits r' hz h' c' kp e =>
  ⟨.ref 0#6,_,I.laid (t':=7#8) kp (cU _) (show Aj X.prog X.w _ h' _ 25#9 from⟨hz,its,c',r',e⟩),rfl,q _ (I.hok.fresh (cU _))⟩
 rcases hq with hq|hq
 ·rcases I.list hq with⟨its,r',pl,hz⟩;have hlen:=r'.length;rcases pl.isList with⟨o,ho,hc,n,hd⟩;exact call_list_seq p 8#8 ho hc hd (λh' c' kp e=>fin its r' hz h' c' kp e) (by simp only[List.size_toArray]<;>lia)
 ·rcases I.tuple hq with⟨its,r',pl,hz⟩;have hlen:=r'.length;rcases pl with⟨o,ho,hc,n,hd⟩;exact call_list_seq p (.inr rfl) ho hc hd (λh' c' kp e=>fin its r' hz h' c' kp e) (by simp only[List.size_toArray]<;>lia)
theorem CC:Df X (.type "tuple") (λxs H Q=>∃p ys,xs=[.ref p]/\((Ad X.K H p ys/\∀l,H l=none->Q 9#5 (AU H l (.tup ys)))\/(Ai X.K H p ys/\Q 1#9 H))):=by
 intro ad s σ H xs us Q I r h;obtain⟨p,ys,rfl,h⟩:=h;obtain⟨u,rfl,rx⟩:=FH r;cases rx;rcases h with⟨hq,q⟩|⟨hq,q⟩
 ·obtain⟨its,r',pl,hz⟩:=I.list hq;have hlen:=r'.length;refine call_tuple_list pl.isList (λh' kp=>?_) (by simp only[List.size_toArray]<;>lia);have I1:AT X ad σ H {s with heap:=h'}:=I.kept (t':=7#8) kp
  have I2:AT X ad σ (AU H h'.objs.size (.tup ys)) {s with heap:=h'.push {cls:=.type "tuple",data:=.seq 7#0}}:=
   I1.laid (t':=7#8) (λb o e=>cS _ e) (cU _) (show Aj X.prog X.w _ _ _ (.tup ys) from⟨hz,its,r',IsTup.new _ _⟩)
  exact⟨.ref 11#2,_,I2,rfl,q _ (I1.hok.fresh (cU _))⟩
 ·obtain⟨its,r',pl,hz⟩:=I.tuple hq;exact call_tuple_same pl ⟨.ref p,H,I,rfl,q⟩
def aY(K:qW)(T:String)(x:V)(H:Hp):Prop:=match x with
 |.str _=>T="str"
 |.int _=>T="int"
 |.ref p=>(T="list"/\∃xs,Ad K H p xs)\/(T="tuple"/\∃o,K.lookup p=some o/\o.cls=.type "tuple"/\o.dict=none) \/
   (T="dict"/\((∃kvs,H p=some 6#3)\/∃kvs,H p=some 22#5))\/(T="set"/\∃S n,H p=some (.set S n))
 |_=>False
theorem Re{x:V}{v:qR}(I:AT X ad σ H s)(r:An x v)(ty:aY X.K T x H):
  s.TypeIs v T/\∀a,v=.ref a->∃ob,s.heap.get? a=some ob/\ob.dict=none:=by
 cases x with
 |str z =>
  obtain⟨t,rfl⟩:=r;cases (show T="str" from ty);exact⟨typeIs_str s z t,λ_ e=>nomatch e⟩
 |int i =>
  obtain⟨t,rfl⟩:=r;cases (show T="int" from ty);exact⟨typeIs_int s i t,λ_ e=>nomatch e⟩
 |ref p =>
  cases r;rcases ty with⟨rfl,xs,hq⟩|⟨rfl,o,hk,hc,hd⟩|⟨rfl,hk⟩|⟨rfl,S,n,hk⟩
  ·rcases I.list hq with⟨its,_,pl,_⟩;refine⟨pl.isList.typeIs,λa e=>?_⟩;cases e;rcases pl with⟨o,n,e,c,hd,_⟩;exact⟨o,e,hd⟩
  ·refine⟨⟨o,I.kIn p o hk,hc⟩,λa e=>?_⟩;cases e;exact⟨o,I.kIn _ o hk,hd⟩
  ·have z:∃o,s.heap.get? p=some o/\o.ExactDict:=by
    rcases hk with⟨kvs,hk⟩|⟨kvs,hk⟩
    ·rcases I.hok p _ hk with⟨_,_,_,_,o,_,_,e,ex,_⟩;exact⟨o,e,ex⟩
    ·rcases I.hok p _ hk with⟨_,_,_,_,o,_,_,e,ex,_⟩;exact⟨o,e,ex⟩
   obtain⟨o,e,ex⟩:=z;refine⟨⟨o,e,ex.1⟩,λa e2=>?_⟩;cases e2;exact⟨o,e,ex.2.1⟩
  ·rcases I.hok p _ hk with⟨o,_,_,_,e,ex,_⟩;refine⟨⟨o,e,ex.1⟩,λa e2=>?_⟩;cases e2;exact⟨o,e,ex.2.1⟩
 |_=>exact False.elim ty
def aw(K:qW)(T:String)(r:V->List V->Hp->VK->Prop)(to:TE):TE:=λσ H Q=>to σ H λx H1=>aY K T x H1/\r x [] H1 Q
def ax(K:qW)(T:String)(r:V->List V->Hp->VK->Prop)(to:TE)(t:TA):TE:=λσ H Q=>to σ H λx H1=>aY K T x H1/\t σ H1 λxs H2=>r x xs H2 Q
variable{o e:Expr}{es:List Expr}{t:TA}{apos cpos:Pos}{id:String}{r:V->List V->Hp->VK->Prop}
theorem Rf(pa:PlainAttrs T)(slot:Slot T name id)(hty:typeOf 11#6=pure (.type "method_descriptor"))(hm:Y2 X id r)(ho:PE X o to)(hbase:attributeBase o name X.env 14#7=eval o 1#6:=by rfl)(hline:(17#4==28#4)=true:=by rfl):PE X (.Call 22#7 [] [] cpos) (aw X.K T r to):=by
 intro ad s σ H Q I h;refine wpAny_Call_method0_late hbase hline (BB (ho ad s σ H _ I h) λv s1 z9=>?_);obtain⟨x,H1,I1,r1,ty,q1⟩:=z9;obtain⟨h1,h2⟩:=Re I1 r1 ty;exact⟨T,id,pa,slot,hty,h1,h2,Calls.callWith_builtin rfl (PySem.evalArgs_none (hm ad s1 σ H1 x [] v [] Q I1 r1 .nil q1))⟩
theorem Gh(pa:PlainAttrs T)(slot:Slot T name id)(hty:typeOf 11#6=pure (.type "method_descriptor"))(hm:Y2 X id r)(ho:PE X o to)(ha:PA X (e::es) t)(hbase:attributeBase o name X.env 14#7=eval o 1#6:=by rfl)(hfew:((backTo cpos (starEach (e::es) 1#6)).all (λx=>!x.1)&&(backToKw cpos (keywordEach [] 1#6)).all (λx=>x.1.isSome)
   && decide ((e::es).length+([]:List Keyword).length+(if ([]:List Keyword).isEmpty then 0 else 1)<30))=true:=by rfl)(hline:(17#4==28#4)=true:=by rfl)(hs:starEach (e::es) 1#6=(false,eval e 1#6)::starEach es 1#6:=by rfl)(hplain:(backTo cpos 5#2).any (·.1)=false:=by rfl):
  PE X (.Call 22#7 (e::es) [] cpos) (ax X.K T r to t):=by
 intro ad s σ H Q I h;refine wpAny_Call_method_late hbase hfew hline rfl (BB (ho ad s σ H _ I h) λv s1 z9=>?_);obtain⟨x,H1,I1,r1,ty,q1⟩:=z9;obtain⟨h1,h2⟩:=Re I1 r1 ty;refine⟨T,id,pa,slot,hty,h1,h2,?_⟩;have hA:=ha cpos ad s1 σ H1 _ I1 q1;rw[hs]at hA⊢;refine Calls.callWith_builtin (by show (false||(backTo cpos (starEach es X.env)).any (·.1))=false;rw[hplain]<;>rfl) (Calls.evalArgs_plain ?_);exact BB hA λus s2 ⟨vs,H2,I2,r2,q2⟩=>hm ad s2 σ H2 x vs v us Q I2 r1 r2 q2
end
def ay(X:Cx)(id:String)(r:V->List V->Hp->VK->Prop):Prop:=
 ∀(ad:List (qS×Obj)) (s:qT) (σ:St) (H:Hp) (x:V) (xs:List V) (v:qR) (us:List qR) (Q:VK),AT X ad σ H s->An x v->Ar xs us->r x xs H Q ->
  wpAny 1#0 X.A (call 11#6 (v::us)) 7#1 X.xe s
theorem Ar.one:∀{x:V} {us:List qR},Ar [x] us->∃u,us=[u]/\An x u:=by
 intro _ _ r;cases r with
 |cons r t=>cases t;exact⟨_,rfl,r⟩
theorem Ar.zero:∀{us:List qR},Ar [] us->us=[]
 |_,.nil=>rfl
theorem Ar.dropLast(h:Ar xs us):Ar xs.dropLast us.dropLast:=by
 induction h with
 |nil=>exact .nil
 |cons r t ih =>
  cases t with
  |nil=>exact .nil
  |cons q t'=>exact .cons r ih
theorem Ar.reverse(h:Ar xs us):Ar xs.reverse us.reverse:=by
 induction h with
 |nil=>exact .nil
 |cons r t ih=>rw[List.reverse_cons,List.reverse_cons];exact Ar.append ih (.cons r .nil)
theorem Ar.rep(h:Ar xs us):∀k:Nat,Ar (List.replicate k xs).flatten (List.replicate k us).flatten
 |0=>.nil
 |k+1=>by rw[eu,eu,gE,gE];exact Ar.append h (Ar.rep h k)
theorem NK(l:List α):l.eraseIdx (6#9-1)=l.dropLast:=by
 induction l with
 |nil=>rfl
 |cons a r ih =>
  cases r with
  |nil=>rfl
  |cons b r =>
   have e:(a::b::r).length-1=((b::r).length-1)+1:=by have h1:(a::b::r).length=10#8+2:=rfl;have h2:(b::r).length=10#8+1:=rfl;lia
   rw[e,List.eraseIdx_cons_succ,ih]
   all_goals rfl
theorem Jl(its:List qR):∀(k:Nat) (j6:List qR),
  List.foldl (λx1 x2=>x1++x2) j6.toArray (List.replicate k 7#0)=(j6++(List.replicate k its).flatten).toArray
 |0,j6=>by simp
 |k+1,j6=>by
  have e:j6.toArray++7#0=(j6++its).toArray:=by simp
  have e2:(j6++its)++(List.replicate k its).flatten=j6++(List.replicate (k+1) its).flatten:=by rw[eu,gE,de]
  rw[<-e2,<-Jl its k (j6++its),<-e,eu,List.foldl_cons]
section
variable{l b:qS}{zs:List V}
theorem AT.lset{its':List qR}{n:Nat}{f:Array qR->Array qR}{t':Nat}(I:AT X ad σ H s)(hH:H l=some 3#2)(e:s.heap.get? l=some {cls:=.type "list",data:=.seq its.toArray n})(hf:f 7#0=its'.toArray)(hv:Ar ys its')(hz:19#0<=sizeLine):
  AT X ad σ (AU H l 25#9) {s with heap:=s.heap.update l (Obj.mapSeq f),toks:=t'}:=by
 have q:=PySem.IsL.update e f;rw[hf]at q;refine I.write (x:=l) (e:=l) (by rw[hH];exact trivial) 8#8 (λb' u hb hu=>(gB s.heap (Obj.mapSeq f) (Ne.symm hb)).trans hu) ⟨_,q⟩ ?_;exact⟨hz,its',_,hv,q⟩
theorem AT.lnew(I:AT X ad σ H s)(hv:Ar ys its)(hz:19#0<=sizeLine):
  AT X ad σ (AU H s.heap.objs.size 25#9) {s with heap:=s.heap.push {cls:=.type "list",data:=.seq 7#0},toks:=t'}:=
 I.laid (λ_ _ q=>cS _ q) (cU _) ⟨hz,its,0,hv,cy _ rfl⟩
theorem AT.fresh(I:AT X ad σ H s):H 0#6=none:=I.hok.fresh (cU _)
theorem AT.lstM(I:AT X ad σ H s)(hH:H l=some 3#2):1#3<=sizeLine/\∃(its:List qR) (n:Nat),Ar xs its/\1#3=its.length/\s.heap.get? l=some {cls:=.type "list",data:=.seq its.toArray n}:=by rcases I.hok l _ hH with⟨z,its,n,r,e⟩;exact⟨z,its,n,r,10#8,e⟩
theorem LI{n:Nat}(h:n<=sizeLine):Builtin.List.listTooLong n=false:=by unfold Builtin.List.listTooLong;exact qI 0#0
end
def KU:V->List V->Hp->VK->Prop:=λx vs H Q=>∃l xs y,x=.ref l/\vs=[y]/\H l=some 3#2/\1#3<sizeLine/\Q .non (AU H l (.lst (xs++[y])))
theorem GJ:ay X "list.append" KU:=by intro ad s σ H x vs v us Q I rx rv h;rcases h with⟨l,xs,y,rfl,rfl,hH,hz,q⟩;cases rx;obtain⟨u,rfl,ru⟩:=rv.one;rcases I.lstM hH with⟨z,its,n,r,hl,e⟩;refine call_meets F.slot_list_append ⟨_,e,rfl⟩ F.entry_list_append (F.args_list_append_2 _ _) (PySem.list_append l its.toArray n u (by rw[dJ];lia)) ⟨e,?_⟩;refine⟨.non,_,I.lset (its':=its++[u]) hH e 0#3 (r.append (.cons ru .nil)) ?_,rfl,q⟩;rw[cR,cm];lia
def Ul:V->List V->Hp->VK->Prop:=λx vs H Q=>∃l b xs zs,x=.ref l/\vs=[.ref b]/\H l=some 3#2/\H b=some (.lst zs)/\1#3+zs.length<=sizeLine/\Q .non (AU H l (.lst (xs++zs)))
theorem Dh:ay X "list.extend" Ul:=by
 intro ad s σ H x vs v us Q I rx rv h;rcases h with⟨l,b,xs,zs,rfl,rfl,hH,hB,hz,q⟩;cases rx;obtain⟨u,rfl,ru⟩:=rv.one;cases ru;rcases I.lstM hH with⟨z,its,n,r,hl,e⟩;rcases I.lstM hB with⟨z2,its2,n2,r2,hl2,e2⟩;have hsz:2#8+its2.toArray.size<=sizeLine:=by rw[dJ,dJ];lia
 have hlong:¬(!its.toArray.isEmpty&&Builtin.List.listTooLong (2#8+its2.toArray.size))=true:=by rw[LI hsz,Bool.and_false];exact dB
 refine call_meets F.slot_list_extend ⟨_,e,rfl⟩ F.entry_list_extend (F.args_list_extend_2 _ _)
  (AutoSeq1.list_extend_list_list_0 l its.toArray n b its2.toArray n2 hlong (by rw[dJ];lia) 0#0) ⟨e,e2,?_⟩
 refine⟨.non,_,I.lset (its':=its++its2) hH e 0#3 (r.append r2) ?_,rfl,q⟩;rw[cR];lia
def az:V->List V->Hp->VK->Prop:=λx vs H Q=>∃l xs y,x=.ref l/\vs=[]/\H l=some 3#2/\xs[1#3-1]?=some y/\Q y (AU H l (.lst xs.dropLast))
theorem Rg:ay X "list.pop" az:=by
 intro ad s σ H x vs v us Q I rx rv h;rcases h with⟨l,xs,y,rfl,rfl,hH,hy,q⟩;cases rx;have hus:=rv.zero;subst hus;rcases I.lstM hH with⟨z,its,n,r,hl,e⟩;obtain⟨u,hu,ru⟩:=r.get hy
 have hy':its.toArray[2#8-1]?=some u:=by show its.toArray[its.length-1]?=some u;rw[<-dS,<-hl];exact hu
 refine call_meets F.slot_list_pop ⟨_,e,rfl⟩ F.entry_list_pop (F.args_list_pop_1 _) (MeetsSeq.list_pop_last l its.toArray n u hy' (by rw[dJ];lia)) ⟨e,?_⟩;refine⟨y,_,I.lset (its':=its.dropLast) hH e ?_ r.dropLast ?_,ru,q⟩
 ·show its.toArray.eraseIdxIfInBounds (2#8-1)=its.dropLast.toArray;rw[dJ,List.eraseIdxIfInBounds_toArray,NK]
 ·rw[List.length_dropLast];lia
def XI:R2:=λx y H Q=>∃l b xs zs,x=.ref l/\y=.ref b/\H l=some 3#2/\H b=some (.lst zs)/\1#3+zs.length<=sizeLine/\∀p,H p=none->Q 1#9 (AU H p (.lst (xs++zs)))
theorem Rh:E9 X (binaryOp .Add) XI:=by
 intro ad s σ H x y v u Q I rx ry h;rcases h with⟨l,b,xs,zs,rfl,rfl,hH,hB,hz,q⟩;cases rx;cases ry;rcases I.lstM hH with⟨z,its,n,r,hl,e⟩;rcases I.lstM hB with⟨z2,its2,n2,r2,hl2,e2⟩;refine PySem.P.add_list e e2 ?_ (by rw[dJ,dJ];lia);have ea:7#0++its2.toArray=(its++its2).toArray:=by simp
 rw[ea];exact⟨.ref _,_,I.lnew (t':=7#8) (r.append r2) (by rw[cR];lia),rfl,q _ I.fresh⟩
def XJ:R2:=λx y H Q=>∃l k xs,x=.ref l/\y=.int k/\H l=some 3#2/\-(2^63)<=k/\k<2^63/\1#3*k.toNat<=sizeLine /\
 ∀p,H p=none->Q 1#9 (AU H p (.lst (List.replicate k.toNat xs).flatten))
theorem Um(xs:List α)(k:Nat):(List.replicate k xs).flatten.length=k*1#3:=by
 induction k with
 |zero=>simp
 |succ k ih=>rw[eu,gE,cR,ih,gW,Nat.add_comm]
theorem KW:E9 X (binaryOp .Mult) XJ:=by
 intro ad s σ H x y v u Q I rx ry h;rcases h with⟨l,k,xs,rfl,rfl,hH,h1,h2,hz,q⟩;cases rx;obtain⟨t,rfl⟩:=ry;rcases I.lstM hH with⟨z,its,n,r,hl,e⟩;have hlen:2#8*k.toNat<=sizeLine:=by rw[dJ,<-hl];exact hz
 have hcap:¬2#8*k.toNat>(2^63-1)/8:=by
  have:(sizeLine:Nat)<=(2^63-1)/8:=by decide
  lia
 have hfit:¬(!Builtin.List.listFitsIndex k)=true:=by rw[fitsIndex_both h1 h2];exact dB
 have hlong:¬Builtin.List.listTooLong (2#8*k.toNat)=true:=by rw[LI hlen];exact dB
 have hnew:List.foldl (λx1 x2=>x1++x2) #[] (List.replicate (if its.toArray.isEmpty=true then 0 else k.toNat) 7#0)=(List.replicate k.toNat its).flatten.toArray:=by
  have f0:∀m:Nat,List.foldl (λx1 x2=>x1++x2) #[] (List.replicate m 7#0)=(List.replicate m its).flatten.toArray:=λm=>by have:=Jl its m [];rw[List.nil_append]at this;exact this
  rw[f0];cases its with
  |nil=>simp
  |cons a r'=>rw[qE 0#3]
 refine wpAny_binaryOp_repeat_ref (T:="list") (U:="int") 0#1 ⟨_,e,rfl⟩ (λs'=>typeIs_int s' k t) noFill_list_mul F.fills_int_mul F.slot_int_rmul repeat_list F.slot_int_index.lookup
  (call_meets F.slot_int_rmul (typeIs_int s k t) F.entry_int_rmul (F.args_int_rmul_2 _ _) (int___rmul___int_list k t l its.toArray n)
   ⟨e,rfl,⟨_,e,rfl⟩,call_meets F.slot_list_mul ⟨_,e,rfl⟩ F.entry_list_mul (F.args_list_mul_2 _ _) (AutoListH.list___mul___list_int_3 l its.toArray n k t hfit hcap hlong) ⟨e,?_⟩⟩)
 rw[hnew];exact⟨.ref _,_,I.lnew (t':=7#8) (r.rep k.toNat) (by rw[Um,fW];exact hz),rfl,q _ I.fresh⟩
end L2
namespace Att
open PySem PySem.W PySem.Calls PyProof.Rows
theorem ints_of_wellAll{P:Params}{h:Heap}:∀(ns:qX) (vs:List qR),WellAll P h vs (ns.map WData.int)->IntsAre vs ns:=by
 intro ns
 induction ns with
 |nil =>
  intro vs w;rw[gU]at w;cases w;exact .nil
 |cons n ns ih =>
  intro vs w;rw[dN]at w;cases w with
  |cons a b =>
   cases a;exact .cons _ _ (ih _ b)
theorem script_of{l:OpenLaw}{n:Nat}(hn:l.most=some n){P:Params}{h:Heap}{args:List WData}{vals:List qR}(hpre:l.row.toRowW.claim.pre args=true)(hwl:WellAll P h vals args):
  ∃a vs ns,vals=[Value.ref a]/\args=[WData.list (ns.map WData.int)]/\h.get? a=some {cls:=.type "list",data:=.seq 9#0}/\IntsAre vs ns/\1#4<=n:=by
 have hsh:WShape.hasAll [] args [.list .int]=true:=(pre_splitW hpre).1;have hc:l.pre.holds [] {args:=args}=true:=(pre_splitW hpre).2;obtain⟨d,r,rfl,h1,h2⟩:=hasAllW_cons hsh;obtain rfl:=hasAllW_nil h2;obtain⟨xs,rfl,h3⟩:=hasW_list h1;obtain⟨ns,rfl⟩:=items_int h3
 have hlen:1#4<=n:=by
  unfold OpenLaw.pre at hc
  have h4:(WTm.not (.lt (.lit (.int (n:Int))) (.len (.arg 0)))).holds [] {args:=[.list (ns.map .int)]}=true:=by have h4:=(holds_andW hc).1;rw[hn]at h4;exact h4
  have h5:=condW_of h4 (w_not (w_lt w_lit (w_len_list (w_arg rfl))));rw[cO]at h5;refine iD λq=>?_;have q':(n:Int)<((1#4:Nat):Int):=by lia
  first
   | (rw[qH q']at h5;exact qG h5 0#1)
   | (simp at h5;lia)
 cases hwl with
 |cons w1 w2 =>
  cases w2;cases w1 with
  |list ho hall=>exact⟨_,_,ns,rfl,rfl,ho,ints_of_wellAll ns _ hall,hlen⟩
theorem post_true(l:OpenLaw)(args:List WData):l.row.toRowW.claim.post args 12#6 args=true:=
 postW_of (r:=l.row.toRowW) (X:=(true==true))
  (show WShape.has [] 12#6 .bool=true by first|rfl|decide|simp[WShape.has,WShape.arms,WShape.armsAll])
  (show (WTm.eq .res (.lit 12#6)).value [] {args:=args,res:=some 12#6,after:=args}=some (.bool (true==true)) from w_eq_bool (w_res rfl) w_lit) rfl
theorem attach_call{l:OpenLaw}{n:Nat}{q:qU}{loose:List Str}{XP:(Str->Option qR)->Heap->Prop}{YP:qV->Heap->Prop}{d:DefRec}(hn:l.most=some n)(hdf:d.params.defaults=[])(call:∀(w:qV) (s₀ s₁:qT) (mg mb:Str->Option qR) (fa:qS) (o:Obj) (pm cd doc:qR) (a:qS) (vs:List qR) (ns:qX),
   Ground q loose [] XP w s₀ mg mb 28#2->YP w 28#2 ->
   s₁.heap.get? fa=some o->13#1=.func (docDef d.name d.params d.body d.scope pm cd doc)->s₁.heap.CodeRec cd d.name->mg d.name=some 22#4 ->
   s₁.heap.get? a=some {cls:=.type "list",data:=.seq 9#0}->IntsAre vs ns->1#4<=n->s₁.gens=#[] ->
   codeAny (model l.prog w) callerA (.call 22#4 ⟨[.ref a],[]⟩) (λr s'=>r=.ok (.ret 12#6)/\OldK s₁.heap 14#2/\s'.os=s₁.os/\AllBare s'.gens) s₁):
  WalkO q loose XP YP l.row.toRowW d [] (λf vs=>PySem.call f vs):=by
 intro w s₀ s₁ mg mb G Y fa o pm cd doc dV kV ho hd hcd hD hmg hg args vals as hpre hlay hrd hwl hlo;obtain rfl:dV=.none:=Dflts.none hD hdf;obtain rfl:kV=.none:=Dflts.noKw hD;obtain⟨a,vs,ns,rfl,rfl,hobj,hints,hlen⟩:=script_of hn hpre hwl;refine enter_call (codeAny_mono (call w s₀ s₁ mg mb fa o pm cd doc a vs ns G Y ho (fd_plain hd) hcd hmg hobj hints hlen hg) λr s' hq=>?_);obtain⟨rfl,h2,h3,h4⟩:=hq;exact⟨.inl ⟨.bool true,.bool true,[],rfl,λ_=>rfl,.bool true,post_true l _,λ_=>⟨List.Pairwise.nil,λ_ hm=>(nomatch hm)⟩⟩,h2,h3,h4⟩
section
variable{prog:qU}{w:qV}{A:Around}{E:qR->qT->Prop}{s:qT}{K:Frag}
end
end Att
namespace L2
open PySem PySem.Spec PyProof.Rows
variable{H H':Hp}{X:Cx}{a:qS}{an od:Option qS}{j8 doc oc:qR}{fd:FuncData}{qual:Str}{xs:List V}
theorem Jm:∀{vs:List qR} {ns:qX},IntsAre vs ns->Ar 1#5 vs:=by
 intro _ _ h
 induction h with
 |nil=>exact .nil
 |cons n t _ ih=>exact .cons ⟨t,rfl⟩ ih
def XM(H:Hp):=∀b,H b=none\/∃o xs,H b=some (.frz o 3#2)
variable{vs:List qR}
theorem Ri{P:qU}{w:qV}{K:qW}{mg mb:Str->Option qR}{CX:RI}{k:Nat}{fa:qS}{fd:FuncData}{x:Str}{sp:Sp}{s₁:qT}{ns:qX}(KX:K.In 28#2)(hns:s₁.heap.Ns mainGlobals mg)(hb:s₁.heap.Ns builtinsNs mb)(hbb:∀x:Str,x≠"__name__"->mb x=bootBuiltins x)(hlim:s₁.heap.NoLimit)(hg:s₁.gens=#[])(ha:s₁.heap.get? a=some {cls:=.type "list",data:=.seq 9#0})(hi:IntsAre vs ns)(hl:1#4<=sizeLine)(hr:B8 k callerA)(F:∀base:Heap,K.In base->base.Ns mainGlobals mg->FC P w K mg base CX k fa fd [x] sp)(hbind:∀(s:qT) (u:qR),BindsTo s fd ⟨[u],[]⟩ [(x,u)])(hsp:∀H:Hp,XM H->Ad K H a 1#5->sp [.ref a] H (λv _=>v=.bl true) λ_ _ _=>False)(hCX:∀H e s',CX [] H s₁ (λ_ _ _=>False) e s'->False):
  codeAny 10#7 callerA (.call 22#4 ⟨[.ref a],[]⟩) (λr s'=>r=.ok (.ret 12#6)/\OldK s₁.heap 14#2/\s'.os=s₁.os/\AllBare s'.gens) s₁:=by
 have rv:=Jm hi;have lenV:=hi.length
 have core:∀H:Hp,XM H->Ad K H a 1#5->Dd P w H 28#2->(∀b,H b≠none->b=a)->(H a≠none->K.lookup a=none) ->
   codeAny 10#7 callerA (.call 22#4 ⟨[.ref a],[]⟩) (λr s'=>r=.ok (.ret 12#6)/\OldK s₁.heap 14#2/\s'.os=s₁.os/\AllBare s'.gens) s₁:=by
  intro H hO hS hok hA hK;have base_of:∀{b:qS} {o:Obj},s₁.heap.get? b=some o->H b=none->(FO s₁.heap H).get? b=some o:=λe n=>K9 e n
  have noA:∀{b:qS} {o:Obj} {es:Array DictEntry} {ep:Nat},s₁.heap.get? b=some o->13#1=.dict es ep->H b=none:=λ{b o es ep} e d=>by
   cases q:H b with
   |none=>rfl
   |some u =>
    have e':b=a:=hA b (by rw[q];simp);subst e';rw[ha]at e;cases e;have d':Data.seq vs.toArray _=Data.dict es ep:=d;cases d'
  have nsK:∀{b:qS} {m:Str->Option qR},s₁.heap.Ns b m->(FO s₁.heap H).Ns b m:=λ{b m} ⟨o,es,ep,e,d,r⟩=>⟨o,es,ep,base_of e (noA e d),d,r⟩
  have hKb:K.In 11#4:=λb o e=>base_of (KX b o e) (by
   cases q:H b with
   |none=>rfl
   |some u =>
    have e':b=a:=hA b (by rw[q];simp);subst e';rw[hK (by rw[q];simp)]at e;cases e)
  have hM:Y7 K mg 11#4:=⟨hKb,nsK hns,⟨mb,nsK hb,hbb⟩,let ⟨mc,h1,h2⟩:=hlim;⟨mc,nsK h1,h2⟩⟩;have e0:QE P w K mg 11#4 callerA [] s₁ H:=⟨rfl,hM,λb o e=>OM e,Nat.le_of_eq (Jf _ _),trivial,λb hb=>qG (show b∈([]:List qS) from hb) 0#3,hok,.of_eq hg⟩;refine codeAny_mono ((F _ hKb (nsK hns)).run callerA [] s₁ H ⟨[.ref a],[]⟩ [.ref a] [.ref a] _ _ hr e0 (hbind s₁ 2#0) 24#9 (hsp H hO hS)) λr s' h=>?_;cases r with
  |error e=>exact (hCX H e s' h).elim
  |ok fl =>
   cases fl with
   |next=>exact False.elim h
   |brk=>exact False.elim h
   |cont=>exact False.elim h
   |ret u =>
    rcases h with⟨v,H',os,bare,un,hok',r',q⟩;have q':v=.bl true:=q;subst q';obtain rfl:u=Value.bool true:=r';refine⟨rfl,OldK.of_keep λb o e=>?_,os,bare⟩;cases q:H b with
    |none=>exact un.keep b o e q (by intro z;exact qG (show b∈([]:List qS) from z) 0#3) 0#3
    |some u =>
     rcases hO b with z|⟨ob,xs,z⟩
     ·rw[q]at z;cases z
     ·have z2:=un.frzs b ob _ z;obtain⟨e1,_⟩:=hok b _ z;obtain⟨e2,_⟩:=hok' b _ z2;rw[e]at e1;cases e1;exact e2
 cases hk:K.lookup a with
 |some o =>
  have e:=KX a o hk;rw[ha]at e;cases e;refine core (λ_=>none) (λ_=>.inl rfl) (.inr ⟨_,9#0,_,hk,rfl,rfl,rfl,by rw[9#9,lenV];exact hl,by simpa using rv⟩) (λb u z=>by have z':(none:Option HO)=some u:=z;cases z') (λb z=>qG rfl z) λz=>qG rfl z
 |none =>
  refine core (λb=>if b=a then some (.frz {cls:=.type "list",data:=.seq 9#0} 18#4) else none) (λb=>?_) (.inl (.inr ⟨{cls:=.type "list",data:=.seq 9#0},qF rfl⟩)) (λb u z=>?_) (λb z=>?_) λ_=>hk
  ·by_cases hb:b=a
   ·exact .inr ⟨_,_,qF hb⟩
   ·exact .inl (qE hb)
  ·by_cases hb:b=a
   ·have z':=(qF hb).symm.trans z;cases z';subst hb;exact⟨ha,by rw[cO];exact hl,vs,_,rv,ha⟩
   ·have z':=(qE hb).symm.trans z;cases z'
  ·by_cases hb:b=a
   ·exact hb
   ·exact qG (qE hb) z
theorem aZ{l:PySem.W.OpenLaw}{n k:Nat}{q:qU}{loose:List Str}{XP:(Str->Option qR)->Heap->Prop}{YP:qV->Heap->Prop}{d:DefRec}{K:Params->qW}{CX:qV->RI}{sp:qV->Sp}{x:Str}(hn:l.most=some n)(hn2:n<=sizeLine)(hdf:d.params.defaults=[])(hr:B8 k callerA)(hY:∀(w:qV) (h:Heap),YP w h->(K 19#5).In h)(F:∀(w:qV) (mg:Str->Option qR) (fa:qS) (h:Heap),(K 19#5).In h->h.Ns mainGlobals mg->mg d.name=some 22#4 ->
   ∃fd:FuncData,(∀(s:qT) (u:qR),BindsTo s fd ⟨[u],[]⟩ [(x,u)]) /\
    ∀base:Heap,(K 19#5).In base->base.Ns mainGlobals mg->FC l.prog w (K 19#5) mg base (CX w) k fa fd [x] (sp w))(hsp:∀(w:qV) (H:Hp) (a:qS) (ns:qX),1#4<=n->XM H->Ad (K 19#5) H a 1#5->sp w [.ref a] H (λv _=>v=.bl true) λ_ _ _=>False)(hCX:∀(w:qV) (H:Hp) (s:qT) (e:qR) (s':qT),CX w [] H s (λ_ _ _=>False) e s'->False):
  PySem.W.WalkO q loose XP YP l.row.toRowW d [] (λf vs=>PySem.call f vs):=by
 refine Att.attach_call hn hdf λw s₀ s₁ mg mb fa o pm cd doc a vs ns G Y ho hd hcd hmg hobj hints hlen hg=>?_;have KX:=hY w _ Y;obtain⟨fd,hb,hF⟩:=F w mg fa _ KX G.T.g hmg;exact Ri KX G.T.g G.T.b G.T.builtins G.T.nolimit hg hobj hints (dO hlen hn2) hr hF hb (λH hO hS=>hsp w H a ns hlen hO hS) λH e s'=>hCX w H s₁ e s'
def DH(s:Stmt):Arguments:=match s with
 |.FunctionDef _ a _ _ _ _ _ _ _ _=>a
 |_=>{posonlyargs:=[],args:=[],vararg:=none,kwonlyargs:=[],kw_defaults:=[],kwarg:=none,defaults:=[]}
def Bi(s:Stmt):List Stmt:=match s with
 |.FunctionDef _ _ b _ _ _ _ _ _ _=>b
 |_=>[]
def AH(s:Stmt):Scope:=match s with
 |.FunctionDef _ _ _ _ _ _ sc _ _ _=>sc
 |_=>{kind:=.function,names:=[],isGenerator:=false,isCoroutine:=false}
abbrev E0:XK:=λ_ _ _=>False
structure M9(K:qW)(x qual:Str)(st:Stmt)(f:qS)(fd:FuncData):Prop where
 ex:∃(oc:qR) (od:Option qS) (kV doc pm:qR) (an:Option qS) (j8 ct:qR) (osl:Array 25#5),
  fd=PySem.W.fnOf x qual (DH st) 20#4 8#4 .none kV doc pm an j8 ct/\K.lookup f=some ⟨oc,od,.func fd,osl⟩/\PySem.W.codeIn K j8 qual=true
 kp:PySem.W.keepIn K 6#1=true
variable{osl:Array (Option qR)}
section
variable{P:qU}{w:qV}{K:qW}{mg:Str->Option qR}{base:Heap}
theorem M9.binds{x:Str}{st:Stmt}{f:qS}{ps:List Str}(F:M9 K x qual st f fd)(h:∀(kV doc pm:qR) (an:Option qS) (j8 ct:qR) (us:List qR),10#2=5#5->bindArgs (PySem.W.fnOf x qual (DH st) 20#4 8#4 .none kV doc pm an j8 ct) ⟨us,[]⟩=pure 25#3):Ff K fd ps []:=by
 rcases F.ex with⟨oc,od,kV,doc,pm,an,j8,ct,osl,rfl,lk,hcd⟩;exact .all (h kV doc pm an j8 ct)
theorem XN{x:Str}{st:Stmt}{f:qS}{kV pm ct:qR}(l:K.lookup f=some ⟨oc,od,.func (PySem.W.fnOf x qual (DH st) 20#4 8#4 .none kV doc pm an j8 ct),osl⟩)(c:PySem.W.codeIn K j8 qual=true)(k:PySem.W.keepIn K 6#1=true):M9 K x qual st f (PySem.W.fnOf x qual (DH st) 20#4 8#4 .none kV doc pm an j8 ct):=⟨⟨oc,od,kV,doc,pm,an,j8,ct,osl,rfl,l,c⟩,k⟩
end
theorem CD{A:Around}{k:Nat}(hr:B8 k A):17#6+1<cLine:=Nat.lt_of_le_of_lt (Nat.add_le_add_left (by decide:1<=64) _) hr.units
theorem AX{n:Nat}(h:n<=1000):n<sizeLine:=Nat.lt_of_le_of_lt h 0#1
theorem pv(i:Nat){x:Str}{pos:Pos}(hN:X.N[i]?=some x:=by rfl)(hv:Y8 X.env.scope x:=by first|exact Or.inl rfl|exact Or.inr 4#6|exact Or.inr 27#2)(hd:(x==("__debug__":Str))=false:=by decide)(hcd:(x==("__classdict__":Str))=false:=by decide):PE X 9#4 (RN i):=RO hN hv hd hcd
theorem Rj{A B:Prop}(h:B):if false=true then A else B:=by rw[qE dB];exact h
theorem Uo{A B:Prop}(h:A):if true=true then A else B:=by rw[qF rfl];exact h
def AF(H H':Hp):=∀b o,H b=some o->H' b=some o
theorem AF.refl(H:Hp):AF H H:=λ_ _ h=>h
variable{H1 H2:Hp}
theorem AF.trans(a:AF H H1)(b:AF H1 H2):AF H H2:=λc o h=>b c o (a c o h)
theorem AF.free(e:AF H H'){l:qS}(h:H' l=Option.none):H l=Option.none:=by
 cases q:H l with
 |none=>rfl
 |some o =>
  rw[e l o q]at h;cases h
theorem AF.seq{K:qW}(e:AF H H')(h:Ad K H a xs):Ad K H' a xs:=by
 rcases h with (h|⟨o,h⟩)|h
 ·exact .inl (.inl (e _ _ h))
 ·exact .inl (.inr ⟨o,e _ _ h⟩)
 ·exact .inr h
end L2
set_option maxHeartbeats 4000000
set_option compiler.extract_closed false
set_option genSizeOfSpec false
namespace L2
open PySem PySem.Spec PyProof.Rows
variable{C a p:qS}{CX:RI}{D:GC}{E:qR->qT->Prop}{H H':Hp}{X:Cx}{an od:Option qS}{j8 doc oc u:qR}{ch:List qS}{fd:FuncData}{h:Heap}{i t':Nat}{name qual:Str}{o:Obj}{osl:Array (Option qR)}{ad:List (qS×Obj)}{s s':qT}{scope:Scope}{ta:TA}{tg:Expr}{xs:List V}{α β:Type}{σ:St}
noncomputable def Ec(o:Obj):Option qR:=match 13#1 with
 |.fields vs=>vs[2]?
 |_=>none
def DK(h h':Heap):Prop:=14#5<=11#2/\∀(b:Nat) (o o':Obj),h.objs[b]?=some o->h'.objs[b]?=some o'->o'.dict=o.dict/\Ec o'=Ec o
theorem DK.refl(h:Heap):DK h h:=⟨cU _,λb o o' e e'=>by rw[e]at e';cases e';exact⟨rfl,rfl⟩⟩
variable{h1:Heap}
theorem DK.trans{h2 h3:Heap}(x:DK h1 h2)(y:DK h2 h3):DK h1 h3:=⟨dO x.1 y.1,λb o o' e e'=>by obtain⟨hb,_⟩:=eO.mp e;have q:h2.objs[b]?=some (h2.objs[b]'(cu hb x.1)):=hV (cu hb x.1);exact⟨(y.2 b _ o' q e').1.trans (x.2 b o _ e q).1,(y.2 b _ o' q e').2.trans (x.2 b o _ e q).2⟩⟩
theorem Rk(e:h.get? a=some o):h.objs[a]?=some o:=by
 unfold Heap.get? at e
 split at e
 ·cases e
 ·exact e
variable{h':Heap}
theorem DK.get{o':Obj}(x:DK h h')(e:h.get? a=some o)(e':h'.get? a=some o'):o'.dict=o.dict/\Ec o'=Ec o:=x.2 a o o' (Rk e) (Rk e')
theorem DK.push(h:Heap)(o:Obj):DK h (h.push o):=by
 refine⟨?_,λb u u' e e'=>?_⟩
 ·rw[eS];exact iY _
 ·have hb:=(eO.mp e).1;have q:(h.push o).objs[b]?=h.objs[b]?:=by show (h.objs.push o)[b]?=_;rw[Array.getElem?_push_lt hb,hV hb]
  rw[q,e]at e';cases e';exact⟨rfl,rfl⟩
theorem DK.update(h:Heap)(a:qS){f:Obj->Obj}(k:∀o,(f o).dict=o.dict/\Ec (f o)=Ec o):DK h (h.update a f):=by
 have q:(h.update a f).objs=h.objs.modify a f:=rfl;refine⟨by rw[q,Array.size_modify];exact cU _,λb u u' e e'=>?_⟩;rw[q,Array.getElem?_modify]at e'
 split at e'
 ·rw[e]at e';cases e';exact k u
 ·rw[e]at e';cases e';exact⟨rfl,rfl⟩
noncomputable def KT{α:Type}:Sem α->Prop
 |.rule _ k=>∀u,KT (k u)
 |.at _ k=>∀u,KT (k u)
 |.load _ _ k=>∀u,KT (k u)
 |.update _ _ f k=>(∀o,(f o).dict=o.dict/\Ec (f o)=Ec o)/\∀u,KT (k u)
 |.loadIfAlive _ k=>∀u,KT (k u)
 |.point _ k=>∀u,KT (k u)
 |.alloc _ k=>∀u,KT (k u)
 |.fresh k=>∀u,KT (k u)
 |.ask k=>∀u,KT (k u)
 |.handled _ k=>∀u,KT (k u)
 |.stack k=>∀u,KT (k u)
 |.thread k=>∀u,KT (k u)
 |.pure _=>True
 |.raise _=>True
 |.unsupported _=>True
 |.finish _=>True
 |_=>False
theorem KT.keep{M:Model}{Γ:PySem.Ctx}:∀(t:Sem α),KT t->∀(Q:α->Pos->qT->Prop) (E:qR->Pos->qT->Prop) (p:Pos) (s:qT),Sem.wp M Γ t Q E p s ->
  Sem.wp M Γ t (λa p' s'=>Q a p' s'/\DK s.heap 14#2) (λe p' s'=>E e p' s'/\DK s.heap 14#2) p s:=by
 intro t
 induction t with
 |pure x=>exact λ_ Q E p s h=>⟨h,DK.refl _⟩
 |raise v=>exact λ_ Q E p s h=>⟨h,DK.refl _⟩
 |unsupported|finish=>exact λ_ Q E p s h=>h
 |yield|fork|await|register|choose|os|call|genState|newGen|resume=>exact λk=>k.elim
 |rule _ k ih|«at» _ k ih|point _ k ih|loadIfAlive _ k ih|fresh k ih|ask k ih|handled _ k ih|stack k ih|thread k ih=>exact λz Q E p s h=>ih _ (z _) Q E _ _ h
 |alloc o k ih=>exact λz Q E p s h=>Sem.wp_mono _ _ _ (λa p' s' q=>⟨q.1,(DK.push _ _).trans q.2⟩) (λa p' s' q=>⟨q.1,(DK.push _ _).trans q.2⟩) _ _ (ih _ (z _) Q E _ _ h)
 |load a _ k ih=>exact λz Q E p s ⟨o,ho,h⟩=>⟨o,ho,ih _ (z _) Q E _ _ h⟩
 |update a _ f k ih=>exact λz Q E p s ⟨ha,h⟩=>⟨ha,Sem.wp_mono _ _ _ (λa p' s' q=>⟨q.1,(DK.update _ _ z.1).trans q.2⟩) (λa p' s' q=>⟨q.1,(DK.update _ _ z.1).trans q.2⟩) _ _ (ih _ (z.2 _) Q E _ _ h)⟩
theorem KT.run{M:Model}{A:Around}{t:Sem α}{Q:α->qT->Prop}(k:KT t)(h:wpAny M A t Q E s):
  wpAny M A t (λa s'=>Q a s'/\DK s.heap 14#2) (λe s'=>E e s'/\DK s.heap 14#2) s:=λΓ p hΓ=>KT.keep t k _ _ p s (h Γ p hΓ)
theorem KT.bind{m:Sem α}{f:α->Sem β}(a:KT m)(b:∀x,KT (f x)):KT (m >>= f):=by
 show KT (m.bind f)
 induction m with
 |pure x=>exact b x
 |raise v=>exact a
 |unsupported|finish=>exact a
 |yield|fork|await|register|choose|os|call|genState|newGen|resume=>exact a.elim
 |rule _ k ih|«at» _ k ih|point _ k ih|loadIfAlive _ k ih|fresh k ih|ask k ih|handled _ k ih|stack k ih|thread k ih|alloc _ k ih|load _ _ k ih=>exact λu=>ih u (a u)
 |update _ _ f' k ih=>exact⟨a.1,λu=>ih u (a.2 u)⟩
theorem KT.pure(x:α):KT (Pure.pure x:Sem α):=trivial
theorem KT.ite{c:Prop}[Decidable c]{a b:Sem α}(x:KT a)(y:KT b):KT (if c then a else b):=by split<;>assumption
theorem FI(x:String):KT (PySem.unsupported x:Sem α):=trivial
theorem KY(a:qS):KT (PySem.load a):=λ_=>trivial
theorem LJ(v:qR):KT (fieldsOf v):=by
 unfold fieldsOf;split
 ·refine KT.bind (KY _) λo=>?_;split
  ·exact KT.pure _
  ·exact FI _
 ·exact FI _
theorem Fi(v:qR)(i:Nat):KT (field v i):=by
 unfold field;refine KT.bind (LJ v) λo=>?_;split
 ·exact KT.pure _
 ·exact FI _
theorem Ed(v x:qR)(i:Nat)(hi:i≠2):KT (setField v i x):=by
 unfold setField;split
 ·unfold updateField;refine KT.bind (KY _) λo=>?_;split
  ·refine KT.ite ⟨λo=>?_,λ_=>trivial⟩ (FI _);obtain⟨c,d,dt,sl⟩:=o;cases dt with
   |fields vs=>exact⟨rfl,Array.getElem?_setIfInBounds_ne hi⟩
   |_=>exact⟨rfl,rfl⟩
  ·exact FI _
 ·exact FI _
theorem D3(e:qR)(f:Option qS):KT (setFlight e f):=by unfold setFlight;refine KT.bind (Fi _ _) λtb=>?_;exact KT.ite (Ed _ _ _ 0#1) (KT.pure _)
theorem IB:KT PySem.stack:=λ_=>trivial
theorem LK:∀l:List Env,KT (readyFrames l)
 |[]=>trivial
 |env::outer=>by
  unfold readyFrames;split
  ·refine KT.bind (KY _) λo=>KT.ite (KT.pure _) ?_
   refine KT.bind ?_ λi=>KT.bind ?_ λback=>KT.bind ⟨λo=>⟨rfl,rfl⟩,λ_=>trivial⟩ λ_=>LK outer
   ·unfold behindIsImport;exact KT.ite (KT.pure _) (KT.ite (KT.pure _) (KT.bind (Fi _ _) λ_=>KT.pure _))
   ·unfold keptBack;split
    ·refine KT.ite (KT.pure _) (KT.bind ?_ λ_=>KT.pure _);unfold underTheClaimsCaller;exact KT.bind IB λ_=>KT.pure _
    ·exact KT.pure _
  ·exact FI _
theorem NM(env:Env):KT (PySem.frameOf env):=by
 unfold PySem.frameOf frameEnvs;refine KT.bind (KT.bind IB λ_=>KT.pure _) λl=>KT.bind ?_ λr=>?_
 ·unfold frameObject;split
  ·exact KT.pure _
  ·exact KT.bind (LK _) λ_=>KT.pure _
 ·split
  ·exact KT.pure _
  ·exact FI _
theorem KZ(ty:String)(vs:List qR):KT (newFields ty vs):=by
 unfold newFields newObj;dsimp only;split
 ·exact FI _
 ·exact λ_=>trivial
theorem Rm(f:qS)(b:Bool):KT (entryPlaceOf f b):=by
 unfold entryPlaceOf;refine KT.bind IB λ_=>?_
 split<;>exact KT.pure _
theorem OX(e:qR)(env:Env):KT (noteFrame e env):=by
 have last:∀h:qR,∀f:qS,KT (do setField e 1 (<-EntryCells.newEntry h (<-PySem.frameOf env) .none (rawInt f) .none (<-entryPlaceOf f (h != .none)))):=λh f =>
  KT.bind (NM env) λ_=>KT.bind (Rm _ _) λ_=>KT.bind (KZ _ _) λ_=>Ed _ _ _ 0#1
 unfold noteFrame;split
 ·refine KT.bind (Fi _ _) λh=>?_;split
  ·refine KT.bind (Fi _ _) λx=>KT.ite (KT.pure _) (KT.bind (Ed _ _ _ 0#1) λ_=>last h _)
  ·exact last h _
 ·exact FI _
theorem IC(e:qR)(env:Env):KT (leaving env e):=by unfold leaving;exact KT.bind (OX _ _) λ_=>D3 _ _
structure Up(nc:Bool)(P:qU)(w:qV)(outer:List Env)(H:Hp)(s:qT)(a:qS)(cls a0:qR)(D:Option qS)(B:Heap)(H':Hp)(s':qT):Prop where
 os:s'.os=s.os
 bare:AllBare s'.gens
 un:Un (ER outer) [] H H' s.heap 14#2
 hok:Dd P w H' 14#2
 fly:Heap.FlyingW B outer a cls a0 14#2
 old:∀b o,s.heap.get? b=some o->b∉ER outer->∀o',s'.heap.get? b=some o'->B.get? b=some o'
 trk:∀b u,H' b=some u->∀o',s'.heap.get? b=some o'->B.get? b=some o'
 dct:∃oe,s'.heap.get? a=some oe/\oe.dict=D
 ctx:nc=true->∃oe,s'.heap.get? a=some oe/\Ec oe=some .none
def RJ(nc:Bool)(P:qU)(w:qV):RI:=λouter H s E e s'=>∃a cls a0 D B H',e=.ref a/\Up nc P w outer H s a cls a0 D B H' s'/\E cls D H'
abbrev JU(P:qU)(w:qV):RI:=RJ false P w
theorem Aj.somewhere{P:qU}{w:qV}{o:HO}(x:Aj P w H h a o):∃ob,h.get? a=some ob:=by
 cases o with
 |lst xs=>obtain⟨_,_,_,_,e⟩:=x;exact⟨_,e⟩
 |tup xs=>obtain⟨_,_,_,ob,e,_⟩:=x;exact⟨ob,e⟩
 |dK kvs=>obtain⟨_,_,_,_,ob,_,_,e,_⟩:=x;exact⟨ob,e⟩
 |dT kvs=>obtain⟨_,_,_,_,ob,_,_,e,_⟩:=x;exact⟨ob,e⟩
 |set S n=>obtain⟨ob,_,_,_,e,_⟩:=x;exact⟨ob,e⟩
 |ins C dx fs=>obtain⟨_,_,_,e,_⟩:=x;exact⟨_,e⟩
 |own y=>exact x
 |xd fs=>obtain⟨_,⟨ob,_,_,e,_⟩,_⟩:=x;exact⟨ob,e⟩
 |rng lo hi=>obtain⟨_,_,_,e⟩:=x;exact⟨_,e⟩
 |frz ob u=>obtain⟨e,_⟩:=x;exact⟨ob,e⟩
 |tbl ps=>exact⟨_,(show h.get? a=some _ from x)⟩
 |met f y=>exact⟨_,(show h.get? a=some _ from x)⟩
 |ext φ=>obtain⟨_,e,_⟩:=x;exact e
variable{nc:Bool}{a0:qR}
theorem AT.slotted(I:AT X ad σ H s)(k:∀b o,s.heap.get? b=some o->b∉ER 8#0->h'.get? b=some o)(f:∀b o,s.heap.get? b=some o->b∈ER 8#0->∃sl,h'.get? b=some {o with slots:=sl}):AT X ad σ H {s with heap:=h',toks:=t'}:=by
 have u:Un 24#1 [] H H s.heap h':=⟨λb o e _ hb _=>k b o e hb,λb o e _ hb _=>f b o e hb,λ_ _ _ n _=>n,λb o e _=>by
  by_cases hb:b∈ER X.stack
  ·obtain⟨sl,q⟩:=f b o e hb;exact⟨_,q⟩
  ·exact⟨o,k b o e hb⟩,λ_ _ q=>q,λ_ _ _ q=>q,λb ps q=>⟨#[],by rw[q];simp⟩⟩
 have hok:Dd X.prog X.w H h':=λb u q=>(I.hok b u q).stay (λc v hc r=>k c v r λhm=>by
  have z:=I.stkFree c hm;rcases hc with e|e
  ·rw[e,q]at z;cases z
  ·rw[e]at z;cases z) (λ_ q=>q) λ_ _ q=>q
 exact I.call (g':=s.gens) (d':=s.drawn) (ch:=[]) u hok I.bare (λb z=>qG z 0#3)
theorem AT.frameData(I:AT X ad σ H s){b:qS}(e:s.heap.get? b=some o)(hb:b∈ER 8#0):∀vs,13#1≠.fields vs:=by obtain⟨_,o',e',nf⟩:=I.stack.mem hb;rw[e]at e';cases e';exact nf
theorem Up.fresh{cls:qR}{D:Option qS}{B:Heap}(F:Up nc X.prog X.w X.stack H s a cls a0 D B H' s'):H' a=none/\s.heap.get? a=none:=by
 have hB:=F.fly.2.1;obtain⟨oe,vs,he,_,hd,_⟩:=F.fly.first;refine⟨?_,?_⟩
 ·cases q:H' a with
  |none=>rfl
  |some u =>
   have z:=F.trk a u q oe he;rw[hB]at z;cases z
 ·cases q:s.heap.get? a with
  |none=>rfl
  |some o =>
   by_cases hm:a∈ER X.stack
   ·obtain⟨_,o',e',nf⟩:=F.fly.2.2.1.mem hm;rw[he]at e';cases e';exact qG hd (nf vs)
   ·have z:=F.old a o q hm oe he;rw[hB]at z;cases z
theorem Up.unAt{cls:qR}{D:Option qS}{B:Heap}(I:AT X ad σ H s)(F:Up nc X.prog X.w X.stack H s a cls a0 D B H' s')(hB:B.StaysIn h')(sm:s'.heap.UpToSlots h'):
  Un 24#1 [] H H' s.heap h'/\Dd X.prog X.w H' h':=by
 have up:∀b o,s.heap.get? b=some o->b∈ER 8#0->∃sl,h'.get? b=some {o with slots:=sl}:=λb o e hb=>by obtain⟨sl,e1⟩:=F.un.slot b o e (I.stkFree b hb) hb 0#3;obtain⟨sl',e2⟩:=sm b _ e1 (show ∀vs,13#1≠.fields vs from I.frameData e hb);exact⟨sl',e2⟩
 refine⟨⟨λb o e n hb hx=>hB b o (F.old b o e hb o (F.un.keep b o e n hb hx)),λb o e _ hb _=>up b o e hb,F.un.free,λb o e hx=>?_,F.un.tups,F.un.frzs,F.un.tbls⟩,λb u q=>?_⟩
 ·by_cases hb:b∈ER X.stack
  ·obtain⟨sl,q⟩:=up b o e hb;exact⟨_,q⟩
  ·obtain⟨o',e1⟩:=F.un.there b o e hx;exact⟨o',hB b o' (F.old b o e hb o' e1)⟩
 ·refine (F.hok b u q).stay (λc v hc r=>?_) (λ_ q=>q) λ_ _ q=>q
  rcases hc with e|e
  ·subst e;exact hB c v (F.trk c u q v r)
  ·exact hB c v (F.trk c _ e v r)
theorem Up.land{cls:qR}{D:Option qS}{B:Heap}(I:AT X ad σ H s)(F:Up nc X.prog X.w X.stack H s a cls a0 D B H' s')(hB:B.StaysIn h')(sm:s'.heap.UpToSlots h'):AT X ad σ H' {s' with heap:=h',toks:=t'}:=by obtain⟨u,hok⟩:=F.unAt I hB sm;exact I.call' (s':={s' with heap:=h',toks:=t'}) (ch:=[]) F.os u hok F.bare (λb z=>qG z 0#3)
def Gi(a:qS)(cls:qR)(D:Option qS)(n:Bool)(h:Heap):=∃o vs,h.get? a=some o/\o.cls=cls/\13#1=.fields vs/\o.dict=D/\(n=true->∃t:qS,vs=#[.ref t,.none,.none,.none,.bool false,.none])
noncomputable def aa(a:qS)(cls:qR)(D:Option qS)(n:Bool):HO:=.ext (Gi a cls D n)
theorem Up.land'{cls:qR}{D:Option qS}{B:Heap}{l:List Env}(I:AT X ad σ H s)(F:Up nc X.prog X.w X.stack H s a cls a0 D B H' s')(fl:Heap.FlyingW B l a cls a0 h')(sm:s'.heap.UpToSlots h')(dk:DK s'.heap h'):
  AT X ad σ (AU H' a (aa a cls D false)) {s' with heap:=h',toks:=t'}:=by
 obtain⟨u,hok⟩:=F.unAt I fl.1 sm;obtain⟨n1,n2⟩:=F.fresh;rcases fl.first with⟨oe,vs,he,hc,hd,_⟩;have ne:∀b o,s.heap.get? b=some o->b≠a:=λb o e z=>by rw[z,n2]at e;cases e
 have ne2:∀b o,H' b=some o->b≠a:=λb o e z=>by rw[z,n1]at e;cases e
 refine I.call' (s':={s' with heap:=h',toks:=t'}) (ch:=[]) F.os ⟨u.keep,u.slot,λb o e n hx=>?_,u.there,λb xs q=>?_,λb o v q=>?_,λb ps q=>?_⟩ (λb v q=>?_) F.bare (λb z=>qG z 0#3)
 ·rw[AI (ne b o e)];exact u.free b o e n hx
 ·have q':=u.tups b xs q;rw[AI (ne2 b _ q')];exact q'
 ·have q':=u.frzs b o v q;rw[AI (ne2 b _ q')];exact q'
 ·obtain⟨more,q'⟩:=u.tbls b ps q;exact⟨more,by rw[AI (ne2 b _ q')];exact q'⟩
 ·by_cases hb:b=a
  ·subst hb;rw[AD]at q;cases q;obtain⟨ow,hw,hwd⟩:=F.dct;exact⟨⟨oe,vs,he,hc,hd,(dk.get hw he).1.trans hwd,λz=>by cases z⟩,⟨oe,he⟩,λh1 h2 ⟨o,ws,e,r⟩ k=>⟨o,ws,k o e,r⟩⟩
  ·rw[AI hb]at q;exact (hok b v q).stay (λc v' _ r=>r) (λc z=>by rw[AI (ne2 c _ z)];exact z) λc xs z=>by rw[AI (ne2 c _ z)];exact z
def Rn(X:Cx)(C:qR)(E:XK):Prop:=
 ∀(ad:List (qS×Obj)) (σ:St) (H:Hp) (s:qT) (h':Heap) (e:qS) (args:List qR),AT X ad σ H s->Heap.MadeExcOf s.heap h' e C args->E C none H->X.xe 11#5 {s with heap:=h'}
def Fj(CX:RI)(X:Cx)(E:St->XK):=∀(ad:List (qS×Obj)) (σ:St) (H:Hp) (s:qT) (e:qR) (s':qT),AT X ad σ H s->CX X.stack H s (E σ) e s'->X.xe e s'
section
variable{P:qU}{w:qV}{K:qW}{mg:Str->Option qR}{base:Heap}{N:List Str}{f:qS}{cd:qR}{A:Around}{outer:List Env}{E:XK}
theorem Gj{C:qR}:Rn 20#2 C E:=by
 intro ad σ H1 s1 h1 e args I hx hE;generalize hX:ES 20#1 P w K mg base N qual scope f cd A outer s H E=X at I⊢;have hst:8#0=1#6::19#9:=by rw[<-hX];rfl
 have hfr:X.env.frame=some 2#9:=by rw[<-hX];rfl
 have hxe:X.xe=λe s'=>wpAny 10#7 X.A (leaving X.env e) (λ_ s''=>RJ nc P w X.outer X.H₀ X.s₀ E e s'') (λe' s''=>RJ nc P w X.outer X.H₀ X.s₀ E e' s'') s':=by rw[<-hX];rfl
 have hex:X.ex=[]:=by rw[<-hX];rfl
 have hp:27#0=P:=by rw[<-hX];rfl
 have hw:X.w=w:=by rw[<-hX];rfl
 subst hp hw;rw[hxe];have fr:=I.stack;have hin:∀env∈8#0,∀b,env.frame=some b->b∈ER 8#0:=λenv he b hb=>gO.mpr ⟨env,he,hb⟩
 have fr':s1.heap.FunFrames (PySem.W.hideAll s1.heap 24#1) (1#6::19#9):=by rw[<-hst];exact PySem.W.funFrames_hide fr hin
 refine qN (KT.run (IC _ _) (wpAny_leaves_madeW (Q:=λ_ s2=>∃h2 t,s2={s1 with heap:=h2}/\Heap.FlyingW (PySem.W.hideAll s1.heap 24#1) X.outer e C (.ref t) h2/\h1.UpToSlots h2) (E:=λ_ _=>False) (base:=PySem.W.hideAll s1.heap 24#1) (h:=s1.heap) (L:=2#9) (by rw[<-hst];exact I.ok.frames) hfr (λb o q=>PySem.W.of_hideAll _ q) fr' hx λh2 t x1 x2 x3 x4=>⟨h2,t,rfl,x1,x4⟩)) (λ_ s2 q=>?_) λ_ _ q=>q.1.elim
 obtain⟨⟨h2,t,rfl,x1,x4⟩,dk⟩:=q;have kept:∀b o,s1.heap.get? b=some o->b∉ER 8#0->h2.get? b=some o:=λb o q hb=>x1.1 b o (iG _ q hb)
 have J:AT X ad σ H1 {s1 with heap:=h2,toks:=23#3}:=I.slotted kept λb o q hb=>x4 b o (hx.keeps b o q) (I.frameData q hb)
 have un:Un (ER 19#9) [] X.H₀ H1 X.s₀.heap h2:=by have z:=J.base;rw[hex]at z;exact z
 have hdc:∃oe,h2.get? e=some oe/\oe.dict=none:=by obtain⟨ob,hob,_⟩:=x1.there;obtain⟨t',he,_,_⟩:=hx.there;exact⟨ob,hob,(dk.get he hob).1.trans rfl⟩
 have hcx:∃oe,h2.get? e=some oe/\Ec oe=some .none:=by obtain⟨ob,hob,_⟩:=x1.there;obtain⟨t',he,_,_⟩:=hx.there;exact⟨ob,hob,(dk.get he hob).2.trans rfl⟩
 refine⟨e,C,.ref t,none,_,H1,rfl,⟨J.os,J.bare,un,J.hok,x1,λb o q hb o' q'=>?_,λb u q o' q'=>?_,hdc,λ_=>hcx⟩,hE⟩
 ·obtain⟨o1,q1⟩:=I.base.there b o q (by rw[hex];simp)
  have hn:b∉ER 8#0:=λz=>by
   rcases dA.mp (I.stkSub b z) with y|y
   ·exact qG (cu (cg q) 15#1) (by rw[y];exact dM _)
   ·exact hb y
  have q2:=kept b o1 q1 hn;rw[q']at q2;cases q2;exact iG _ q1 hn
 ·have hn:b∉ER 8#0:=λz=>by
   have y:=I.stkFree b z;rw[q]at y;cases y
  obtain⟨o1,r⟩:=(I.hok b u q).somewhere;have q2:=kept b o1 r hn;rw[q']at q2;cases q2;exact iG _ r hn
theorem BJ:Fj 20#1 20#2 (λ_=>E):=by
 intro ad σ H1 s1 e s2 I h;generalize hX:ES 20#1 P w K mg base N qual scope f cd A outer s H E=X at I h⊢;have hst:8#0=1#6::19#9:=by rw[<-hX];rfl
 have hfr:X.env.frame=some 2#9:=by rw[<-hX];rfl
 have hxe:X.xe=λe s'=>wpAny 10#7 X.A (leaving X.env e) (λ_ s''=>RJ nc P w X.outer X.H₀ X.s₀ E e s'') (λe' s''=>RJ nc P w X.outer X.H₀ X.s₀ E e' s'') s':=by rw[<-hX];rfl
 have hex:X.ex=[]:=by rw[<-hX];rfl
 have hp:27#0=P:=by rw[<-hX];rfl
 have hw:X.w=w:=by rw[<-hX];rfl
 subst hp hw;rw[hxe];rcases h with⟨a,cls,a0,D,B,H',rfl,F,hE⟩;have fl:Heap.FlyingW B (1#6::19#9) a cls a0 s2.heap:=by rw[<-hst];exact F.fly
 refine qN (KT.run (IC _ _) (wpAny_leaves_onW (Q:=λ_ s3=>∃h3,s3={s2 with heap:=h3}/\Heap.FlyingW B X.outer a cls a0 h3/\s2.heap.UpToSlots h3) (E:=λ_ _=>False) (by rw[<-hst];exact I.ok.frames) hfr fl λh3 x1 x2=>⟨h3,rfl,x1,x2⟩)) (λ_ s3 q=>?_) λ_ _ q=>q.1.elim
 rcases q with⟨⟨h3,rfl,x1,x2⟩,dk⟩;have J:AT X ad σ H' {s2 with heap:=h3,toks:=s2.toks}:=F.land I x1.1 x2;have un:Un (ER 19#9) [] X.H₀ H' X.s₀.heap h3:=by have z:=J.base;rw[hex]at z;exact z
 have hdc:∃oe,h3.get? a=some oe/\oe.dict=D:=by obtain⟨ob,hob,_⟩:=x1.there;obtain⟨ow,hw,hwd⟩:=F.dct;exact⟨ob,hob,(dk.get hw hob).1.trans hwd⟩
 have hcx:nc=true->∃oe,h3.get? a=some oe/\Ec oe=some .none:=λhnc=>by obtain⟨ob,hob,_⟩:=x1.there;obtain⟨ow,hw,hwd⟩:=F.ctx hnc;exact⟨ob,hob,(dk.get hw hob).2.trans hwd⟩
 refine⟨a,cls,a0,D,B,H',rfl,⟨J.os,J.bare,un,J.hok,x1,λb o q hb o' q'=>?_,λb u q o' q'=>?_,hdc,hcx⟩,hE⟩
 ·obtain⟨o1,q1⟩:=I.base.there b o q (by rw[hex];simp)
  have hn:b∉ER 8#0:=λz=>by
   rcases dA.mp (I.stkSub b z) with y|y
   ·exact qG (cu (cg q) 15#1) (by rw[y];exact dM _)
   ·exact hb y
  obtain⟨o2,q2⟩:=F.un.there b o1 q1 0#3;have q3:=F.old b o1 q1 hn o2 q2;have q4:=x1.1 b o2 q3;rw[q']at q4;cases q4;exact q3
 ·obtain⟨o2,q2⟩:=(F.hok b u q).somewhere;have q3:=F.trk b u q o2 q2;have q4:=x1.1 b o2 q3;rw[q']at q4;cases q4;exact q3
end
abbrev XO:List qR:=[.type "ValueError",.type "Exception",.type "BaseException",.type "object"]
theorem Ro{p:Prop}(h:false=true):p:=nomatch h
theorem Uq{F:qS->List qR->Option qR->Option qR->Option qR->Option qR->String->Option qR->Bool}{G:Prop}:∀{m:List qR} {l:List 25#5},(∀C' bm k0 k1 k2 k3 n k5,m=.ref C'::bm->l=[k0,k1,k2,k3,some (.builtin n),k5]->F C' bm k0 k1 k2 k3 n k5=true->G)->PySem.W.excIn.match_1 (λ_ _=>Bool) m l F (λ_ _=>false)=true->G:=by
 intro m l hG q;rcases m with _|⟨v,bm⟩
 ·exact Ro q
 cases v
 case ref C2 =>
  rcases l with _|⟨k0,_|⟨k1,_|⟨k2,_|⟨k3,_|⟨k4,l⟩⟩⟩⟩⟩
  iterate 5 exact Ro q
  rcases k4 with _|k4
  ·exact Ro q
  cases k4
  case builtin n =>
   rcases l with _|⟨k5,_|_⟩
   ·exact Ro q
   ·exact hG _ _ _ _ _ _ _ _ rfl rfl q
   ·exact Ro q
  all_goals exact Ro q
 all_goals exact Ro q
theorem Ur{F:Option qS->ClassData->Array 25#5->Bool}{G:Prop}{o:Option Obj}(hG:∀dd cd sl,o=some ⟨.type "type",dd,.cls cd,sl⟩->F dd cd sl=true->G)(q:PySem.W.excIn.match_6 (λ_=>Bool) o F (λ_=>false)=true):G:=by
 rcases o with _|⟨cls,dd,data,sl⟩
 ·exact Ro q
 cases cls
 case type s =>
  by_cases hs:s="type"
  ·subst hs;cases data
   case cls cd=>exact hG _ _ _ rfl q
   all_goals exact Ro q
  ·delta PySem.W.excIn.match_6 PySem.W.nsOkIn._sparseCasesOn_4 PySem.W.excIn._sparseCasesOn_6 at q
   dsimp only at q;rw[dif_neg hs]at q;exact Ro q
 all_goals exact Ro q
theorem Us{K:qW}{newId:String}{bmB:List qR}(kin:K.In h)(q:PySem.W.excIn K C bmB newId=true):
  ∃tl N nm qn bs dy sn sub ab col dd k0 k1 k2 k3 k5 mN,h.get? C=some (excClassObj nm qn C N bs tl dy sn sub ab col dd k0 k1 k2 k3 k5 newId)/\h.Ns N mN/\mN "__init__"=none/\OwnTail h bmB tl:=by
 unfold PySem.W.excIn at q;refine Ur (λdd cd sl ho q=>?_) q;refine Uq (λC2 tl k0 k1 k2 k3 n k5 hm hs q=>?_) q;rcases cd with⟨nm,bs,mro,N,qn,dy,sn,sub,ab,col,del⟩;obtain⟨l⟩:=sl;dsimp only at hm hs q;subst hm hs;simp only[Bool.and_eq_true,beq_iff_eq,Bool.not_eq_true']at q;rcases q with⟨⟨⟨⟨⟨e1,e2⟩,e3⟩,e4⟩,e5⟩,e6⟩;subst e1 e2 e3;exact⟨tl,N,nm,qn,bs,dy,sn,sub,ab,col,dd,k0,k1,k2,k3,k5,_,kin _ _ ho,.of_isNs (PySem.W.isNs_of_in kin e5),PySem.W.nsMap_none_of_in kin e5 e6,PySem.W.tail_of_in kin e4⟩
def Rp(C:qS)(E:XK)(t:TA):TS:=λ_ σ H=>t σ H λvs H1=>4#5<=sizeLine/\E (.ref C) none H1
section
variable{x:Str}{E:XK}{e:Expr}{es:List Expr}{t:TA}{np cpos pos:Pos}
theorem LL(hc:23#4=true)(hC:PySem.W.excIn X.K C XO "ValueError.__new__"=true)(hg:Gl X x)(hm:X.mg x=some (.ref C))(hx:Rn X (.ref C) E)(ha:PA X (e::es) t)(hdb:(x==("__debug__":Str))=false:=by decide)(he:starEach (e::es) 1#6=(false,eval e 1#6)::starEach es 1#6:=by rfl)(hpl:(backTo cpos 5#2).any (·.1)=false:=by rfl):
  PS X (.Raise (some (.Call (.Name x np) (e::es) [] cpos)) none pos) (Rp C E t):=by
 intro ad s σ H D I h;rcases Us I.mod.kin hC with⟨tl,N,nm,qn,bs,dy,sn,sub,ab,col,dd,k0,k1,k2,k3,k5,mN,hO,hN,hni,T⟩;have FB:=PySem.F.excBase_ValueError;have arg:=ha cpos ad s σ H _ I h;refine wpAny_Raise_call_subT (C:=C) (nm:=nm) (q:=qn) (N:=N) (bs:=bs) (bm:=tl) (hdct:=dy) (sn:=sn) (sub:=sub) (ab:=ab) (col:=col) (dd:=dd) (k0:=k0) (k1:=k1) (k2:=k2) (k3:=k3) (k5:=k5) FB (mN:=mN) (T.hasType FB.hasBase) 5#9 ?_ hni (Fd I hg hm ⟨rfl,?_⟩ hdb)
 ·rw[he];show (false||(backTo cpos 5#2).any (·.1))=false;rw[hpl];rfl
 ·rw[he]at arg⊢;refine Calls.evalArgs_plain (BB arg λus s2 z9=>?_);obtain⟨vs,H2,I2,r,z,q⟩:=z9;exact⟨rfl,by rw[<-10#8];exact z,I2.bk _ _ hO,hN.keeps I2.bk,T.keeps I2.bk,λh2 a hq=>hx ad σ H2 s2 h2 a us I2 hq q⟩
end
def Ka(sp:Sp)(dvs:List V)(E:St->XK)(t:TA):TE:=λσ H Q=>t σ H λvs H1=>sp (vs++dvs) H1 Q (E σ)
section
variable{k:Nat}{f:qS}{ps:List Str}{sp:Sp}{dvs:List V}{ds:List qR}{E:St->XK}{x:Str}{p pos:Pos}{e:Expr}{es:List Expr}{t:TA}
theorem Rq(F:FC X.prog X.w X.K X.mg X.base CX k f fd ps sp)(hr:B8 k X.A)(hg:Gl X x)(hm:X.mg x=some 6#1)(hk:PySem.W.keepIn X.K 6#1=true)(hb:Ff X.K fd ps ds)(hd:Ar dvs ds)(hx:Fj CX X E)(ha:PA X (e::es) t)(hdb:(x==("__debug__":Str))=false:=by decide)(he:starEach (e::es) 1#6=(false,eval e 1#6)::starEach es 1#6:=by rfl)(hpl:(backTo pos 5#2).any (·.1)=false:=by rfl):
  PE X (.Call 21#0 (e::es) [] pos) (Ka sp dvs E t):=by
 intro ad s σ H Q I h;refine wpAny_Call_Name_kw (Fd I hg hm ?_ hdb);refine PySem.W.callWith_K (h₀:=X.base) I.ok.mod.kin hk (BB (ha pos ad s σ H _ I h) λus s1 z9=>?_) he hpl;obtain⟨vs,H1,I1,r,q⟩:=z9;refine⟨I1.kIn,?_⟩;have r2:Ar (vs++dvs) (us++ds):=r.append hd;have hl:(us++ds).length=5#5:=by rw[<-r2.length];exact F.len _ _ _ _ q
 refine wpAny_call (codeAny_mono (F.run X.A X.stack s1 H1 ⟨us,[]⟩ (us++ds) (vs++dvs) Q (E σ) hr I1.env0 (hb s1 us I1.kIn hl) r2 q) λrs s2 hq=>?_);rcases rs with er|fl
 ·exact hx ad σ H1 s1 er s2 I1 hq
 ·cases fl with
  |ret u=>exact I1.after hq
  |next=>exact False.elim hq
  |brk=>exact False.elim hq
  |cont=>exact False.elim hq
end
variable{sp:Sp}
section
variable{P:qU}{w:qV}{K:qW}{mg:Str->Option qR}{base:Heap}
theorem M9.okX{x:Str}{st:Stmt}{f:qS}{N ps:List Str}{k:Nat}(F:M9 K x qual st f fd)(S:AJ N ps 8#4)(len:∀vs H Q E,sp vs H Q E->4#5=5#5)(hbody:∀(j8:qR) (A:Around) (outer:List Env) (s:qT) (H:Hp) (vs:List V) (Q:VK) (E:XK),B8 k 14#0->sp vs H Q E ->
   ∃t,Gg (ES 20#1 P w K mg base N qual 8#4 f j8 A outer s H E) 20#4 t/\t {nx:=λ_ H'=>Q .non H',rt:=Q} 14#9 H):FC P w K mg base 20#1 (k+1) f fd ps sp:=by
 rcases F.ex with⟨oc,od,kV,doc,pm,an,j8,ct,osl,rfl,lk,hcd⟩;exact V8 lk hcd S len λA outer s H vs Q E hr hsp=>hbody j8 A outer s H vs Q E hr hsp
end
theorem PS.nox{st:Stmt}{t:TS}(h:PS X.nox st t):PS X st t:=λad s σ H D I hw =>
 qN (h ad s σ H D (I.wish _) hw) (λ_ _ q=>q.unwish) λ_ _ q=>q.elim
abbrev Cx.but(X:Cx)(p:List (qS×Obj))(E:qR->qT->Prop):Cx:={X with pn:=p,xe:=E}
theorem Cx.Ok.but(ok:X.Ok)(p:List (qS×Obj))(E:qR->qT->Prop):(X.but p E).Ok:=
 ⟨ok.mod,ok.kind,ok.glob,ok.blt,ok.above,ok.inj,ok.has,ok.cab,ok.hd,ok.frames,ok.stk,ok.exf,ok.bs,ok.bsz,ok.noex,ok.exfs,ok.funs,ok.frf⟩
theorem Cx.Ok.unbut{p:List (qS×Obj)}(ok:(X.but p E).Ok):X.Ok:=
 ⟨ok.mod,ok.kind,ok.glob,ok.blt,ok.above,ok.inj,ok.has,ok.cab,ok.hd,ok.frames,ok.stk,ok.exf,ok.bs,ok.bsz,ok.noex,ok.exfs,ok.funs,ok.frf⟩
noncomputable def Cx.tr(X:Cx)(p:List (qS×Obj))(W:St->XK):Cx:=X.but p λe s'=>∃ad σ H s,AT (X.but p λ_ _=>False) ad σ H s/\JU X.prog X.w X.stack H s (W σ) e s'
noncomputable def Cx.hdl(X:Cx)(v:qR):Cx:={X with A:=X.A.mark 13#6,calm:=false,xe:=λ_ _=>False}
variable{pos:Pos}
section
variable{pins' p:List (qS×Obj)}{E':qR->qT->Prop}
theorem AT.but(I:AT X ad σ H s)(E:qR->qT->Prop):AT (X.but (X.pn++ad) E) [] σ H s:=
 ⟨I.ok.but _ _,I.os,I.bare,I.base,I.loc,I.cell,28#7,28#6,λq hq=>I.pin q (by simpa using hq),I.hok,I.len⟩
theorem AT.unbut(I:AT (X.but (X.pn++ad) E) pins' σ H s):AT X ad σ H s:=
 ⟨I.ok.unbut,I.os,I.bare,I.base,I.loc,I.cell,28#7,28#6,λq hq=>I.pin q (jC _ hq),I.hok,I.len⟩
theorem AT.rebut(I:AT (X.but p E) ad σ H s):AT (X.but p E') ad σ H s:=
 ⟨I.ok.unbut.but _ _,I.os,I.bare,I.base,I.loc,I.cell,28#7,28#6,I.pin,I.hok,I.len⟩
theorem AT.hdl(I:AT X ad σ H s)(v:qR):AT (X.hdl v) ad σ H s:=
 ⟨⟨I.ok.mod,I.ok.kind,I.ok.glob,I.ok.blt,15#1,I.ok.inj,I.ok.has,I.ok.cab,λz=>qG z (by show ¬(false=true);decide),I.ok.frames,I.ok.stk,I.ok.exf,I.ok.bs,I.ok.bsz,I.ok.noex,I.ok.exfs,I.ok.funs,I.ok.frf⟩,
  I.os,I.bare,I.base,I.loc,I.cell,28#7,28#6,I.pin,I.hok,I.len⟩
theorem AT.unhdl{v:qR}(hd:23#4=true->X.A.handled=none)(I:AT (X.hdl v) ad σ H s):AT X ad σ H s:=
 ⟨⟨I.ok.mod,I.ok.kind,I.ok.glob,I.ok.blt,15#1,I.ok.inj,I.ok.has,I.ok.cab,hd,I.ok.frames,I.ok.stk,I.ok.exf,I.ok.bs,I.ok.bsz,I.ok.noex,I.ok.exfs,I.ok.funs,I.ok.frf⟩,
  I.os,I.bare,I.base,I.loc,I.cell,28#7,28#6,I.pin,I.hok,I.len⟩
theorem ID{W:St->XK}:Fj (JU X.prog X.w) (X.tr p W) W:=λad σ H s e s' I h=>⟨ad,σ,H,s,AT.rebut (X:=X) I,h⟩
theorem SP.unbut{f:Flow}(h:SP (X.but (X.pn++ad) E) pins' D f s'):SP X ad D f s':=by
 cases f with
 |next=>obtain⟨a,b,I,q⟩:=h;exact⟨a,b,I.unbut,q⟩
 |brk=>obtain⟨a,b,I,q⟩:=h;exact⟨a,b,I.unbut,q⟩
 |cont=>obtain⟨a,b,I,q⟩:=h;exact⟨a,b,I.unbut,q⟩
 |ret u=>obtain⟨v,a,b,I,q⟩:=h;exact⟨v,a,b,I.unbut,q⟩
theorem HS{M:Model}{A:Around}{n:Str}{Q:Unit->qT->Prop}(I:AT X ad σ H s)(hN:25#1)(hi:X.N[i]?=some n)(hl:X.env.scope.names.lookup n=some .local)(h:∀s',AT X ad (σ.set i none) H s'->Q () s'):wpAny M A (do bindName X.env n .none;unbindBehindTheSuite X.env n pos) Q E s:=by
 obtain⟨m,hn,lk⟩:=id I.loc;have hcls:(17#5==.class||(17#5==.module&&2#9 != X.env.globals))=false:=by rw[I.ok.kind];rfl
 refine wpAny_nameGoes_keeps (show X.env.kindOf n=some .local from hl) hn hcls λh' v hn' sb=>h _ ?_
 have away:∀b o,X.s₀.heap.get? b=some o->b≠2#9:=λb o e=>dH 21#9
 have hiσ:i<σ.length:=by rw[I.len];exact (cP.mp hi).1
 refine⟨I.ok,I.os,I.bare,⟨λb o e nn hb hx=>(sb.2 b (away b o e)).trans (I.base.keep b o e nn hb hx),λb o e nn hb hx=>?_,I.base.free,λb o e hx=>?_,I.base.tups,I.base.frzs,I.base.tbls⟩,
  ⟨_,hn',λj y w e1 e2 e3=>?_⟩,λy c e=>?_,28#7,28#6,λq hq=>?_,λb u q=>?_,by simpa using I.len⟩
 ·obtain⟨sl,e1⟩:=I.base.slot b o e nn hb hx;exact⟨sl,(sb.2 b (away b o e)).trans e1⟩
 ·obtain⟨o',e1⟩:=I.base.there b o e hx;exact⟨o',(sb.2 b (away b o e)).trans e1⟩
 ·by_cases hj:j=i
  ·subst hj;rw[iS hiσ]at e2;cases e2
  ·rw[jD (Ne.symm hj)]at e2;obtain⟨u,r,z⟩:=lk j y w e1 e2 e3;refine⟨u,r,?_⟩;rcases z with⟨k,z⟩|⟨k,c,z,y'⟩
   ·have ny:y≠n:=λq=>hj (Hm hN e1 (q▸hi))
    exact .inl ⟨k,by simp[ny,z]⟩
   ·exact .inr ⟨k,c,z,y'.sameBut sb (I.cne y c z)⟩
 ·obtain⟨w,z⟩:=I.cell y c e;exact⟨w,z.sameBut sb (I.cne y c e)⟩
 ·obtain⟨e,nn,ne,nf,d⟩:=I.pin q hq;exact⟨(sb.2 q.1 ne).trans e,nn,ne,nf,d⟩
 ·refine (I.hok b u q).stay (λc w hc r=>(sb.2 c λz=>?_).trans r) (λ_ q=>q) λ_ _ q=>q
  have fz:=28#7;rcases hc with e|e
  ·rw[<-z,e,q]at fz;cases fz
  ·rw[<-z,e]at fz;cases fz
end
def ZM(K:qW)(R:qR)(i:Nat)(W:St->XK)(tb th:TS):TS:=λD σ H=>tb D σ H/\∀σ' cls D' H',W σ' cls D' H'->PySem.W.exmOne K cls R=some true/\∀a,H' a=none ->
 th {nx:=λσ2 H2=>D.nx (σ2.set i none) H2,rt:=D.rt,bk:=λσ2 H2=>D.bk (σ2.set i none) H2,ct:=λσ2 H2=>D.ct (σ2.set i none) H2} (σ'.set i (some 2#0)) (AU H' a (aa a cls D' false))
section
variable{x n:Str}{R:qS}{W:St->XK}{b:List Stmt}{c0:Stmt}{suite:List Stmt}{tb th:TS}{np hpos:Pos}
theorem XQ(hN:25#1)(hi:X.N[i]?=some n)(hl:X.env.scope.names.lookup n=some .local)(hg:Gl X x)(hm:X.mg x=some (.ref R))(hst:8#0=1#6::19#9)(hfr:X.env.frame=some 2#9)(hb:∀p,Gg (X.tr p W) b tb)(hs:∀v,Gg (X.hdl v) (c0::suite) th)(hd:(x==("__debug__":Str))=false:=by decide):
  PS X (.Try b [.ExceptHandler (some (.Name x np)) (some n) (c0::suite) hpos] [] [] pos) (ZM X.K (.ref R) i W tb th):=by
 intro ad s σ H D I h;obtain⟨h1,h2⟩:=h;refine wpAny_Try_except (qN (hb (X.pn++ad) [] s σ H D (I.but _) h1) (λf s1 q=>?_) λe s1 q=>?_)
 ·have q':SP X ad D f s1:=SP.unbut (pins':=[]) q;cases f with
  |next=>exact wpAny_execs_nil q'
  |ret u=>exact q'
  |brk=>exact q'
  |cont=>exact q'
 ·obtain⟨pins0,σ0,H0,s0,I0,a,cls,a0,D',B,H',rfl,F,hW⟩:=q;have J0:AT X ad σ0 H0 s0:=I0.unbut;obtain⟨hx,hth⟩:=h2 σ0 cls D' H' hW;have fl:Heap.FlyingW B (1#6::19#9) a cls a0 s1.heap:=by rw[<-hst];exact F.fly
  refine qN (KT.run (OX _ _) (wpAny_looks_onW (Q:=λ_ s4=>∃h4,s4={s1 with heap:=h4}/\Heap.HeldW B (1#6::19#9) a cls a0 X.env.locals h4/\s1.heap.UpToSlots h4) (E:=λ_ _=>False) (by rw[<-hst];exact J0.ok.frames) hfr fl λh4 held4 sm4=>⟨h4,rfl,held4,sm4⟩)) (λ_ s4 q=>?_) λ_ _ q=>q.1.elim
  obtain⟨⟨h4,rfl,held4,sm4⟩,dk4⟩:=q;refine qN (KT.run (D3 _ _) (wpAny_landsW (Q:=λ_ s5=>∃h5,s5={s1 with heap:=h5}/\Heap.FlyingW B (1#6::19#9) a cls a0 h5/\h4.UpToSlots h5) (E:=λ_ _=>False) (s:={s1 with heap:=h4}) held4 λh5 fl5 sm5=>⟨h5,rfl,fl5,sm5⟩)) (λ_ s5 q=>?_) λ_ _ q=>q.1.elim
  obtain⟨⟨h5,rfl,fl5,sm5⟩,dk5⟩:=q;have J5:AT X ad σ0 H' {s1 with heap:=h5,toks:=23#3}:=F.land J0 fl5.1 (sm4.trans sm5);have K5:=J5.hdl 2#0;refine wpAny_handleBy_cons (codeAny_handlers_test (Fd K5 hg hm ?_ hd)) (by intro q;cases q);obtain⟨ob,hob,hobc⟩:=fl5.there
  have LT:PySem.W.Looks 1#0 h5 (typeOf 2#0) cls:=by subst hobc;exact (PySem.W.Looks.ld hob).andThen .now
  refine (PySem.W.exm_one J5.kIn LT hx).here ?_;show codeAny _ _ _ _ _;refine codeAny_handlers_suite_as ?_;refine qN (KT.run (D3 _ _) (lands_againW (Q:=λ_ s6=>∃h6,s6={s1 with heap:=h6}/\Heap.FlyingW B (1#6::19#9) a cls a0 h6/\h5.UpToSlots h6) (E:=λ_ _=>False) (s:={s1 with heap:=h5}) fl5 λh6 fl6 sm6=>⟨h6,rfl,fl6,sm6⟩)) (λ_ s6 q=>?_) λ_ _ q=>q.1.elim
  obtain⟨⟨h6,rfl,fl6,sm6⟩,dk6⟩:=q;have J6:AT X ad σ0 (AU H' a (aa a cls D' false)) {s1 with heap:=h6,toks:=23#3}:=F.land' J0 fl6 ((sm4.trans sm5).trans sm6) ((dk4.trans dk5).trans dk6);refine Ho J6 hN hi (.inl hl) (v:=.ref a) rfl (λs7 I7=>?_) (.inr hl);have run:=hs 2#0 ad s7 _ _ _ (I7.hdl 2#0) (hth a F.fresh.1);refine qN run (λf s8 q8=>?_) λ_ _ z=>z.elim
  cases f with
  |next =>
   obtain⟨σ8,H8,I8,q8⟩:=q8;exact HS 19#3 hN hi hl λs9 I9=>⟨_,_,I9,q8⟩
  |brk =>
   obtain⟨σ8,H8,I8,q8⟩:=q8;exact HS 19#3 hN hi hl λs9 I9=>⟨_,_,I9,q8⟩
  |cont =>
   obtain⟨σ8,H8,I8,q8⟩:=q8;exact HS 19#3 hN hi hl λs9 I9=>⟨_,_,I9,q8⟩
  |ret u =>
   obtain⟨v8,σ8,H8,I8,r8,q8⟩:=q8;exact HS 19#3 hN hi hl λs9 I9=>⟨v8,_,_,I9,r8,q8⟩
end
structure NO(K:qW)(D:qS):Prop where
 ci:(PySem.W.clsIn K D).isSome=true
 ga:PySem.W.findIn K 2#7 "__getattribute__"=some (some (.builtin "BaseException.__getattribute__"))
 gn:PySem.W.findIn K 2#7 "__getattr__"=some none
 ca:PySem.W.findIn K 2#7 "__class__"=some (some (.builtin "object.__class__"))
 sg:PySem.W.specialIn K (.builtin "object.__class__") "__get__"=some (some (.builtin "getset_descriptor.__get__"))
 tk:PySem.W.takesIn K (.builtin "object.__class__")=some true
 mo:PySem.W.mroIn K D (.type "object")=some true
 mb:PySem.W.mroIn K D (.type "BaseException")=some true
section
variable{K:qW}{D:qS}{dy:Option qS}{n:Bool}
theorem Rr(h:(PySem.W.clsIn K D).isSome=true):∃c d cd sl,K.lookup D=some ⟨c,d,.cls cd,sl⟩:=by
 delta PySem.W.clsIn at h
 cases e:K.lookup D with
 |none=>rw[e]at h;exact qG h dB
 |some o =>
  rw[e]at h;obtain⟨c,d,dt,sl⟩:=o;cases dt with
  |cls cd=>exact⟨c,d,cd,sl,rfl⟩
  |_=>exact qG h dB
theorem NO.isCls(c:NO K D){M:Model}(kin:K.In h):PySem.W.Looks M h (isType 2#7) true:=by obtain⟨_,_,_,_,ho⟩:=Rr c.ci;intro A Q E s k q;unfold isType loadHead;exact qC (wpAny_loadPart (k _ _ (kin _ _ ho)) (qD q))
theorem Gi.ty{M:Model}{cls:qR}(x:Gi a cls dy n h):PySem.W.Looks M h (typeOf 2#0) cls:=by rcases x with⟨o,vs,e,c,_⟩;subst c;exact (PySem.W.Looks.ld e).andThen .now
theorem NP{M:Model}{x:qR}{g:qR}(kin:K.In h)(h1:PySem.W.findIn K 2#7 name=some 21#5)(h2:PySem.W.specialIn K u "__get__"=some (some g))(h3:PySem.W.takesIn K u=some true):
  PySem.W.Looks M h (Builtin.ObjectAttr.find x 2#7 name) (.bind g u):=by
 have a1:=jF (M:=M) kin h1;have a2:PySem.W.Looks M h (Builtin.ObjectAttr.getOf 21#5) (some g):=PySem.W.looks_specialIn kin h2;have a3:PySem.W.Looks M h (Builtin.ObjectAttr.dataDescriptor? 21#5 (some g)) (some (g,u)):=(PySem.W.looks_takesIn (M:=M) kin h3).andThen .now;exact a1.andThen (a2.andThen (a3.andThen (PySem.W.Looks.tag .now)))
theorem Ut{prog:qU}{w:qV}{A:Around}{R:Result->qT->Prop}{tp:qR}(c:NO K D)(kin:K.In 23#2)(x:Gi a 2#7 dy n 23#2)(q:R (.ok (.ret 2#7)) s):
  codeAny 0#8 A (.call (.builtin "getset_descriptor.__get__") ⟨[.builtin "object.__class__",.ref a,tp],[]⟩) R s:=by
 obtain⟨hp,g,d,t,os⟩:=s;have a1:=x.ty (M:=model prog w);have a2:=PySem.W.looks_mroIn (M:=model prog w) kin c.mo;refine codeAny_call_builtin PySem.W.KF.slot_gs.plain PySem.W.KF.entry_gs (PySem.W.KF.slot_gs.check _ _ _ _ _ _ _ _ PySem.W.KF.type_class (PySem.W.KF.args_gs _ _ _) ?_)
 (unfold Builtin.«getset_descriptor.__get__» Builtin.Getset_descriptor.descrGet;rw[PySem.W.dga_obj];refine qC (qD ?_))
 (unfold Builtin.Getset_descriptor.descrGetter Builtin.Getset_descriptor.descrCheckInstance Builtin.Getset_descriptor.descrNameAndClass isInstance;simp only[PySem.W.KF.owner_class])
 repeat lk
 refine⟨Code.quiet_builtin _ 0#5,codeAny_builtin PySem.W.KF.entry_class ?_⟩
 (unfold Builtin.«object.__class__» shownTypeOf;repeat lk)
 exact q
theorem QG{prog:qU}{w:qV}{A:Around}{Q:Option qR->qT->Prop}(c:NO K D)(kin:K.In 23#2)(x:Gi a 2#7 dy n 23#2)(q:Q (some 2#7) {s with toks:=7#8+1}):wpAny 0#8 A (getAttr? 2#0 "__class__") Q E s:=by
 rcases s with⟨hp,g,d,t,os⟩;have LT:=x.ty (M:=model prog w);have L1:=jF (M:=model prog w) kin c.ga;have L2:=jF (M:=model prog w) kin c.gn;have L3:=NP (M:=model prog w) (x:=.ref a) kin c.ca c.sg c.tk;have L4:PySem.W.Looks 0#8 hp (isInstance 2#0 (.type "BaseException")) true:=LT.andThen (PySem.W.looks_mroIn kin c.mb);have FA:=PySem.F.excAttr_ValueError;unfold getAttr? getAttrBy? getAttrBy;refine qC (wpAny_mkText (qC (wpAny_attempt (qP (qC (LT.at (qC (L1.at ?_))))))));show wpAny _ _ (getAttrByItsOwn _ _ _ _ _ _) _ _ _;unfold getAttrByItsOwn;refine qC (show wpAny _ _ (typeLookup 2#7 "__getattr__") _ _ _ from L2.at ?_);refine qC (wpAny_attempt (qP ?_));show wpAny _ _ (boundAndCalled _ _ _) _ _ _;unfold boundAndCalled;refine qC (wpAny_of_eq (FA.ga.bind _) ?_);refine wpAny_call (codeAny_call_builtin FA.ga.plain PySem.F.entry_bexc_ga ?_);have hk:builtinKind "BaseException.__getattribute__"=some .slot:=by decide +kernel
 have hsp:splitId "BaseException.__getattribute__"=some ("BaseException","__getattribute__"):=by decide +kernel
 have ha:=PySem.F.args_bexc_ga 2#0 (.str "__class__" t);show wpAny _ _ (checkBuiltinCall "BaseException.__getattribute__" ⟨[.ref a,.str "__class__" t],[]⟩) _ _ _;simp only[checkBuiltinCall,hk,hsp];refine qC (L4.at ?_)
 repeat (any_goals (first|assumption|wp_step))
 rcases id x with⟨o,vs,eo,co,vo⟩;refine wpAny_loadPart eo ?_;refine qD ?_;rw[co];refine qC (L3.at ?_);show wpAny _ _ (call (.builtin "getset_descriptor.__get__") [.builtin "object.__class__",.ref a,.ref D] >>= λv=>ret v) _ _ _;refine qC (wpAny_call (Ut c kin ⟨o,vs,eo,co,vo⟩ ?_));refine qD ?_;show wpAny _ _ (handedOut 2#7) _ _ _;exact qD (qD q)
theorem LM(c:NO K D):PySem.W.KitX K 2#0 2#7 (Gi a 2#7 dy n) where
 ty:=λ_ _ _ x=>x.ty
 it:=λ_ _ kin _=>c.isCls kin
 ne:=λh tp dd its n sl kin htp=>by refine Bool.eq_false_iff.mpr λq=>?_;have e:D=tp:=Value.ref.inj (beq_iff_eq.mp q);subst e;obtain⟨_,_,_,_,ho⟩:=Rr c.ci;have y:=(kin _ _ ho).symm.trans htp;cases y
 ca:=λkin x q=>QG c kin x q
end
inductive ZN(K:qW)(H:Hp):V->qR->Prop where
 |of {x:V} {t:qR} (h:GG K H x t):ZN K H x t
 |exc {a D:qS} {dy:Option qS} {n:Bool} (e:H a=some (aa a 2#7 dy n)) (c:NO K D):ZN K H 2#0 2#7
noncomputable def Rs:V->Option qR
 |.ty n=>some (.type n)
 |.ref a=>some 2#0
 |_=>none
noncomputable def XR(K:qW):List V->Hp->VK->Prop
 |[x,c],H,Q=>∃t u b,ZN K H x t/\Rs c=some u/\PySem.W.kitOne K t u=some b/\Q (.bl b) H
 |_,_,_=>False
theorem Rt:Df X (.builtin "isinstance") (XR X.K):=by
 intro ad s σ H xs us Q I rv h;rcases xs with _|⟨x,_|⟨c,_|⟨_,_⟩⟩⟩
 ·exact h.elim
 ·exact h.elim
 rotate_left
 ·exact h.elim
 rcases h with⟨t,u,b,ty,rc,k,q⟩;rcases OR rv with⟨v1,v2,rfl,r1,r2⟩
 have e:v2=u:=by
  cases c with
  |ty n=>cases rc;exact r2
  |ref a=>cases rc;exact r2
  |_=>cases rc
 subst e;cases ty with
 |of ty=>exact QC I r1 ty k λtk=>⟨.bl b,H,I.tok tk,rfl,q⟩
 | @exc a D dy n e ck =>
  cases (show v1=Value.ref a from r1);obtain⟨x,_,_⟩:=(show Aj X.prog X.w H s.heap a (.ext (Gi a 2#7 _ _)) from I.hok a _ e);exact em (LM ck) I.kIn x k (λz=>nomatch z) λtk=>⟨.bl b,H,I.tok tk,rfl,q⟩
variable{items:Array qR}
section
variable{prog:qU}{w:qV}{A:Around}
theorem QH:typeLookup (.type "list_reverseiterator") "__len__"=pure none:=by rw[typeLookup_type,builtinLookup_eq_fast];kernel_rfl
theorem Ru:typeLookup (.type "list_reverseiterator") "__length_hint__"=pure (some (.builtin "list_reverseiterator.__length_hint__")):=by rw[typeLookup_type,builtinLookup_eq_fast];kernel_rfl
theorem Rv{I:qS}{Q:Bool->qT->Prop}(hT:s.TypeIs 27#8 "list_reverseiterator")(q:Q false s):wpAny 0#8 A (Builtin.List.listLengthHint 27#8) Q E s:=by
 unfold Builtin.List.listLengthHint;refine qC (wpAny_specialOf hT QH ?_);show wpAny _ A (specialOf (Value.ref I) (Str.ofString "__length_hint__") >>= _) _ _ _;refine qC (wpAny_specialOf hT Ru ?_);generalize hz:("list_reverseiterator.__length_hint__":String)=zz
 wp_delta
 rw[show splitId zz=some ("list_reverseiterator","__length_hint__") from by subst hz;decide +kernel];subst hz;refine qC (wpAny_isInstance (b:=true) hT (by rw[isSubtype_type];kernel_rfl) ?_);exact qD q
theorem LN{I l:qS}{Q:qR->qT->Prop}(hh:10#9=none)(hIl:l≠I)(hit:s.heap.IsRevIter I l ((items.size:Int)-1))(hl:s.heap.IsList l items)(hz:items.size<=sizeLine)(hQ:∀h' tk c' j6,(∀b o,b≠I->s.heap.get? b=some o->h'.get? b=some o)->h'.get? 0#6=some {cls:=.type "list",dict:=none,data:=.seq j6 c',slots:=#[]} ->
   j6.toList=items.toList.reverse->Q 10#1 {s with heap:=h',toks:=tk}):wpAny 0#8 A (call (.type "list") [.ref I]) Q E s:=by
 have W:=(Walks.listRev (prog:=prog) (w:=w) (A:=A.in1.in1) hh I l hIl items).toS;have hIlt:I<0#6:=by obtain⟨o,e,_⟩:=hit;exact cg e
 have hllt:l<0#6:=by obtain⟨o,e,_⟩:=hl;exact cg e
 refine callType_codes (Q₁:=λobj s₁=>obj=.ref 0#6/\s₁={s with heap:=s.heap.push {cls:=.type "list",data:=.seq #[]}}) PySem.F.called_list (PySem.F.typeCall_list_1 _) PySem.F.entry_list_init
  (code_list_new _ ⟨rfl,rfl⟩) λobj s₁ h₁=>?_
 obtain⟨rfl,rfl⟩:=h₁;have hS:(s.heap.push {cls:=.type "list",data:=.seq #[]}).get? 0#6=some {cls:=.type "list",data:=.seq #[]}:=cy _ rfl;refine⟨⟨_,hS,rfl⟩,PySem.F.args_list_init_2 _ _,?_⟩;show wpAny _ _ (do let old <-Builtin.List.listItems 10#1;Builtin.List.listUpdate 10#1 (λ_=>#[]);letGo old.toList.reverse;Builtin.List.listExtendWith 10#1 27#8 .none) _ _ _;refine qC ?_;unfold Builtin.List.listItems;refine qC (wpAny_seqItems hS rfl (qD ?_));show wpAny _ _ (updateSeq s.heap.objs.size (λ_=>#[]) >>= λ_=>letGo (#[]:Array qR).toList.reverse >>= λ_=>Builtin.List.listExtendWith 10#1 27#8 .none) _ _ _;refine qC (wpAny_updateSeq hS rfl ?_);have hS2:=et (Obj.mapSeq (λ_=>(#[]:Array qR))) hS rfl
 have kp:∀b o,s.heap.get? b=some o->((s.heap.push {cls:=.type "list",data:=.seq #[]}).update s.heap.objs.size (Obj.mapSeq (λ_=>(#[]:Array qR)))).get? b=some o:=
  λb o e=>(gB _ _ (gH 16#1)).trans (cS _ e)
 refine qC (wpAny_letGo ?_);have hit2:=hit.at λo e=>kp I o e
 have hl2:=hl.at λo e=>kp l o e
 unfold Builtin.List.listExtendWith;refine qC (wpAny_typeOf (T:="list_reverseiterator") hit2.typeIs ?_);have h1:Builtin.List.listSameRef 10#1 27#8=false:=by simp[Builtin.List.listSameRef,Nat.ne_of_gt hIlt]
 rw[qE (by rw[h1];decide)];refine qC (wpAny_pyIter_revIter hit2 ?_);refine qC (qP (Rv hit2.typeIs ?_));rw[qE 0#1]
 have nf:0#6∉[I,l]:=by simp only[List.mem_cons,List.not_mem_nil,or_false,not_or];exact⟨gH hIlt,gH hllt⟩
 refine qD ⟨plainId_quiet PySem.F.plain_extend_loop _,codeAny_extend_loopS W hz _ nf _ items.size 0 _ _ _ rfl (Nat.zero_le _) ⟨Nat.zero_le _,by simpa using hit2,hl2⟩ hS2 (ItemsOf.nil _) λs' j6 c' hm hS' hacc=>?_⟩;refine⟨rfl,?_⟩;rw[Moved.eq_with hm];refine hQ s'.heap s'.toks c' j6 (λb o hb e=>hm.heap b o (λz=>?_) (kp b o e)) hS' ?_
 ·rcases dA.mp z with z|z
  ·exact qG 16#1 (by rw[z];exact dM _)
  ·exact hb (cQ.mp z)
 ·apply gs;intro i
  by_cases hi:i<items.size
  ·have hi2:i<j6.size:=by rw[hacc.1];exact hi
   have p:=hacc.2 i j6[i] (hV hi2);rw[List.getElem?_reverse (by simpa using hi),Array.getElem?_toList,Array.getElem?_eq_getElem hi2,Array.getElem?_toList,Array.length_toList];exact p.symm
  ·rw[fX (by rw[cr,hacc.1];lia),fX (by rw[fy,cr];lia)]
end
noncomputable def ZO(K:qW)(a:qS)(n:Nat):It:=
 ⟨λi H=>i<n/\∃xs,Ad K H a xs/\1#3=n,λi H x H'=>H'=H/\∀xs,Ad K H a xs->xs.reverse[i]?=some x,λi _=>i=n⟩
theorem Rw{P:qU}{w:qV}{K:qW}(a it:qS)(n:Nat):Ht P w K tg (ZO K a n) [it] it (λi h=>i<=n/\h.IsRevIter it a ((n:Int)-1-(i:Int))) where
 mem:=by simp
 obj:=λi h st b hb=>by
  have e:b=it:=by simpa using hb
  subst e;rcases st with⟨_,o,e,c,d⟩;exact⟨o,e,λv z=>by rw[d]at z;cases z⟩
 keep:=λi h h' st k=>⟨st.1,st.2.at λo e=>k it 0#3 o e⟩
 item:=by
  intro X hP hw hK hc i ad s σ H E I hf st hg;subst hP hw hK;rcases hg with⟨hi,xs,hq,hn⟩;rcases I.list hq with⟨its,rv,p,hz⟩;have hlen:=rv.length;rcases hf it (by simp) with⟨f0,f1,f2,f3,f4,f5⟩;have e:(n:Int)-1-(i:Int)=((n-1-i:Nat):Int):=by lia
  have hit:=st.2;rw[e]at hit;have hx:xs[n-1-i]?=some (xs[n-1-i]' 0#0):=cc 0#0;obtain⟨u,hu,ru⟩:=rv.get hx;refine wpAny_pyNext_rev_item hit p.isList (x:=u) (by simpa using hu) λh' st' sb=>?_;have I1:AT X ad σ H {s with heap:=h'}:=I.turned (t':=7#8) (λb o hb e=>(sb.2 b hb).trans e) f0 f1 f3 f4 f5;rcases id st' with⟨o,e,c,d⟩
  have st2:i+1<=n/\h'.IsRevIter it a ((n:Int)-1-((i+1:Nat):Int)):=⟨hi,by
   have e2:((n-1-i:Nat):Int)-1=(n:Int)-1-((i+1:Nat):Int):=by lia
   rw[<-e2];exact st'⟩
  refine⟨u,rfl,Jh (s:={s with heap:=h'}) e c d 0#1 ⟨_,H,I1,ru,⟨rfl,λys hy=>?_⟩,st2,λb hb=>(hf b hb).1⟩⟩;rw[I.list_inj hy hq,im 0#0,<-hx]
  congr 1
  lia
 done:=by
  intro X hP hw hK hc i ad s σ H E I hf st hg;subst hP hw hK;rcases hf it (by simp) with⟨f0,f1,f2,f3,f4,f5⟩;have hg':i=n:=hg;subst hg';have hit:=st.2;have e:(i:Int)-1-(i:Int)=-1:=by lia
  rw[e]at hit;exact wpAny_pyNext_rev_end 5#9 hit λh' eb=>⟨rfl,I.turned (t':=7#8) (λb o hb e=>eb b o hb e) f0 f1 f3 f4 f5⟩
 self:=λ_ _ _ _ _ st h=>wpAny_pyIter_revIter st.2 h
def bB(K:qW)(ta:TA):TI:=λσ H R=>ta σ H λvs H1=>∃a xs,vs=[.ref a]/\Ad K H1 a xs/\R (ZO K a 1#3) H1
theorem XS{l:Expr}{p pos:Pos}(hg:Gl X "reversed")(hm:X.mg "reversed"=none)(ha:PA X [l] ta)(hs:starEach [l] 1#6=[(false,eval l 1#6)]:=by rfl):PI X tg (.Call (.Name "reversed" p) [l] [] pos) (bB X.K ta):=by
 intro ad s σ H R I h;refine Call_ (CS I hg hm boot_reversed (db (BB (ha pos ad s σ H _ I h) λus s1 z9=>?_) hs rfl));obtain⟨vs,H1,I1,r1,q1⟩:=z9;rcases q1 with⟨a,xs,e,hq,q⟩;subst e;cases r1 with
 |cons r rr =>
  cases rr;cases r;rcases I1.list hq with⟨its,rv,pl,hz⟩;have hlen:=rv.length;refine call_reversed_list pl.isList ?_;have I2:AT X ad σ H1 {s1 with heap:=s1.heap.push (revObj a ((2#8:Int)-1)),toks:=23#3}:=I1.kept λb o e=>cS _ e
  have st:(s1.heap.push (revObj a ((2#8:Int)-1))).IsRevIter s1.heap.objs.size a ((1#3:Int)-1-((0:Nat):Int)):=by
   have e:((1#3:Int)-1-((0:Nat):Int))=(2#8:Int)-1:=by rw[dJ,hlen];lia
   rw[e];exact⟨_,cy _ rfl,rfl,rfl⟩
  refine wpAny_pyIter_revIter st ?_;refine⟨1#7,[1#7],_,_,H1,rfl,I2,Rw a _ 1#3,⟨di _,st⟩,λb hb=>?_,q⟩;have e:b=1#7:=by simpa using hb
  subst e;exact I1.fpOk (cU _) (I1.hok.fresh (cU _))
theorem Uu{K:qW}{g:TG}{tb:TS}(Pv:Nat->St->Hp->Prop)(h0:Pv 0 σ H)(hl:∀i σ H,i<=1#3->Pv i σ H->Ad K H a xs)(hs:∀i x σ H,xs.reverse[i]?=some x->Pv i σ H->g x σ H λσ2 H2=>tb {D with nx:=Pv (i+1),ct:=Pv (i+1),bk:=D.nx} σ2 H2)(hd:∀σ H,Pv xs.length σ H->D.nx σ H):
  ∃W:Nat->Nat->St->Hp->Prop,(∃m,W 0 m σ H)/\∀i m σ H,W i m σ H ->
   ((ZO K a 1#3).stop i H/\D.nx σ H)\/((ZO K a 1#3).go i H/\∃N:St->Hp->Prop,(∀σ' H',N σ' H'->∃m',m'<m/\W (i+1) m' σ' H')/\∀x H',(ZO K a 1#3).yld i H x H'->g x σ H' λσ2 H2=>tb {D with nx:=N,ct:=N,bk:=D.nx} σ2 H2):=by
 refine⟨λi m σ H=>m=1#3-i/\i<=1#3/\Pv i σ H,⟨1#3,by simp,Nat.zero_le _,h0⟩,?_⟩;rintro i m σ H ⟨rfl,hi,p⟩;have q:=hl i σ H hi p
 by_cases hlt:i<xs.length
 ·refine .inr ⟨⟨hlt,xs,q,rfl⟩,Pv (i+1),λσ' H' p'=>⟨1#3-(i+1),by lia,rfl,hlt,p'⟩,λx H' y=>?_⟩;obtain⟨e,y⟩:=y;subst e;exact hs i x σ _ (y xs q) p
 ·have e:i=1#3:=by lia
  subst e;exact .inl ⟨rfl,hd σ H p⟩
def WB(K:qW)(ta:TA):TE:=λσ H Q=>ta σ H λvs H1=>∃a xs,vs=[.ref a]/\Ad K H1 a xs/\∀p,H1 p=none->Q 1#9 (AU H1 p (.lst xs.reverse))
theorem OY{l:Expr}{p1 p2 pos1 pos2:Pos}(hc:23#4=true)(hg:Gl X "reversed")(hm:X.mg "reversed"=none)(hg2:Gl X "list")(hm2:X.mg "list"=none)(ha:PA X [l] ta)(hs:starEach [l] 1#6=[(false,eval l 1#6)]:=by rfl)(hs2:starEach [.Call (.Name "reversed" p1) [l] [] pos1] 1#6=[(false,eval (.Call (.Name "reversed" p1) [l] [] pos1) 1#6)]:=by rfl):
  PE X (.Call (.Name "list" p2) [.Call (.Name "reversed" p1) [l] [] pos1] [] pos2) (WB X.K ta):=by
 intro ad s σ H Q I h;refine Call_ (CS I hg2 hm2 gC (db (T:="list") ?_ hs2 rfl));rw[hs2];show wpAny _ _ (spliced ((false,eval (.Call (.Name "reversed" p1) [l] [] pos1) 1#6)::[])) _ _ s;refine Calls.spliced_cons (Call_ (CS I hg hm boot_reversed (db (BB (ha pos1 ad s σ H _ I h) λus s1 z9=>?_) hs rfl)));obtain⟨vs,H1,I1,r1,q1⟩:=z9;rcases q1 with⟨a,xs,e,hq,q⟩;subst e;cases r1 with
 |cons r rr =>
  cases rr;cases r;rcases I1.list hq with⟨its,rv,pl,hz⟩;have hlen:=rv.length;refine call_reversed_list pl.isList ?_;refine Calls.spliced_nil ?_;have ne:a≠1#7:=by obtain⟨o,e,_⟩:=pl.isList;exact dH 16#1
  have hL:(s1.heap.push (revObj a ((2#8:Int)-1))).IsList a 7#0:=pl.isList.at λo e=>cS _ e
  refine LN (s:={s1 with heap:=s1.heap.push (revObj a ((2#8:Int)-1))}) 5#9 ne ⟨_,cy _ rfl,rfl,rfl⟩ hL (by rw[dJ,<-hlen];exact hz) λh' tk c' j6 kp hD hacc=>?_;have kp2:∀b o,s1.heap.get? b=some o->h'.get? b=some o:=λb o e=>kp b o (dH 16#1) (cS _ e)
  have hf:H1 (s1.heap.push (revObj a ((2#8:Int)-1))).objs.size=none:=I1.hok.fresh (by rw[eS];lia);have rv2:Ar xs.reverse j6.toList:=by rw[hacc];simpa using rv.reverse
  refine⟨.ref _,_,I1.laid (t':=tk) kp2 (by rw[eS];lia) ?_,rfl,q _ hf⟩;exact⟨by rw[List.length_reverse];exact hz,j6.toList,c',rv2,by simpa using hD⟩
def ZP(K:qW):R2:=λx y H Q=>∃(a b:qS) (ns ms:qX),x=.ref a/\y=.ref b/\Ad K H a 1#5/\Ad K H b (ms.map 2#1)/\Q (.bl (decide (ns=ms))) H
theorem Rx(hu:8#1+64<cLine):E9 X (compareOp .Eq) (ZP X.K):=by intro ad s σ H x y v u Q I rx ry h;rcases h with⟨a,b,ns,ms,rfl,rfl,ha,hb,q⟩;cases rx;cases ry;rcases I.list ha with⟨va,ra,pa,_⟩;rcases I.list hb with⟨vb,rb,pb,_⟩;exact PySem.W.eq_intsK pa.isList (Hz ra) pb.isList (Hz rb) hu ⟨.bl _,H,I,rfl,q⟩
theorem Ry{P:qU}{w:qV}{K:qW}{mg:Str->Option qR}{base:Heap}{N:List Str}{f:qS}{cd:qR}{A:Around}{outer:List Env}{E:XK}:(ES CX P w K mg base N qual scope f cd A outer s H E).K=K:=rfl
theorem bC{p:List (qS×Obj)}{W:St->XK}:(X.tr p W).K=X.K:=rfl
theorem WC{v:qR}:(X.hdl v).K=X.K:=rfl
theorem WD{P:qU}{w:qV}:Fj 13#8 X (λ_=>E0):=λ_ _ _ _ _ _ _ h=>by obtain⟨_,_,_,_,_,_,_,_,h⟩:=h;exact h.elim
theorem AF.new(h:H p=none)(o:HO):AF H (AU H p o):=λb u q=>by rw[AI (BS q h)];exact q
theorem Rz{q:qS}{o:HO}(h:AU H p o q=none):q≠p/\H q=none:=by
 have ne:q≠p:=λz=>by rw[z,AD]at h;cases h
 rw[AI ne]at h;exact⟨ne,h⟩
theorem WE{n:Nat}(h:n<=1000):n<=sizeLine:=dz (AX h)
section
variable{x:Str}{p:Pos}{a c:Expr}{ta tc:TE}
theorem IE{n:String}(hg:Gl X x)(hm:X.mg x=none)(hv:bootBuiltins x=some (.type n))(hn:x≠"__name__":=by decide)(hd:(x==("__debug__":Str))=false:=by decide):PE X 9#4 (tC (.ty n)):=
 Uf (v:=.ty n) hg hm hv rfl hn hd
theorem R0(hg:Gl X x)(hm:X.mg x=some (.ref C))(hd:(x==("__debug__":Str))=false:=by decide):PE X 9#4 (tC (.ref C)):=ON (v:=.ref C) hg hm rfl hd
theorem R4{i:Int}{t:Tok}(hg:Gl X x)(hm:X.mg x=some 20#9)(hd:(x==("__debug__":Str))=false:=by decide):PE X 9#4 (tC 9#3):=ON (v:=.int i) hg hm ⟨t,rfl⟩ hd
theorem FQ(hg:Gl X "isinstance")(hm:X.mg "isinstance"=none)(ha:PE X a ta)(hc:PE X c tc)(h1:starEach [a,c] 1#6=(false,eval a 1#6)::starEach [c] 1#6:=by rfl)(h2:starEach [c] 1#6=(false,eval c 1#6)::starEach [] 1#6:=by rfl)(h3:(backTo pos (starEach [c] 1#6)).any (·.1)=false:=by rfl):PE X (.Call (.Name "isinstance" p) [a,c] [] pos) (ZJ (XR X.K) (EM ta (EM tc JQ))):=
 AV Rt hg hm PyProof.Rows.boot_isinstance (AA ha (AA hc AC h2) h1) 0#1 0#1 h1 h3
end
theorem cL{t u:TS}(Z:St->Hp->Prop)(h1:∀N:St->Hp->Prop,(∀σ' H',Z σ' H'->N σ' H')->t {D with nx:=N} σ H)(h2:∀σ' H',Z σ' H'->u D σ' H'):P6 t u D σ H:=h1 (u D) h2
noncomputable def JV(ns:qX)(lo hi:Option Int):qX:=(ns.drop (HT.Hy ns.length 0 lo)).take (HT.Hy ns.length ns.length hi-HT.Hy ns.length 0 lo)
theorem IF(ns:qX)(lo hi:Option Int):IA 1#5 lo hi=(JV ns lo hi).map 2#1:=by unfold IA JV;rw[cO,iI,List.map_drop]
theorem R7(k:Nat)(v:V):(List.replicate k [v]).flatten=List.replicate k v:=by
 induction k with
 |zero=>rfl
 |succ k ih=>rw[eu,gE,ih,eu];rfl
def AW(K:qW)(x:Str)(st:Stmt)(f:qS):Prop:=(∃fd,M9 K x x st f fd)/\PySem.W.nsIn K mainGlobals x=some (some 6#1)
theorem AZ{K:qW}{x:Str}{st:Stmt}{f:qS}{kV pm ct:qR}(a:PySem.W.nsIn K mainGlobals x=some (some 6#1))(l:K.lookup f=some ⟨oc,od,.func (PySem.W.fnOf x x (DH st) 20#4 8#4 .none kV doc pm an j8 ct),osl⟩)(c:PySem.W.codeIn K j8 x=true)(k:PySem.W.keepIn K 6#1=true):AW K x st f:=
 ⟨⟨_,XN l c k⟩,a⟩
theorem AT.turnedNew{o:HO}(I:AT X ad σ H s)(hf:∀b∈ch,FP X ad H b)(k:∀b u,b∉ch->s.heap.get? b=some u->h'.get? b=some u)(hp:0#6<=p)(new:Aj X.prog X.w (AU H p o) h' p o):AT X ad σ (AU H p o) {s with heap:=h',toks:=t'}:=by
 have hpn:H p=none:=I.hok.fresh hp;have nit:∀b u,H b=some u->b∉ch:=λb u e z=>by rw[(hf b z).1]at e;cases e
 have np:∀b u,s.heap.get? b=some u->b≠p:=λb u e=>dH (cu 16#1 hp)
 refine I.step (g':=s.gens) (d':=s.drawn) (ch:=ch) (λb hb=>⟨(hf b hb).2.2.2.1,(hf b hb).2.1,(hf b hb).2.2.2.2.1,(hf b hb).2.2.2.2.2⟩) (λb u _ _ hc e _=>k b u hc e) (λb u _ _ hc e _=>⟨u.slots,k b u hc e⟩)
  (λb u _ e n=>by rw[AI (np b u e)];exact n) (λb u hc e=>⟨u,k b u hc e⟩) (λb xs e=>by rw[AI (BS e hpn)];exact e) (λb u v e=>by rw[AI (BS e hpn)];exact e)
  (λb ps e=>⟨#[],by rw[AI (BS e hpn),e];simp⟩) (λm hm=>?_) (λb u e=>?_) I.bare
 ·obtain⟨o,es,ep,ho,r⟩:=hm;exact⟨o,es,ep,k _ o (λz=>(hf _ z).2.1 rfl) ho,r⟩
 ·by_cases z:b=p
  ·subst z;rw[AD]at e;cases e;exact new
  ·rw[AI z]at e;refine (I.hok b u e).stay (λc v hc q=>k c v ?_ q) (λc q=>by rw[AI (BS q hpn)];exact q) λc xs q=>by rw[AI (BS q hpn)];exact q
   rcases hc with y|y
   ·rw[y];exact nit b u e
   ·exact nit c _ y
noncomputable def ZQ(K:qW)(a:qS):It:=
 ⟨λi H=>∃xs x,Ad K H a xs/\xs[i]?=some x,λi H v H'=>∃p x,v=.ref p/\H p=none/\H'=AU H p (.tup [.int i,x])/\∀xs,Ad K H a xs->xs[i]?=some x,λi H=>∃xs,Ad K H a xs/\1#3<=i⟩
theorem QI{P:qU}{w:qV}{K:qW}{elts:List Expr}{ctx}{tpos:Pos}(a e it:qS)(hne:e≠it):
  Ht P w K 15#8 (ZQ K a) [e,it] e (λi h=>(∃old,IsEnum h e it ((i:Nat):Int) old)/\h.IsListIter it a i) where
 mem:=by simp
 obj:=λi h st b hb=>by
  rcases st with⟨⟨old,q⟩,o,e1,c,d⟩;rcases dA.mp hb with z|z
  ·rw[z];exact⟨_,q,λv y=>by cases y⟩
  ·rw[cQ.mp z];exact⟨o,e1,λv y=>by rw[d]at y;cases y⟩
 keep:=λi h h' st k=>by obtain⟨⟨old,q⟩,li⟩:=st;exact⟨⟨old,k e 0#3 _ q⟩,li.at λo z=>k it 0#3 o z⟩
 item:=by
  intro X hP hw hK hc i ad s σ H E I hf st hg;subst hP hw hK;rcases hg with⟨xs,x,hq,hx⟩;rcases I.list hq with⟨its,rv,p,hz⟩;obtain⟨u,hu,ru⟩:=rv.get hx;obtain⟨⟨old,he⟩,li⟩:=st;refine wpAny_pyNext_enum_item he li p.isList (x:=u) (by simpa using hu) hne λh1 out li1 ht hsz k1=>?_;refine⟨_,rfl,wpAny_letOwnedTupleGo_enum out λh2 he2 sb=>?_⟩
  have k2:∀b o,b∉[e,it]->s.heap.get? b=some o->h2.get? b=some o:=λb o hb z=>by
   have hb1:b≠e:=λy=>hb (by simp[y])
   have hb2:b≠it:=λy=>hb (by simp[y])
   exact (sb.2 b hb1).trans (k1 b o hb1 hb2 z)
  have hpe:0#6≠e:=gH (cg he);have ht2:h2.get? 0#6=some {cls:=.type "tuple",data:=.seq #[.int ((i:Nat):Int) 7#8,u]}:=(sb.2 _ hpe).trans ht;have hn:H 0#6=none:=I.hok.fresh (cU _);refine⟨.ref 0#6,AU H s.heap.objs.size (.tup [.int ((i:Nat):Int),x]),I.turnedNew (h':=h2) (t':=7#8+1) hf k2 (cU _) ?_,rfl,⟨_,x,rfl,hn,rfl,λys hy=>by rw[I.list_inj hy hq];exact hx⟩,⟨⟨u,?_⟩,?_⟩,λb hb=>?_⟩
  ·exact⟨by show 2<=sizeLine;decide,[.int ((i:Nat):Int) 7#8,u],.cons ⟨_,rfl⟩ (.cons ru .nil),⟨_,ht2,rfl,_,rfl⟩⟩
  ·have ec:(((i+1:Nat)):Int)=((i:Nat):Int)+1:=by push_cast;rfl
   rw[ec];exact he2
  ·exact li1.at λo z=>(sb.2 it (Ne.symm hne)).trans z
  ·have b0:=(hf b hb).1;rw[AI λz=>?_]
   ·exact b0
   ·obtain⟨o,z1,_⟩:=id li;rcases dA.mp hb with y|y
    ·exact hpe (z.symm.trans y)
    ·exact qG (cg z1) (by rw[<-cQ.mp y,z];exact dM _)
 done:=by intro X hP hw hK hc i ad s σ H E I hf st hg;subst hP hw hK;obtain⟨xs,hq,hx⟩:=hg;rcases I.list hq with⟨its,rv,p,hz⟩;obtain⟨⟨old,he⟩,li⟩:=st;rcases hf it (by simp) with⟨f0,f1,f2,f3,f4,f5⟩;have hl:=rv.length;exact wpAny_pyNext_enum_end 5#9 he li p.isList (by simp;lia) λh' eb=>⟨rfl,I.turned (t':=7#8) (λb o hb e=>eb b o hb e) f0 f1 f3 f4 f5⟩
 self:=λ_ _ _ _ _ st h=>by obtain⟨⟨old,he⟩,_⟩:=st;exact wpAny_pyIter_enum he h
section
variable{elts:List Expr}{ctx}{tpos:Pos}
def ZR(K:qW)(ta:TA):TI:=λσ H R=>ta σ H λvs H1=>∃a xs,vs=[.ref a]/\Ad K H1 a xs/\R (ZQ K a) H1
theorem Kb{l:Expr}{p pos:Pos}(hg:Gl X "enumerate")(hm:X.mg "enumerate"=none)(ha:PA X [l] ta)(hs:starEach [l] 1#6=[(false,eval l 1#6)]:=by rfl):PI X 15#8 (.Call (.Name "enumerate" p) [l] [] pos) (ZR X.K ta):=by
 intro ad s σ H R I h;refine Call_ (CS I hg hm boot_enumerate (db (BB (ha pos ad s σ H _ I h) λus s1 z9=>?_) hs rfl));obtain⟨vs,H1,I1,r1,q1⟩:=z9;obtain⟨a,xs,e,hq,q⟩:=q1;subst e;cases r1 with
 |cons r rr =>
  cases rr;cases r;obtain⟨its,rv,pl,hz⟩:=I1.list hq;refine call_enumerate_list pl.isList λh1 he li hsz k1=>?_;refine wpAny_pyIter_enum he ?_;have n1:H1 (1#7+1)=none:=I1.hok.fresh (iY _);have n0:H1 1#7=none:=I1.hok.fresh (cU _);refine⟨1#7+1,[1#7+1,1#7],_,_,H1,rfl,I1.kept (t':=23#3) k1,QI a _ _ (Nat.succ_ne_self _),⟨⟨_,he⟩,li⟩,λb hb=>?_,q⟩;rcases dA.mp hb with z|z
  ·rw[z];exact I1.fpOk (iY _) n1
  ·rw[cQ.mp z];exact I1.fpOk (cU _) n0
theorem IG{K:qW}{g:TG}{tb:TS}(Pv:Nat->St->Hp->Prop)(h0:Pv 0 σ H)(hl:∀i σ H,i<=1#3->Pv i σ H->Ad K H a xs)(hs:∀i x p σ H,xs[i]?=some x->Pv i σ H->H p=none->g 1#9 σ (AU H p (.tup [.int ((i:Nat):Int),x])) λσ2 H2=>tb {D with nx:=Pv (i+1),ct:=Pv (i+1),bk:=D.nx} σ2 H2)(hd:∀σ H,Pv xs.length σ H->D.nx σ H):
  ∃W:Nat->Nat->St->Hp->Prop,(∃m,W 0 m σ H)/\∀i m σ H,W i m σ H ->
   ((ZQ K a).stop i H/\D.nx σ H)\/((ZQ K a).go i H/\∃N:St->Hp->Prop,(∀σ' H',N σ' H'->∃m',m'<m/\W (i+1) m' σ' H')/\∀x H',(ZQ K a).yld i H x H'->g x σ H' λσ2 H2=>tb {D with nx:=N,ct:=N,bk:=D.nx} σ2 H2):=by
 refine⟨λi m σ H=>m=1#3-i/\i<=1#3/\Pv i σ H,⟨1#3,by simp,Nat.zero_le _,h0⟩,?_⟩;rintro i m σ H ⟨rfl,hi,p⟩;have q:=hl i σ H hi p
 by_cases hlt:i<xs.length
 ·refine .inr ⟨⟨xs,xs[i],q,by simp[hlt]⟩,Pv (i+1),λσ' H' p'=>⟨1#3-(i+1),by lia,rfl,hlt,p'⟩,λv H' y=>?_⟩;rcases y with⟨p2,x,e1,e2,e3,y⟩;subst e1 e3;exact hs i x p2 σ H (y xs q) p e2
 ·have e:i=1#3:=by lia
  subst e;exact .inl ⟨⟨xs,q,cU _⟩,hd σ H p⟩
end
theorem OZ:∀{xs:List V} {us:List qR},1#3=10#2->(∀(i:Nat) (x:V) (u:qR),xs[i]?=some x->us[i]?=some u->An x u)->Ar xs us
 |[],[],_,_=>.nil
 |x::xs,u::us,hl,h=>.cons (h 0 x u rfl rfl) (OZ (by simpa using hl) λi y v e1 e2=>h (i+1) y v (by simpa using e1) (by simpa using e2))
 |[],_::_,hl,_=>by simp at hl
 |_::_,[],hl,_=>by simp at hl
section
variable{a:Expr}{cs:List Expr}{ta:TE}{tc:TA}{p tpos:Pos}{ctx}
noncomputable def R9(K:qW):List V->Hp->VK->Prop
 |[x,c],H,Q=>∃t tp vs us b,ZN K H x t/\c=.ref tp/\H tp=some (.tup vs)/\vs.map Rs=us.map some/\PySem.W.kitAny K t us=some b/\Q (.bl b) H
 |_,_,_=>False
theorem LO:∀{vs:List V} {its us:List qR},Ar vs its->vs.map Rs=us.map some->its=us
 |_,_,[],.nil,_=>rfl
 |_,_,_::_,.nil,e=>by simp at e
 |_,_,[],.cons _ _,e=>by simp at e
 |x::xs,_,u::us,.cons r rr,e=>by
  simp only[List.map_cons,List.cons.injEq]at e;obtain⟨e1,e2⟩:=e;rw[LO rr e2]
  congr 1
  cases x with
  |ty n=>cases e1;exact r
  |ref a=>cases e1;exact r
  |_=>cases e1
theorem XT{x:V}{v t:qR}(I:AT X ad σ H s)(rx:An x v)(ty:ZN X.K H x t):(∃φ,PySem.W.KitX X.K v t φ/\φ 23#2)/\v≠.builtin "__main__.__loader__#opaque":=by
 cases ty with
 |of ty =>
  cases ty with
  |non=>cases (show v=Value.none from rx);exact⟨⟨_,PySem.W.kitx_none,8#6⟩,λz=>nomatch z⟩
  |bl y=>cases (show v=Value.bool y from rx);exact⟨⟨_,PySem.W.kitx_bool,8#6⟩,λz=>nomatch z⟩
  |int i=>obtain⟨t,q⟩:=(show ∃t,v=Value.int i t from rx);cases q;exact⟨⟨_,PySem.W.kitx_int,8#6⟩,λz=>nomatch z⟩
  |str y=>obtain⟨t,q⟩:=(show ∃t,v=Value.str y t from rx);cases q;exact⟨⟨_,PySem.W.kitx_str,8#6⟩,λz=>nomatch z⟩
  |flt y=>obtain⟨t,q⟩:=(show ∃t,v=Value.float y t from rx);cases q;exact⟨⟨_,PySem.W.kitx_float,8#6⟩,λz=>nomatch z⟩
  | @lst a xs ea =>
   cases (show v=Value.ref a from rx);obtain⟨_,_,n,_,h1⟩:=(show Aj X.prog X.w H s.heap a 3#2 from I.hok a _ ea);exact⟨⟨_,iW,⟨_,h1,rfl⟩⟩,λz=>nomatch z⟩
  | @frz a ob xs ea =>
   cases (show v=Value.ref a from rx);obtain⟨_,_,_,n,_,h1⟩:=(show Aj X.prog X.w H s.heap a (.frz ob 3#2) from I.hok a _ ea);exact⟨⟨_,iW,⟨_,h1,rfl⟩⟩,λz=>nomatch z⟩
  | @tup a xs ea =>
   cases (show v=Value.ref a from rx);obtain⟨_,_,_,p⟩:=(show Aj X.prog X.w H s.heap a 10#5 from I.hok a _ ea);obtain⟨o,h1,h2,_⟩:=p;exact⟨⟨_,PySem.W.kitx_tuple,⟨o,h1,h2⟩⟩,λz=>nomatch z⟩
  | @dK a kvs ea =>
   cases (show v=Value.ref a from rx);obtain⟨_,_,vs,_,p⟩:=(show Aj X.prog X.w H s.heap a 6#3 from I.hok a _ ea);obtain⟨o,es,ep,h1,h2,_⟩:=p;exact⟨⟨_,iX,⟨o,h1,h2.1⟩⟩,λz=>nomatch z⟩
  | @dT a kvs ea =>
   cases (show v=Value.ref a from rx);obtain⟨_,_,xs,_,o,es,ep,h1,h2,_⟩:=(show Aj X.prog X.w H s.heap a 22#5 from I.hok a _ ea);exact⟨⟨_,iX,⟨o,h1,h2.1⟩⟩,λz=>nomatch z⟩
  | @ins a C dx fs ea cl ha hn htk hm =>
   cases (show v=Value.ref a from rx);obtain⟨mA,O,_⟩:=OS I.hok ea;obtain⟨od,J,_⟩:=O.look;exact⟨⟨_,PySem.W.kitx_own (cl.get _) cl.hd ha hn htk hm,J⟩,λz=>nomatch z⟩
 | @exc a D dy n e ck =>
  cases (show v=Value.ref a from rx);obtain⟨x,_,_⟩:=(show Aj X.prog X.w H s.heap a (.ext (Gi a 2#7 _ _)) from I.hok a _ e);exact⟨⟨_,LM ck,x⟩,λz=>nomatch z⟩
theorem QJ:Df X (.builtin "isinstance") (R9 X.K):=by
 intro ad s σ H xs us Q I rv h;rcases xs with _|⟨x,_|⟨c,_|⟨_,_⟩⟩⟩
 ·exact h.elim
 ·exact h.elim
 rotate_left
 ·exact h.elim
 rcases h with⟨t,tp,vs,ucs,b,ty,rfl,ht,hcs,k,q⟩;rcases OR rv with⟨v1,v2,rfl,r1,r2⟩;cases (show v2=Value.ref tp from r2);rcases (show Aj X.prog X.w H s.heap tp (.tup vs) from I.hok tp _ ht) with⟨_,its,rits,o,ho,hcl,n,hd⟩;rcases o with⟨c1,c2,c3,c4⟩;dsimp only at hcl hd;subst hcl hd;have e:=LO rits hcs;subst e;rcases XT I r1 ty with⟨⟨φ,Z,hφ⟩,hx⟩;exact PySem.W.kia_tup Z I.kIn hφ ho k hx λtk=>⟨.bl b,H,I.tok tk,rfl,q⟩
theorem Uv(hg:Gl X "isinstance")(hm:X.mg "isinstance"=none)(ha:PE X a ta)(hc:PA X cs tc)(h1:starEach [a,.Tuple cs ctx tpos] 1#6=(false,eval a 1#6)::starEach [.Tuple cs ctx tpos] 1#6:=by rfl)(h2:starEach [.Tuple cs ctx tpos] 1#6=(false,eval (.Tuple cs ctx tpos) 1#6)::starEach [] 1#6:=by rfl)(h3:(backTo pos (starEach [.Tuple cs ctx tpos] 1#6)).any (·.1)=false:=by rfl):PE X (.Call (.Name "isinstance" p) [a,.Tuple cs ctx tpos] [] pos) (ZJ (R9 X.K) (EM ta (EM (Ra tc) JQ))):=
 AV QJ hg hm PyProof.Rows.boot_isinstance (AA ha (AA (DZ hc) AC h2) h1) 0#1 0#1 h1 h3
end
section
variable{K:qW}
theorem WF:PySem.W.kitOne K (.type "int") (.type "int")=some true:=by kernel_rfl
theorem WG:PySem.W.kitOne K (.type "int") (.type "bool")=some false:=by kernel_rfl
theorem WH:PySem.W.kitOne K (.type "bool") (.type "int")=some true:=by kernel_rfl
theorem WI:PySem.W.kitOne K (.type "bool") (.type "bool")=some true:=by kernel_rfl
theorem WJ:PySem.W.kitOne K (.type "NoneType") (.type "int")=some false:=by kernel_rfl
theorem WK:PySem.W.kitOne K (.type "str") (.type "int")=some false:=by kernel_rfl
theorem WL:PySem.W.kitOne K (.type "list") (.type "int")=some false:=by kernel_rfl
theorem WM:PySem.W.kitOne K (.type "list") (.type "list")=some true:=by kernel_rfl
theorem WN:PySem.W.kitOne K (.type "tuple") (.type "int")=some false:=by kernel_rfl
end
structure B3(P:qU)(w:qV)(K:qW)(mg:Str->Option qR)(base:Heap)(k:Nat)(f:qS)(ps:List Str)(sp:Sp):Prop where
 ex:∃fd,FC P w K mg base 13#8 k f fd ps sp/\Ff K fd ps []
 kp:PySem.W.keepIn K 6#1=true
section
variable{P:qU}{w:qV}{K:qW}{mg:Str->Option qR}{base:Heap}{x:Str}{st:Stmt}{f:qS}{N ps:List Str}{k:Nat}
theorem M9.ok0(F:M9 K x qual st f fd)(S:AJ N ps 8#4)(len:∀vs H Q E,sp vs H Q E->4#5=5#5)(hbody:∀(j8:qR) (A:Around) (outer:List Env) (s:qT) (H:Hp) (vs:List V) (Q:VK) (E:XK),B8 k 14#0->sp vs H Q E ->
   ∃t,Gg (ES 13#8 P w K mg base N qual 8#4 f j8 A outer s H E).nox 20#4 t/\t {nx:=λ_ H'=>Q .non H',rt:=Q} 14#9 H):FC P w K mg base 13#8 (k+1) f fd ps sp:=
 F.okX S len λj8 A outer s H vs Q E hr hsp=>by obtain⟨t,h,q⟩:=hbody j8 A outer s H vs Q E hr hsp;exact⟨t,h.nox,q⟩
abbrev Ee(x qual:Str)(st:Stmt)(ps:List Str):Prop:=∀(kV doc pm:qR) (an:Option qS) (j8 ct:qR) (us:List qR),us.length=ps.length->bindArgs (PySem.W.fnOf x qual (DH st) (Bi st) (AH st) .none kV doc pm an j8 ct) ⟨us,[]⟩=pure (ps.zip us)
theorem Uw(D:∃fd,M9 K x qual st f fd)(S:AJ N ps 8#4)(bd:Ee x qual st ps)(len:∀vs H Q E,sp vs H Q E->4#5=5#5)(hbody:∀(j8:qR) (A:Around) (outer:List Env) (s:qT) (H:Hp) (vs:List V) (Q:VK) (E:XK),B8 k 14#0->sp vs H Q E ->
   ∃t,Gg (ES 13#8 P w K mg base N qual 8#4 f j8 A outer s H E).nox 20#4 t/\t {nx:=λ_ H'=>Q .non H',rt:=Q} 14#9 H):B3 P w K mg base (k+1) f ps sp:=by
 obtain⟨fd,F⟩:=D;exact⟨⟨fd,F.ok0 S len hbody,F.binds bd⟩,F.kp⟩
theorem Ux(D:∃fd,M9 K x qual st f fd)(S:AJ N ps 8#4)(bd:Ee x qual st ps)(len:∀vs H Q E,sp vs H Q E->4#5=5#5)(hbody:∀(j8:qR) (A:Around) (outer:List Env) (s:qT) (H:Hp) (vs:List V) (Q:VK) (E:XK),B8 k 14#0->sp vs H Q E ->
   ∃t,Gg 16#8 20#4 t/\t {nx:=λ_ H'=>Q .non H',rt:=Q} 14#9 H):B3 P w K mg base (k+1) f ps sp:=by
 obtain⟨fd,F⟩:=D;exact⟨⟨fd,F.okX S len hbody,F.binds bd⟩,F.kp⟩
end
section
variable{k:Nat}{f:qS}{ps:List Str}{E:St->XK}{EX:XK}{x:Str}{np p cpos:Pos}{e:Expr}{es:List Expr}{t:TA}
theorem Ba(G:B3 X.prog X.w X.K X.mg X.base k f ps sp)(hr:B8 k X.A)(hg:Gl X x)(hm:X.mg x=some 6#1)(hx:Fj (JU X.prog X.w) X E)(ha:PA X (e::es) t)(hdb:(x==("__debug__":Str))=false:=by decide)(he:starEach (e::es) 1#6=(false,eval e 1#6)::starEach es 1#6:=by rfl)(hpl:(backTo pos 5#2).any (·.1)=false:=by rfl):
  PE X (.Call 21#0 (e::es) [] pos) (Ka sp [] E t):=by
 rcases G with⟨⟨fd,F,b⟩,kp⟩;exact Rq F hr hg hm kp b .nil hx ha hdb he hpl
theorem Di{i:Int}(hg:Gl X x)(hm:∃t,X.mg x=some 20#9)(hd:(x==("__debug__":Str))=false:=by decide):PE X 9#4 (tC 9#3):=by obtain⟨t,hm⟩:=hm;exact R4 hg hm hd
end
inductive SA(K:qW)(vs:List V)(H:Hp)(Q:VK)(z3_:XK):Prop
 |m(a:qS)(ns:qX)(k:Nat):vs=[.ref a,.int k]->Ad K H a 1#5->1#4<=63->Q (.int (ns.getD k 0)) H->SA K vs H Q z3_
noncomputable def Kd(H:Hp):V->Prop
 |.int _=>True
 |.bl _=>True
 |.non=>True
 |.str _=>True
 |.ref a=>∃xs,H a=some 3#2\/H a=some 10#5
 |_=>False
theorem Kd.same(e:AF H H'):∀{x:V},Kd H x->Kd H' x
 |.int _,_=>8#6
 |.bl _,_=>8#6
 |.non,_=>8#6
 |.str _,_=>8#6
 |.ref a,h=>by obtain⟨xs,h⟩:=h;exact⟨xs,h.elim (λq=>.inl (e _ _ q)) λq=>.inr (e _ _ q)⟩
noncomputable def bD:V->Bool
 |.int _=>true
 |_=>false
inductive Kc(vs:List V)(H:Hp)(Q:VK)(z3_:XK):Prop
 |m(x:V):vs=[x]->Kd H x->Q (.bl (bD x)) H->Kc vs H Q z3_
noncomputable def UZ(g:Int):V->Bool
 |.int i=>decide (0<=i)&&decide (i<g)
 |_=>false
inductive SB(vs:List V)(H:Hp)(Q:VK)(z3_:XK):Prop
 |m(x:V)(g:Int):vs=[x,.int g]->Kd H x->Q (.bl (UZ g x)) H->SB vs H Q z3_
noncomputable def Cb(g:Int)(xs:List V):Option Nat:=xs.findIdx? λx=>!UZ g x
noncomputable def NQ(g n:Int)(ns:qX):Int:=ns.foldl (λm x=>m*g+x) n
noncomputable def Aw(g:Int)(ns:qX):Int:=NQ g 0 ns
variable{g:Int}
theorem IH(h:Cb g xs=none):∃ns:qX,xs=ns.map 2#1/\∀n∈ns,0<=n/\n<g:=by
 unfold Cb at h;rw[hZ]at h
 induction xs with
 |nil=>exact⟨[],rfl,λn z=>qG z 0#3⟩
 |cons x xs ih =>
  obtain⟨ns,e,b⟩:=ih λy hy=>h y (cZ _ hy)
  have hx:=h x ce;cases x with
  |int i =>
   simp only[UZ,Bool.not_eq_false',Bool.and_eq_true,decide_eq_true_eq]at hx;exact⟨i::ns,by rw[e];rfl,λn z=>(dA.mp z).elim (λq=>q▸hx) (b n)⟩
  |_=>simp[UZ]at hx
theorem FR{ns:qX}(h:∀n∈ns,0<=n/\n<g):Cb g 1#5=none:=by unfold Cb;rw[hZ];intro x hx;obtain⟨n,hn,e⟩:=c6.mp hx;subst e;have q:=h n hn;simp[UZ,q.1,q.2]
theorem HU{ns:qX}:∀x∈ns.map 2#1,Kd H x:=λx hx=>by obtain⟨n,_,e⟩:=c6.mp hx;subst e;exact 8#6
end L2
namespace L2
open PySem
variable{D:GC}{H':Hp}{g:Int}{i:Nat}{xs:List V}{σ:St}
theorem XU{t:TS}(Z:Hp->Prop)(hz:Z H')(h:∀H2,Z H2->t D σ H2):t D σ H':=h H' hz
theorem II{ns ms:qX}(h:ns.map 2#1=ms.map 2#1):ns=ms:=(List.map_inj_right (f:=2#1) λ_ _ e=>V.int.inj e).mp h
theorem NR{x:V}(hb:Cb g (xs.take i)=none)(hx:xs[i]?=some x)(hs:UZ g x=true):Cb g (xs.take (i+1))=none:=by
 unfold Cb at *;rw[hZ]at hb⊢;intro y hy;rw[ic,hx]at hy;rcases cV.mp hy with z|z
 ·exact hb y z
 ·have e:y=x:=by simpa using z
  rw[e,hs];rfl
theorem NS{x:V}(hb:Cb g (xs.take i)=none)(hx:xs[i]?=some x)(hs:UZ g x=false):Cb g xs=some i:=by
 obtain⟨hi,ex⟩:=cP.mp hx
 have e:xs=xs.take i++x::xs.drop (i+1):=by rw[<-ex,<-fK hi,df]
 unfold Cb at *;rw[e,List.findIdx?_append,hb];simp[List.findIdx?_cons,hs,List.length_take];lia
theorem Bz{ns:qX}{x:V}(h:(ns.map 2#1)[i]?=some x):∃n,ns[i]?=some n/\x=.int n:=by rw[cT]at h;obtain⟨n,e1,e2⟩:=c7.mp h;exact⟨n,e1,e2.symm⟩
theorem Fk{n:Int}{ns:qX}(h:ns[i]?=some n):Aw g (ns.take (i+1))=Aw g (ns.take i)*g+n:=by unfold Aw NQ;rw[ic,h,gu];rfl
noncomputable def low(g:Int):qX->Int
 |[]=>0
 |x::r=>x+g*low g r
theorem LR(g x:Int):∀l:qX,low g (l++[x])=low g l+x*g^6#9
 |[]=>by simp[low]
 |y::l=>by
  rw[iz,low,low,LR g x l,dU,dD,Int.mul_add,Int.add_assoc]
  congr 2
  rw[eT g,Int.mul_assoc]
theorem IJ(g x:Int)(l:qX):Aw g (l++[x])=Aw g l*g+x:=by unfold Aw NQ;rw[gu];rfl
theorem Ke(g:Int):∀l:qX,Aw g l.reverse=low g l
 |[]=>rfl
 |x::l=>by rw[List.reverse_cons,IJ,Ke g l,low,eT,gZ]
theorem Oa(g:Int)(ns:qX):Aw g ns=low g ns.reverse:=by rw[<-Ke,List.reverse_reverse]
end L2
namespace L2
open PySem PySem.Spec PyProof.Rows
variable{C a:qS}{D:GC}{E Q:qR->qT->Prop}{H H' H2:Hp}{T:String}{X:Cx}{fp:List qS}{h' h1:Heap}{i:Nat}{items:Array qR}{ad:List (qS×Obj)}{s s':qT}{scope:Scope}{ta:TA}{te:TE}{tg:Expr}{u:qR}{xs:List V}{α:Type}{σ:St}
mutual
inductive GK(K:qW)(H:Hp):V->PyData->Prop
 |non:GK K H .non .none
 |bl (b:Bool):GK K H (.bl b) (.bool b)
 |int (i:Int):GK K H 9#3 9#3
 |str (x:Str):GK K H (.str x) (.str x)
 |lst {a:qS} {xs:List V} {ds:List PyData}:Ad K H a xs->GL K H xs ds->GK K H 2#0 (.list ds)
 |tup {a:qS} {xs:List V} {ds:List PyData}:Ai K H a xs->GL K H xs ds->GK K H 2#0 (.tuple ds)
inductive GL(K:qW)(H:Hp):List V->List PyData->Prop
 |nil:GL K H [] []
 |cons {x:V} {xs:List V} {d:PyData} {ds:List PyData}:GK K H x d->GL K H xs ds->GL K H (x::xs) (d::ds)
end
theorem GK.reads(I:AT X ad σ H s){x:V}{d:PyData}(h:GK X.K H x d)(r:An x u):∃as,Reads s.heap u d as:=by
 revert u
 refine GK.rec (motive_1:=λx d _=>∀{u:qR},An x u->∃as,Reads s.heap u d as) (motive_2:=λxs ds _=>∀{us:List qR},Ar xs us->∃as,ReadsAll s.heap us ds as) ?_ ?_ ?_ ?_ ?_ ?_ ?_ ?_ h
 ·intro _ r;cases r;exact⟨_,.none⟩
 ·intro b _ r;cases r;exact⟨_,.bool b⟩
 ·intro i _ r;obtain⟨t,e⟩:=r;subst e;exact⟨_,.int i t⟩
 ·intro x _ r;obtain⟨t,e⟩:=r;subst e;exact⟨_,.str x t⟩
 ·intro _ _ _ hq _ ih _ r;cases r;obtain⟨its,rv,⟨o,n,e,c,_,d⟩,_⟩:=I.list hq;obtain⟨as,q⟩:=ih rv;exact⟨_,.list e c d (by simpa using q)⟩
 ·intro _ _ _ hq _ ih _ r;cases r;obtain⟨its,rv,⟨o,e,c,n,d⟩,_⟩:=I.tuple hq;obtain⟨as,q⟩:=ih rv;exact⟨_,.tuple e c d (by simpa using q)⟩
 ·intro _ r;cases r;exact⟨_,.nil⟩
 ·intro _ _ _ _ _ _ ih1 ih2 _ r;cases r with
  |cons r rr =>
   obtain⟨as,q⟩:=ih1 r;obtain⟨bs,q2⟩:=ih2 rr;exact⟨_,.cons q q2⟩
theorem LS{K:qW}:∀ns:qX,GL K H 1#5 7#2
 |[]=>.nil
 |n::ns=>.cons (.int n) (LS ns)
theorem LU:∀ns:qX,PyData.canLayAll0 7#2=true
 |[]=>by simp only[List.map_nil,PyData.canLayAll0]
 |n::ns=>by simp only[List.map_cons,PyData.canLayAll0,PyData.canLay0,LU ns,Bool.and_self]
theorem cN{K:qW}{t:qR}(h:PySem.W.kitOne K t (.type T)=some true)(r:List qR):PySem.W.kitAny K t (.type T::r)=some true:=by unfold PySem.W.kitAny;rw[h]
theorem Dj{K:qW}(h:X.K=K):WA X (Rb K):=h▸OW
theorem D8{K:qW}(h:X.K=K):WA X (Uk K):=h▸Rc
noncomputable def EN(X:Cx)(s2:qT)(H2:Hp)(env:Env)(fp:List qS)(N:List Str):Cx:={X with N:=N,s₀:=s2,H₀:=H2,env:=env,outer:=8#0,ex:=fp,fn:=λ_=>false,pn:=[],xe:=λ_ _=>False}
theorem WO{s2:qT}{env:Env}{N:List Str}:(EN X s2 H2 env fp N).K=X.K:=rfl
noncomputable def HI(env:Env):List (Str×qS)->Prop
 |[]=>True
 | (y,c)::r=>env.cells.lookup y=some c/\HI env r
theorem HI.at'{env:Env}:∀{cl:List (Str×qS)},HI env cl->∀{y:Str} {c:qS},cl.lookup y=some c->env.cells.lookup y=some c
 |[],_,_,_,h=>by cases h
 | (z,d)::r,⟨h1,h2⟩,y,c,h=>by
  rw[gN]at h;cases e:y==z with
  |true =>
   rw[e]at h;cases h;rw[eq_of_beq e];exact h1
  |false =>
   rw[e]at h;exact h2.at' h
noncomputable def ae:Option NameKind->Bool
 |some .cell=>true
 |some .free=>true
 |_=>false
theorem SC{k:Option NameKind}(h:ae k=true):k=some .cell\/k=some .free:=by
 unfold ae at h
 split at h
 ·exact .inl rfl
 ·exact .inr rfl
 ·cases h
noncomputable def IK(X:Cx)(scope:Scope)(cl:List (Str×qS)):List (Nat×Str)->Prop
 |[]=>True
 | (j,y)::r=>(X.N[j]?=some y/\ae (X.env.scope.names.lookup y)=true/\(relabel scope 1#6).names.lookup y=X.env.scope.names.lookup y/\(cl.lookup y).isSome=true)/\IK X scope cl r
theorem IK.at'{cl:List (Str×qS)}:∀{fv:List (Nat×Str)},IK X scope cl fv->∀q∈fv,X.N[q.1]?=some q.2/\ae (X.env.scope.names.lookup q.2)=true/\(relabel scope 1#6).names.lookup q.2=X.env.scope.names.lookup q.2/\(cl.lookup q.2).isSome=true
 |[],_,q,h=>by cases h
 | (j,y)::r,⟨h1,h2⟩,q,h=>(dA.mp h).elim (λe=>by rw[e];exact h1) λz=>h2.at' q z
noncomputable def DA(σ:St)(fv:List (Nat×Str)):List (Option V):=fv.map λq=>(σ[q.1]?).join
def PF(X:Cx)(ifs:List Expr)(t:TT):=∀(ad:List (qS×Obj)) (s:qT) (σ:St) (H:Hp) (Q:Bool->Hp->Prop),AT X ad σ H s->t σ H Q ->
 wpAny 1#0 X.A (forIn ifs true λc r=>if r=true then do let ok <-isTrue c X.env (eval c 1#6);pure (ForInStep.yield ok) else pure (ForInStep.yield r)) (TP X ad σ Q) X.xe s
def LV:TT:=λ_ H Q=>Q true H
theorem Bm:PF X [] LV:=λad s σ H Q I h=>qD ⟨H,I,h⟩
theorem IL{c:Expr}{t:TT}(h:PT X c t):PF X [c] t:=λad s σ H Q I q=>by simp only[List.forIn_cons,List.forIn_nil,if_true];exact qC (qC (BB (h ad s σ H Q I q) λb s1 z=>qD (qD z)))
def Dk(J:It)(tt:TT)(te:TE)(σf:List (Option V))(D:qS)(Q:VK)(H:Hp):=∃W:Nat->Nat->List V->Hp->Prop,(∃n,W n 0 [] (AU H D (.lst [])))/\∀n i j6 H2,W n i j6 H2 ->
 (J.stop i H2/\Q 2#7 H2)\/(J.go i H2/\∃N:List V->Hp->Prop,(∀l H',N l H'->∃n',n'<n/\W n' (i+1) l H')/\∀v H3,J.yld i H2 v H3->tt (some v::σf) H3 λb H4 =>
  if b=true then te (some v::σf) H4 λy H5=>H5 D=some 4#8/\25#0<sizeLine/\N (j6++[y]) (AU H5 D (.lst (j6++[y]))) else N j6 H4)
def SD(wi:TI)(fv:List (Nat×Str))(tt:TT)(te:TE):TE:=λσ H Q=>wi σ H λJ H1=>∀D,H1 D=none->Dk J tt te (DA σ fv) D Q H1
section
variable{X:Cx}{x:Str}{px pos:Pos}{elt iter:Expr}{ifs:List Expr}{scope:Scope}{cl:List (Str×qS)}{fv:List (Nat×Str)}{wi:TI}{tt:TT}{te:TE}{ad:List (qS×Obj)}{σ:St}{H2:Hp}{s2:qT}{fp:List qS}{it:qS}{tn:Nat->Heap->Prop}{J:It}
theorem SE{N:List Str}(I2:AT X ad σ H2 s2)(f2:∀b∈fp,FP X ad H2 b)(o2:∀b∈fp,∃o,s2.heap.get? b=some o/\∀v,13#1≠.cell v)(hC:3#4<=C)(hk:15#0=.function)(hcl:HI X.env cl)(hhas:((relabel scope 1#6).names.all λz=>!(z.2==.cell||z.2==.free)||(cl.lookup z.1).isSome)=true):(EN X s2 H2 1#1 fp N).Ok where
 mod:=I2.ok.mod
 kind:=hk
 glob:=I2.ok.glob
 blt:=I2.ok.blt
 above:=hC
 inj:=λx y c h1 h2=>I2.ok.inj x y c (hcl.at' h1) (hcl.at' h2)
 has:=λy h=>by
  have key:∀k:NameKind,(relabel scope 1#6).names.lookup y=some k->(k==.cell||k==.free)=true->∃c,cl.lookup y=some c:=λk hl hk=>by
   have mem:(y,k)∈(relabel scope 1#6).names:=by
    generalize (relabel scope 1#6).names=l at hl
    induction l with
    |nil=>cases hl
    |cons q r ih =>
     rw[gN]at hl;cases e:y==q.1 with
     |true =>
      rw[e]at hl;cases hl;rw[eq_of_beq e];exact ce
     |false =>
      rw[e]at hl;exact cZ _ (ih hl)
   have z:=List.all_eq_true.mp hhas _ mem;simp only[hk,Bool.not_true,Bool.false_or]at z;exact fg.mp z
  rcases h with h|h
  ·exact key _ h rfl
  ·exact key _ h rfl
 cab:=λ_ _ h=>nomatch h
 hd:=I2.ok.hd
 frames:=I2.ok.frames
 stk:=.inl rfl
 exf:=λb hb=>by obtain⟨o,e,_⟩:=o2 b hb;exact⟨dH (cu 16#1 hC),λy c h=>(f2 b hb).2.2.2.2.1 y c (hcl.at' h)⟩
 bs:=λb o e=>I2.bs b o e
 bsz:=dO I2.ok.bsz I2.sz
 noex:=λb o e hb=>by
  obtain⟨_,_,_,h,_⟩:=f2 b hb;rcases h with h|h
  ·exact I2.ok.noex b o e h
  ·exact qG (cu 16#1 (dO I2.ok.bsz h)) (dM _)
 exfs:=λb hb z=>(dA.mp (I2.stkSub b z)).elim (f2 b hb).2.1 (f2 b hb).2.2.1
 funs:=I2.stack
 frf:=I2.stkFree
theorem IM{env:Env}{N:List Str}{σ':St}{pl:List (qS×Obj)}(I2:AT X ad σ H2 s2)(f2:∀b∈fp,FP X ad H2 b)(Ib:AT (EN X s2 H2 env fp N) pl σ' H' s'):AT X ad σ H' s':=
 I2.call' (ch:=fp) Ib.os Ib.base Ib.hok Ib.bare λb hb=>⟨(f2 b hb).2.2.2.1,(f2 b hb).2.1,(f2 b hb).2.2.2.2.1,(f2 b hb).2.2.2.2.2⟩
theorem XV{D:qS}{t1:Nat}(I2:AT X ad σ H2 s2)(f2:∀b∈fp,FP X ad H2 b)(o2:∀b∈fp,∃o,s2.heap.get? b=some o/\∀v,13#1≠.cell v)(hD:3#4<=D)(hC:3#4<=C)(hDC:D≠C)(old:∀b o,s2.heap.get? b=some o->h1.get? b=some o)(hl:h1.PlainList D #[])(hn:h1.Ns C (λ_=>none))(hk:15#0=.function)(hcl:HI X.env cl)(hhas:((relabel scope 1#6).names.all λz=>!(z.2==.cell||z.2==.free)||(cl.lookup z.1).isSome)=true)(hfv:IK X scope cl fv):
  AT (EN X s2 H2 1#1 fp (x::fv.map (·.2))) [] (none::DA σ fv) (AU H2 D (.lst [])) {s2 with heap:=h1,toks:=t1} where
 ok:=SE I2 f2 o2 hC hk hcl hhas
 os:=rfl
 bare:=I2.bare
 base:=Un.laid old hD (I2.hok.fresh hD)
 loc:=by
  refine⟨_,hn,λi y v h1' h2' _=>?_⟩;cases i with
  |zero=>cases h2'
  |succ i =>
   have h1':(fv.map (·.2))[i]?=some y:=h1';have h2':(DA σ fv)[i]?=some 13#6:=h2'
   obtain⟨q,hq,e1⟩:∃q,fv[i]?=some q/\q.2=y:=by rw[cT]at h1';exact c7.mp h1'
   subst e1;rcases hfv.at' q (cp hq) with⟨g1,g2,g3,g4⟩;unfold DA at h2';rw[cT,hq]at h2';have e2:(σ[q.1]?).join=some v:=Option.some.inj h2'
   have e3:σ[q.1]?=some 13#6:=by
    cases z:σ[q.1]? with
    |none=>rw[z]at e2;cases e2
    |some w=>rw[z]at e2;exact qQ some e2
   obtain⟨m,_,lk⟩:=I2.loc;have g2:=SC g2;obtain⟨u,ru,lu⟩:=lk q.1 q.2 v g1 e3 (.inr g2);refine⟨u,ru,.inr ⟨g2.imp (λz=>g3.trans z) (λz=>g3.trans z),?_⟩⟩;obtain⟨c,hc⟩:=fg.mp g4;refine⟨c,hc,?_⟩;rcases lu with⟨kk,_⟩|⟨_,c',e',⟨o,eo,d⟩⟩
   ·rcases g2 with z|z<;>(rw[show X.env.kindOf q.2=_ from z]at kk;cases kk)
   ·have e4:=hcl.at' hc;rw[e']at e4;cases e4;exact⟨o,old c o eo,d⟩
 cell:=λy c h=>by rcases I2.cell y c (hcl.at' h) with⟨v,o,eo,d⟩;exact⟨v,o,old c o eo,d⟩
 free:=by show AU H2 D _ C=none;rw[AI (Ne.symm hDC)];exact I2.hok.fresh hC
 freeC:=λy c h=>by rcases I2.cell y c (hcl.at' h) with⟨v,o,eo,d⟩;rw[AI (dH (cu (cg eo) hD))];exact I2.freeC y c (hcl.at' h)
 pin:=λp hp=>nomatch hp
 hok:=I2.hok.laid old hD (by obtain⟨n,e⟩:=hl;exact⟨Nat.zero_le _,[],n,.nil,by simpa using e⟩)
 len:=by simp[DA,EN]
theorem Ob{RR:qR->qS->Result->qT->Prop}{Q:VK}(hc:23#4=true)(I2:AT X ad σ H2 s2)(T:Ht X.prog X.w X.K 22#6 J fp it tn)(st2:tn 0 s2.heap)(f2:∀b∈fp,FP X ad H2 b)(hcell:∀y∈11#7,y.2≠.cell)(hk:15#0=.function)(hx:scope.names.lookup x=some .local)(hcl:HI X.env cl)(hhas:((relabel scope 1#6).names.all λz=>!(z.2==.cell||z.2==.free)||(cl.lookup z.1).isSome)=true)(hfv:IK X scope cl fv)(hnd:(x::fv.map (·.2)).Nodup)(hf:∀s H C fp,PF (EN X s H 1#1 fp (x::fv.map (·.2))) ifs tt)(he:∀s H C fp,PE (EN X s H 1#1 fp (x::fv.map (·.2))) elt te)(hw:∀D,H2 D=none->Dk J tt te (DA σ fv) D Q H2)(hRR:∀D C σ' H' s',3#4<=C->AT (EN X s2 H2 1#1 fp (x::fv.map (·.2))) [] σ' H' s'->Q 2#7 H'->RR 2#7 C (.ok .next) s'):
  wpAny 1#0 X.A (newList []) (λj6 s3=>wpAny 1#0 X.A (newFunctionEnv scope X.env.globals cl [] X.env.qual none .none (some 1#6)) (λcenv s4 =>
   codeAny 1#0 X.A (.compStart (.ListComp elt [⟨.Name x px,iter,ifs,0⟩] scope pos) 0 6#8 j6 {cenv with scope:=relabel scope 1#6}) (RR j6 cenv.locals) s4) E s3) E s2:=by
 refine wpAny_newObj_type (wpAny_newFunctionEnv hcell (by intro y hy;simp at hy) (λh1 hns hsb=>?_) hk);dsimp only at hns hsb⊢;generalize hH:s2.heap.push {cls:=.type "list",dict:=none,data:=.seq ([]:List qR).toArray}=HH at hns hsb⊢;have eC:14#6=3#4+1:=by rw[<-hH,eS]
 have hDC:3#4≠14#6:=by rw[eC];exact dH (fR _)
 have hC:3#4<=14#6:=by rw[eC];exact iY _
 have old:∀b o,s2.heap.get? b=some o->h1.get? b=some o:=λb o e=>hsb.extBut b o (by rw[eC];exact dH (d5 16#1)) (cS _ (hH▸cS _ e))
 have hacc:h1.PlainList s2.heap.objs.size #[]:=⟨_,hsb.extBut _ _ hDC (cS _ (hH▸cy _ rfl))⟩;have o2:=T.obj _ _ st2;rcases hw s2.heap.objs.size (I2.hok.fresh (cU _)) with⟨W,⟨n0,w0⟩,turn⟩;generalize eD:3#4=D at *;generalize eCC:14#6=C at *;have Ib:=XV (x:=x) (t1:=s2.toks+([]:List (Str×qR)).length) I2 f2 o2 (by rw[eD];exact cU _) (by rw[eD];exact hC) hDC old hacc hns hk hcl hhas hfv;have st1:tn 0 h1:=T.keep _ _ _ st2 λb _ o e=>old b o e
 have nD:∀b∈fp,b≠D:=λb hb=>by obtain⟨o,e,_⟩:=o2 b hb;rw[<-eD];exact dH 16#1
 have fr1:∀b∈fp,AU H2 D (.lst []) b=none:=λb hb=>by rw[AI (nD b hb)];exact (f2 b hb).1
 have hxl:(relabel scope 1#6).names.lookup x=some .local:=lookup_relabel_local hx
 have stat:∀{H':Hp},(∀b∈fp,H' b=none)->∀b∈fp,FP (EN X s2 H2 1#1 fp (x::fv.map (·.2))) [] H' b:=λhn b hb=>by obtain⟨o,e,_⟩:=o2 b hb;exact⟨hn b hb,λz=>qG 16#1 (by rw[z,eD];exact Nat.not_lt.mpr hC),λz=>(dA.mp (I2.stkSub b z)).elim (f2 b hb).2.1 (f2 b hb).2.2.1,.inl hb,λy c h=>(f2 b hb).2.2.2.2.1 y c (hcl.at' h),λq hq=>nomatch hq⟩
 have loop:codeAny 1#0 X.A (.compLoop (.ListComp elt [⟨.Name x px,iter,ifs,0⟩] scope pos) 0 6#8 2#7 1#1) (RR 2#7 C) {s2 with heap:=h1,toks:=s2.toks+([]:List (Str×qR)).length}:=by
  refine codeAny_compLoop_tests (λn s'=>∃i j6 σb H',AT (EN X s2 H2 1#1 fp (x::fv.map (·.2))) [] σb H' s'/\σb.tail=DA σ fv/\tn i 14#2/\(∀b∈fp,H' b=none)/\W n i j6 H') ?_ n0 ⟨0,[],_,_,Ib,rfl,st1,fr1,w0⟩;intro n s3 hRq;rcases hRq with⟨i,j6,σ3,H3,I3,t3,st3,fr3,w3⟩;rcases turn n i j6 H3 w3 with⟨stop,qn⟩|⟨go,NN,hNN,step⟩
  ·refine BB (T.done (EN X s2 H2 1#1 fp (x::fv.map (·.2))) rfl rfl rfl hc i [] s3 σ3 H3 _ I3 29#0 st3 stop) λr s4 q4=>?_;obtain⟨hr,I4⟩:=q4;subst hr;exact hRR D C σ3 H3 s4 hC I4 qn
  ·refine BB (T.item (EN X s2 H2 1#1 fp (x::fv.map (·.2))) rfl rfl rfl hc i [] s3 σ3 H3 _ I3 29#0 st3 go) λr s4 q4=>?_;obtain⟨u,hr,h4⟩:=q4;subst hr;refine (show wpAny _ _ (letOwnedTupleGo 22#6 6#8 u >>= λ_=>assign 22#6 1#1 u) _ _ _ from qC (BB h4 λ_ s5 q5=>?_));rcases q5 with⟨v,H5,I5,r5,y5,st5,fr5⟩;have I5':=I5.pinned (stat fr5) (T.obj _ _ st5);have again:∀{σ7:St} {H7:Hp} {s7:qT},AT (EN X s2 H2 1#1 fp (x::fv.map (·.2))) ([]++GF fp s5.heap) σ7 H7 s7->tn (i+1) s7.heap/\∀b∈fp,H7 b=none:=λ{σ7 H7 s7} I7=>by refine⟨T.keep _ _ _ st5 λb hb o e=>(I7.pin (b,o) (dW _ (dW _ (Cc hb e)))).1,λb hb=>?_⟩;obtain⟨o,e,d⟩:=T.obj _ _ st5 b hb;exact (I7.pin (b,o) (dW _ (dW _ (Cc hb e)))).2.1
   have sσ:σ3.set 0 13#6=some v::DA σ fv:=by
    cases σ3 with
    |nil =>
     have z:=I3.len;simp[EN]at z
    |cons a b =>
     have z:b=DA σ fv:=t3;rw[z];rfl
   have g:=HN (X:=EN X s2 H2 1#1 fp (x::fv.map (λq:Nat×Str=>q.2))) (pos:=px) (i:=0) (x:=x) hnd rfl (.inl hxl) (.inr hxl);refine wpAny_noRaise (BB (g _ s5 σ3 H5 v u (λσ' H'=>σ'=some v::DA σ fv/\H'=H5) I5' r5 ⟨sσ,rfl⟩) λ_ s6 q6=>?_);rcases q6 with⟨σ6,H6,I6,rfl,rfl⟩;refine wpAny_noRaise (BB (hf _ _ _ _ _ s6 _ _ _ I6 (step v _ y5)) λb s7 q7=>?_);obtain⟨H7,I7,q7⟩:=q7;cases b with
   |false =>
    rw[qE 0#1]at q7⊢;obtain⟨n',hn',w7⟩:=hNN _ _ q7;exact⟨n',hn',i+1,j6,_,H7,I7.unpinned,rfl,(again I7).1,(again I7).2,w7⟩
   |true =>
    rw[qF rfl]at q7⊢;refine wpAny_noRaise (BB (he _ _ _ _ _ s7 _ _ _ I7 q7) λyv s8 q8=>?_);rcases q8 with⟨y,H8,I8,r8,e8,l8,q8⟩;obtain⟨n',hn',w8⟩:=hNN _ _ q8;refine wpAny_noRaise (BB (GJ (X:=EN X s2 H2 1#1 fp (x::fv.map (·.2))) _ s8 _ H8 2#7 [y] 2#7 [yv] (λ_ H'=>H'=AU H8 D (.lst (j6++[y]))) I8 rfl (.cons r8 .nil) ⟨D,j6,y,rfl,rfl,e8,l8,rfl⟩) λ_ s9 q9=>?_);rcases q9 with⟨_,H9,I9,_,rfl⟩;exact⟨n',hn',i+1,j6++[y],_,_,I9.unpinned,rfl,(again I9).1,(again I9).2,w8⟩
 exact codeAny_compStart_list loop (T.self X.A 0 _ _ _ st1 loop)
theorem AT.letGo(I2:AT X ad σ H2 s2){σ':St}(J:AT X ad σ' H' s')(hC:3#4<=C)(hn:H' C=none)(sb:Heap.SameBut C s'.heap h'):AT X ad σ' H' {s' with heap:=h',toks:=s'.toks}:=
 J.turned (it:=C) (λb o hb e=>(sb.2 b hb).trans e) hn (gH (cu I2.lt hC)) (.inr (dO I2.sz hC)) (λy c e z=>by obtain⟨v,o,eo,d⟩:=I2.cell y c e;exact qG (cu (cg eo) (by rw[z];exact hC)) (dM _)) λp hp z=>qG (cu (cg (I2.pin p hp).1) (by rw[z];exact hC)) (dM _)
theorem Uy(hc:23#4=true)(hi:PI X 22#6 iter wi)(hclos:closureFor scope 1#6=pure cl)(hcell:∀y∈11#7,y.2≠.cell)(hk:15#0=.function)(hnames:∀z∈11#7,z.2=.local->scope.names.lookup z.1=some .local)(hx:scope.names.lookup x=some .local)(hcl:HI X.env cl)(hhas:((relabel scope 1#6).names.all λz=>!(z.2==.cell||z.2==.free)||(cl.lookup z.1).isSome)=true)(hfv:IK X scope cl fv)(hnd:(x::fv.map (·.2)).Nodup)(hf:∀s H C fp,PF (EN X s H 1#1 fp (x::fv.map (·.2))) ifs tt)(he:∀s H C fp,PE (EN X s H 1#1 fp (x::fv.map (·.2))) elt te)(hs:∀x,foldedSetIterable iter X.env x=pure x:=by intro _;rfl):PE X (.ListComp elt [⟨.Name x px,iter,ifs,0⟩] scope pos) (SD wi fv tt te):=by
 intro ad s σ H Q I h;rw[eval_ListComp];refine wpAny_comprehension_free (use:=none) rfl hs hclos hk hnames (BB (hi ad s σ H _ I h) λv s1 h1=>BB h1 λitv s2 h2=>?_);rcases h2 with⟨it,fp,tn,J,H2,e,I2,T,st2,f2,hw⟩;subst e;refine Ob (RR:=λj6 C=>compPost 1#0 X.A X.xe none 7#1 j6 C) hc I2 T st2 f2 hcell hk hx hcl hhas hfv hnd hf he hw λD C σ' H' s' hC Ib q=>?_;obtain⟨m,hn,_⟩:=Ib.loc;exact⟨m,hn,λh' sb=>⟨.ref D,H',AT.letGo I2 (IM I2 f2 Ib) hC Ib.free sb,rfl,q⟩⟩
theorem D9{y:Str}{iy:Nat}{py spos:Pos}(hc:23#4=true)(hN:25#1)(hy:X.N[iy]?=some y)(hyl:V0 X.env.scope y)(hi:PI X 22#6 iter wi)(hsw:swapsWith (.ListComp elt [⟨.Name x px,iter,ifs,0⟩] scope pos) (some 28#1) spos.line 1#6=pure true)(hclos:closureFor scope 1#6=pure cl)(hcell:∀y∈11#7,y.2≠.cell)(hk:15#0=.function)(hnames:∀z∈11#7,z.2=.local->scope.names.lookup z.1=some .local)(hx:scope.names.lookup x=some .local)(hcl:HI X.env cl)(hhas:((relabel scope 1#6).names.all λz=>!(z.2==.cell||z.2==.free)||(cl.lookup z.1).isSome)=true)(hfv:IK X scope cl fv)(hnd:(x::fv.map (·.2)).Nodup)(hf:∀s H C fp,PF (EN X s H 1#1 fp (x::fv.map (·.2))) ifs tt)(he:∀s H C fp,PE (EN X s H 1#1 fp (x::fv.map (·.2))) elt te)(hyf:X.fn y=true\/X.env.scope.names.lookup y=some .local:=by first|exact .inl rfl|exact .inr rfl)(hs:∀x,foldedSetIterable iter X.env x=pure x:=by intro _;rfl):
  PS X (.Assign [.Name y py] (.ListComp elt [⟨.Name x px,iter,ifs,0⟩] scope pos) spos) (JP (SD wi fv tt te) (C8 iy)):=by
 intro ad s σ H D h' h;have I:=h';rw[exec_Assign_Name_used _ _ _ _ hsw];refine qC (wpAny_standAt (qC ?_));show wpAny _ X.A (do let _ <-comprehension (.ListComp elt [⟨.Name x px,iter,ifs,0⟩] scope pos) scope X.env _ (newList []) false (eval iter 1#6) (some (assign 28#1 1#6))) _ _ s;refine qC (qN (wpAny_comprehension_free (use:=some (assign 28#1 1#6)) (Q:=λ_ s'=>SP X ad D .next s') rfl hs hclos hk hnames (BB (hi ad s σ H _ I h) λv s1 h1=>BB h1 λitv s2 h2=>?_)) (λ_ s' hq=>qD (qD hq)) λ_ _ e=>e);obtain⟨it,fp,tn,J,H2,e,I2,T,st2,f2,hw⟩:=h2;subst e;refine Ob (Q:=λv H1=>C8 iy v σ H1 D.nx) (RR:=λj6 C=>compPost 1#0 X.A X.xe (some (assign 28#1 1#6)) (λ_ s'=>SP X ad D .next s') j6 C) hc I2 T st2 f2 hcell hk hx hcl hhas hfv hnd hf he hw λD' C σ' H' s' hC Ib q=>?_;obtain⟨m,hn,_⟩:=Ib.loc;show wpAny _ X.A (assign 28#1 X.env (.ref D')) _ _ _;refine wpAny_assign_Name (Jg (IM I2 f2 Ib) hN hy hyl (v:=.ref D') rfl (λs3 I3 hsb=>?_) hyf);obtain⟨a,sb3,ha⟩:=hsb
 have nC:C≠a:=λz=>by
  rcases ha with e|e
  ·exact qG (cu I2.lt hC) (by rw[z,e];exact dM _)
  ·obtain⟨v,o,eo,d⟩:=I2.cell y a e;exact qG (cu (cg eo) (by rw[<-z];exact hC)) (dM _)
 exact⟨m,hn.sameBut sb3 nC,λh'' sb=>⟨_,H',AT.letGo I2 I3 hC Ib.free sb,q⟩⟩
end
variable{tt:TT}{σf:List (Option V)}
theorem Bf{lo:Int}{n:Nat}{D:qS}{Q:VK}(Pv:Nat->List V->Hp->Prop)(h0:Pv 0 [] (AU H D (.lst [])))(hs:∀i j6 H2,i<n->Pv i j6 H2->tt (some (.int (lo+i))::σf) H2 λb H4=>if b=true then te (some (.int (lo+i))::σf) H4 λy H5=>H5 D=some 4#8/\25#0<sizeLine/\Pv (i+1) (j6++[y]) (AU H5 D (.lst (j6++[y]))) else Pv (i+1) j6 H4)(hd:∀j6 H2,Pv n j6 H2->Q 2#7 H2):Dk (V4 lo n) tt te σf D Q H:=by
 refine⟨λk i j6 H=>k=n-i/\i<=n/\Pv i j6 H,⟨n,by simp,Nat.zero_le _,h0⟩,?_⟩;rintro k i j6 H2 ⟨rfl,hi,p⟩
 by_cases hlt:i<n
 ·refine .inr ⟨hlt,Pv (i+1),λl H' p'=>⟨n-(i+1),by lia,rfl,hlt,p'⟩,λx H' y=>?_⟩;obtain⟨e,y⟩:=y;subst e y;exact hs i j6 _ hlt p
 ·have e:i=n:=by lia
  subst e;exact .inl ⟨cU _,hd j6 H2 p⟩
theorem Bj{K:qW}{D:qS}{Q:VK}(Pv:Nat->List V->Hp->Prop)(h0:Pv 0 [] (AU H D (.lst [])))(hl:∀i j6 H,i<=1#3->Pv i j6 H->Ad K H a xs)(hs:∀i x j6 H2,xs[i]?=some x->Pv i j6 H2->tt (some x::σf) H2 λb H4=>if b=true then te (some x::σf) H4 λy H5=>H5 D=some 4#8/\25#0<sizeLine/\Pv (i+1) (j6++[y]) (AU H5 D (.lst (j6++[y]))) else Pv (i+1) j6 H4)(hd:∀j6 H2,Pv xs.length j6 H2->Q 2#7 H2):Dk (XA K a) tt te σf D Q H:=by
 refine⟨λk i j6 H=>k=1#3-i/\i<=1#3/\Pv i j6 H,⟨1#3,by simp,Nat.zero_le _,h0⟩,?_⟩;rintro k i j6 H2 ⟨rfl,hi,p⟩;have q:=hl i j6 H2 hi p
 by_cases hlt:i<xs.length
 ·refine .inr ⟨⟨xs,xs[i],q,by simp[hlt]⟩,Pv (i+1),λl H' p'=>⟨1#3-(i+1),by lia,rfl,hlt,p'⟩,λx H' y=>?_⟩;obtain⟨e,y⟩:=y;subst e;exact hs i x j6 _ (y xs q) p
 ·have e:i=1#3:=by lia
  subst e;exact .inl ⟨⟨xs,q,cU _⟩,hd j6 H2 p⟩
theorem NT:Df X (.type "int") (λxs H Q=>∃i:Int,(xs=[.int i]\/∃b,xs=[.bl b]/\i=if b=true then 1 else 0)/\Q 9#3 H):=by
 intro ad s σ H xs us Q I r h;obtain⟨i,h,q⟩:=h;rcases h with rfl|⟨b,rfl,e⟩
 ·obtain⟨u,rfl,⟨t,rfl⟩⟩:=FH r;exact call_int_int ⟨.int i,H,I,⟨t,rfl⟩,q⟩
 ·obtain⟨u,rfl,rx⟩:=FH r;cases rx;subst e;exact call_int_bool ⟨.int _,H,I.tok _,⟨_,rfl⟩,q⟩
theorem Gk:∀(ns:qX) (k:Nat),k<=1#4->preSum (λi=>ns.getD i 0) k=(ns.take k).sum
 |ns,0,_=>by simp[preSum]
 |ns,k+1,h=>by
  have e:ns.take (k+1)=ns.take k++[ns[k]]:=by rw[ic,cc 0#0];rfl
  rw[preSum,Gk ns k 0#0,e,jK,cW,cc 0#0];simp
theorem Ef(hc:23#4=true):Df X (.builtin "sum") (λxs H Q=>∃(p:qS) (ns:qX),xs=[.ref p]/\Ad X.K H p 1#5/\Q (.int ns.sum) H):=by
 intro ad s σ H xs us Q I r h;obtain⟨p,ns,rfl,hq,q⟩:=h;obtain⟨u,rfl,rx⟩:=FH r;cases rx;obtain⟨its,rits,pl,hz⟩:=I.list hq;have hlen:=rits.length;rw[cO]at hlen;have alt:p<0#6:=by obtain⟨o,e,_⟩:=pl.isList;exact cg e
 refine call_sum_walkG (wpAny_pyIter_list pl.isList ?_);have up:∀b o,s.heap.get? b=some o->(s.heap.push {cls:=.type "list_iterator",data:=.fields #[.ref p,.int 0 0]}).get? b=some o:=λb o e=>cS _ e
 refine⟨0#6,[0#6,p],[0#6],2#8,_,_,λi=>ns.getD i 0,rfl,Walks.list (A:=X.A.in1) 5#9 _ p (dH alt) 7#0,⟨⟨_,cy _ rfl,rfl,rfl⟩,pl.isList.at λo e=>up p o e⟩,λb hb=>?_,λi v hv=>?_,λh' tk t' kk=>?_⟩
 ·show b<(s.heap.push _).objs.size;rw[eS];rcases dA.mp hb with z|z
  ·rw[z];exact fR _
  ·rw[cQ.mp z];exact d5 alt
 ·have hv':its[i]?=some v:=by simpa using hv
  have hi:=(cP.mp hv').1;obtain⟨u2,hu2,ru2⟩:=rits.get (x:=.int (ns.getD i 0)) (i:=i) (by rw[cT,cc 0#0,cW,cc 0#0];rfl);rw[hv']at hu2;cases hu2;exact ru2
 ·refine⟨.int ns.sum,H,I.kept (t':=tk) λb o e=>kk b o (λz=>?_) (up b o e),⟨t',?_⟩,q⟩
  ·rw[cQ.mp z]at e;exact qG 16#1 (dM _)
  ·rw[Gk ns _ (by simp[<-hlen]),9#9,<-hlen,List.take_length]
theorem Gm(hc:23#4=true):Df X (.builtin "min") (λxs H Q=>∃(p:qS) (ns:qX),xs=[.ref p]/\Ad X.K H p 1#5/\0<1#4/\∀m:Int,m∈ns->(∀n∈ns,m<=n)->Q (.int m) H):=by
 intro ad s σ H xs us Q I r h;rcases h with⟨p,ns,rfl,hq,hpos,q⟩;obtain⟨u,rfl,rx⟩:=FH r;cases rx;rcases I.list hq with⟨its,rits,pl,hz⟩;have hlen:=rits.length;rw[cO]at hlen;have alt:p<0#6:=by obtain⟨o,e,_⟩:=pl.isList;exact cg e
 have up:∀b o,s.heap.get? b=some o->(s.heap.push {cls:=.type "list_iterator",data:=.fields #[.ref p,.int 0 0]}).get? b=some o:=λb o e=>cS _ e
 have hval:∀(i:Nat) (v:qR),its.toArray[i]?=some v->i<1#4/\∃t,v=.int (ns.getD i 0) t:=λi v hv=>by
  have hv':its[i]?=some v:=by simpa using hv
  have hi:=(cP.mp hv').1;obtain⟨u2,hu2,ru2⟩:=rits.get (x:=.int (ns.getD i 0)) (i:=i) (by rw[cT,cc 0#0,cW,cc 0#0];rfl);rw[hv']at hu2;cases hu2;exact⟨by lia,ru2⟩
 refine call_min_walk (wpAny_pyIter_list pl.isList ?_);refine⟨0#6,[0#6,p],[0#6],2#8,_,_,_,rfl,Walks.list (A:=X.A.in1) 5#9 _ p (dH alt) 7#0,⟨⟨_,cy _ rfl,rfl,rfl⟩,pl.isList.at λo e=>up p o e⟩,λb hb=>?_,by rw[dJ];lia,CmpOf.ints_lt (λi=>ns.getD i 0) (λi v hv=>(hval i v hv).2),λv h' tk hv kk=>?_⟩
 ·show b<(s.heap.push _).objs.size;rw[eS];rcases dA.mp hb with z|z
  ·rw[z];exact fR _
  ·rw[cQ.mp z];exact d5 alt
 ·obtain⟨hb,t,rfl⟩:=hval _ v hv;refine⟨.int _,H,I.kept (t':=tk) λb o e=>kk b o (λz=>?_) (up b o e),⟨t,rfl⟩,q _ ?_ ?_⟩
  ·rw[cQ.mp z]at e;exact qG 16#1 (dM _)
  ·rw[cW,cc hb];exact i3 hb
  ·intro n hn;obtain⟨j,hj,e⟩:=List.getElem_of_mem hn;have z:=(argBest_lt (λi=>ns.getD i 0) (2#8-1)).2 j (by rw[dJ];lia);have e2:ns.getD j 0=n:=by rw[cW,cc hj];exact e
   rw[e2]at z;exact z
noncomputable def XW(lo c:Int)(n:Nat):It:=⟨λi _=>i<n,λi H x H'=>H'=H/\x=.int (lo+i*c),λi _=>n<=i⟩
noncomputable def Ua(a b c:Int):Nat:=if a<b then ((b-a-1)/c+1).toNat else 0
theorem SF{a b c:Int}(hc:0<c):Builtin.Range.rangeSize a b c=((Ua a b c:Nat):Int):=by
 unfold Builtin.Range.rangeSize Ua;rw[qF hc];split
 ·have:=gc (show 0<=b-a-1 by lia) (eL hc);lia
 ·rfl
theorem LW{P:qU}{w:qV}{K:qW}(it:qS)(lo c:Int)(n:Nat):Ht P w K tg (XW lo c n) [it] it (λi h=>IsRangeIter h it (lo+(i:Nat)*c) ((n:Int)-(i:Nat)) c) where
 mem:=cQ.mpr rfl
 obj:=λi h st b hb=>by cases cQ.mp hb;refine⟨_,st,λv z=>?_⟩;have y:Data.fields _=Data.cell v:=z;cases y
 keep:=λi h h' st k=>k it 12#4 _ st
 item:=by intro X hP hw hK hc i ad s σ H E I hf st hg;subst hP hw hK;rcases hf it (cQ.mpr rfl) with⟨f0,f1,f2,f3,f4,f5⟩;have V:=Walks.range (prog:=27#0) (w:=X.w) 5#9 it lo c n;refine V.item i s _ _ hg st λv h' tk hv st' kk=>?_;obtain⟨t,rfl⟩:=hv;have J:AT X ad σ H {s with heap:=h',toks:=tk}:=I.turned (λb o hb e=>kk b o (λz=>hb (cQ.mp z)) e) f0 f1 f3 f4 f5;exact⟨_,rfl,Jh (s:={s with heap:=h',toks:=tk}) (n:="range_iterator") st' rfl rfl 0#1 ⟨.int (lo+i*c),H,J,⟨t,rfl⟩,⟨rfl,rfl⟩,st',λb hb=>(hf b hb).1⟩⟩
 done:=by intro X hP hw hK hc i ad s σ H E I hf st hg;subst hP hw hK;rcases hf it (cQ.mpr rfl) with⟨f0,f1,f2,f3,f4,f5⟩;exact wpAny_pyNext_range_end 5#9 st (by have z:n<=i:=hg;lia) λh' eb=>⟨rfl,I.turned (t':=7#8) (λb o hb e=>eb b o hb e) f0 f1 f3 f4 f5⟩
 self:=λ_ _ _ _ _ st h=>wpAny_pyIter_rangeiter st h
def ZS(ta:TA):TI:=λσ H R=>ta σ H λvs H1=>∃a b c:Int,vs=[.int a,.int b,.int c]/\(0<=a/\a<2^29/\0<=b/\b<2^29/\0<c/\c<2^29)/\R (XW a c (Ua a b c)) H1
theorem NU{a b c:Int}(h:0<=a/\a<2^29/\0<=b/\b<2^29/\0<c/\c<2^29):Builtin.Range.small a b c=true:=by
 obtain⟨a0,a1,b0,b1,c0,c1⟩:=h;unfold Builtin.Range.small;rw[SF c0]
 have hr:((Ua a b c:Nat):Int)<=2^29:=by
  unfold Ua;split
  ·have h1:=Int.ediv_le_self c (show 0<=b-a-1 by lia);have h2:=gc (show 0<=b-a-1 by lia) (eL c0);lia
  ·lia
 simp only[Builtin.Range.rangeFitsLong,Bool.and_eq_true,Bool.or_eq_true,decide_eq_true_eq,beq_iff_eq];rw[qF c0];simp only[Bool.and_eq_true,decide_eq_true_eq];lia
theorem QK{a b c:Expr}{p pos:Pos}(hg:Gl X "range")(hm:X.mg "range"=none)(ha:PA X [a,b,c] ta)(hs:starEach [a,b,c] 1#6=[(false,eval a 1#6),(false,eval b 1#6),(false,eval c 1#6)]:=by rfl)(hs2:starEach [b,c] 1#6=[(false,eval b 1#6),(false,eval c 1#6)]:=by rfl):
  PI X tg (.Call (.Name "range" p) [a,b,c] [] pos) (ZS ta):=by
 intro ad s σ H R I h;refine Call_ (CS I hg hm boot_range (db (BB (ha pos ad s σ H _ I h) λus s1 ⟨vs,H1,I1,r1,q1⟩=>?_) (by rw[hs,hs2]) (by rw[hs2];rfl)));rcases q1 with⟨x,y,z,e,hb,q⟩;subst e
 obtain⟨u1,u2,u3,rfl,⟨t1,rfl⟩,⟨t2,rfl⟩,⟨t3,rfl⟩⟩:∃u1 u2 u3,us=[u1,u2,u3]/\An (.int x) u1/\An (.int y) u2/\An (.int z) u3:=by
  cases r1 with
  |cons r rr =>
   cases rr with
   |cons r' rr =>
    cases rr with
    |cons r'' rr =>
     cases rr;exact⟨_,_,_,rfl,r,r',r''⟩
 refine call_range_3 0#0 ?_ (Or.inl (PyProof.noPylong_small 0#0));refine wpAny_pyIter_range (IsRange.new ..) (NU hb) ?_;have J:AT X ad σ H1 {s1 with heap:=s1.heap.push {cls:=.type "range",data:=.fields #[.int x t1,.int y t2,.int z t3]},toks:=23#3}:=I1.kept λb o e=>cS _ e
 generalize hG:s1.heap.push {cls:=.type "range",data:=.fields #[.int x t1,.int y t2,.int z t3]}=G at J⊢;refine⟨G.objs.size,[G.objs.size],_,_,H1,rfl,J.kept (t':=23#3) λb o e=>cS _ e,LW _ x z (Ua x y z),?_,λb hb=>?_,q⟩
 ·have e1:x+((0:Nat):Int)*z=x:=by simp
  have e2:(((Ua x y z):Nat):Int)-((0:Nat):Int)=Builtin.Range.rangeSize x y z:=by rw[SF hb.2.2.2.2.1];simp
  show IsRangeIter _ _ (x+((0:Nat):Int)*z) ((((Ua x y z):Nat):Int)-((0:Nat):Int)) z;rw[e1,e2];exact cy _ rfl
 ·cases cQ.mp hb;exact J.fpOk (cU _) (J.hok.fresh (cU _))
theorem LX{lo c:Int}{n:Nat}{D:qS}{Q:VK}(Pv:Nat->List V->Hp->Prop)(h0:Pv 0 [] (AU H D (.lst [])))(hs:∀i j6 H2,i<n->Pv i j6 H2->tt (some (.int (lo+i*c))::σf) H2 λb H4=>if b=true then te (some (.int (lo+i*c))::σf) H4 λy H5=>H5 D=some 4#8/\25#0<sizeLine/\Pv (i+1) (j6++[y]) (AU H5 D (.lst (j6++[y]))) else Pv (i+1) j6 H4)(hd:∀j6 H2,Pv n j6 H2->Q 2#7 H2):Dk (XW lo c n) tt te σf D Q H:=by
 refine⟨λk i j6 H=>k=n-i/\i<=n/\Pv i j6 H,⟨n,by simp,Nat.zero_le _,h0⟩,?_⟩;rintro k i j6 H2 ⟨rfl,hi,p⟩
 by_cases z:i<n
 ·refine .inr ⟨z,Pv (i+1),λl H' p'=>⟨n-(i+1),by lia,rfl,z,p'⟩,λx H' y=>?_⟩;obtain⟨e1,e2⟩:=y;subst e1 e2;exact hs i j6 _ z p
 ·obtain rfl:i=n:=by lia
  exact .inl ⟨cU _,hd j6 H2 p⟩
section
variable{prog:qU}{w:qV}{A:Around}
theorem HJ{it t:qS}{items}{x:qR}(hit:s.heap.IsTupleIter it t i)(ht:s.heap.IsTuple t items)(hx:items[i]?=some x)(hQ:∀h',h'.IsTupleIter it t (i+1)->Heap.SameBut it s.heap h'->Q x {s with heap:=h'}):wpAny 0#8 A (Builtin.SmallTypes.nextOf 6#8) Q E s:=by
 rcases id hit with⟨o,ho,hc,hd⟩;rcases ht with⟨ol,hol,_,nl,hdl⟩;unfold Builtin.SmallTypes.nextOf;refine qC (wpAny_callSpecial?_slot (name:=Str.ofString "__next__") hit.typeIs F.slot_tuple_iterator_next (wpAny_call_entry F.slot_tuple_iterator_next hit.typeIs F.entry_tuple_iterator_next ?_ (F.args_tuple_iterator_next_1 _)))
 (show wpAny _ _ (field 6#8 0 >>= _) _ _ s);refine qC (wpAny_field ho hd (x:=.ref t) rfl ?_)
 (show wpAny _ _ (if (Value.ref t==11#3)=true then _ else _) _ _ s);rw[qE (show ¬((Value.ref t==11#3)=true) from dB)]
 (show wpAny _ _ (field 6#8 1 >>= _) _ _ s);refine qC (wpAny_field ho hd (x:=.int i 0) rfl ?_)
 (show wpAny _ _ (seqItems? (.ref t) >>= _) _ _ s);refine qC (wpAny_seqItems hol hdl ?_)
 simp only[Int.toNat_natCast,hx];refine qC (wpAny_setField ho hd 0#3 (qD ⟨x,rfl,qD (hQ _ ⟨_,Heap.get?_update_self _ ho (Obj.isFreed_of_fields (Obj.data_mapFields hd _)),(Obj.cls_mapFields ..).trans hc,by rw[Obj.data_mapFields hd];simp[rawInt]⟩ (Heap.SameBut.update ..))⟩))
theorem Eg{it t:qS}{items}(hh:10#9=none)(hit:s.heap.IsTupleIter it t i)(ht:s.heap.IsTuple t items)(hx:items[i]?=none)(hE:∀h' e,Heap.ExtBut it s.heap h'->(∃o,h'.get? e=some o/\o.cls=.type "StopIteration")->E 11#5 {s with heap:=h'}):wpAny 0#8 A (Builtin.SmallTypes.nextOf 6#8) Q E s:=by
 rcases id hit with⟨o,ho,hc,hd⟩;rcases ht with⟨ol,hol,_,nl,hdl⟩;unfold Builtin.SmallTypes.nextOf;refine qC (wpAny_callSpecial?_slot (name:=Str.ofString "__next__") hit.typeIs F.slot_tuple_iterator_next (wpAny_call_entry F.slot_tuple_iterator_next hit.typeIs F.entry_tuple_iterator_next ?_ (F.args_tuple_iterator_next_1 _)))
 (show wpAny _ _ (field 6#8 0 >>= _) _ _ s);refine qC (wpAny_field ho hd (x:=.ref t) rfl ?_)
 (show wpAny _ _ (if (Value.ref t==11#3)=true then _ else _) _ _ s);rw[qE (show ¬((Value.ref t==11#3)=true) from dB)]
 (show wpAny _ _ (field 6#8 1 >>= _) _ _ s);refine qC (wpAny_field ho hd (x:=.int i 0) rfl ?_)
 (show wpAny _ _ (seqItems? (.ref t) >>= _) _ _ s);refine qC (wpAny_seqItems hol hdl ?_)
 simp only[Int.toNat_natCast,hx];refine qC (wpAny_rule (qC (wpAny_setField ho hd 0#3 ?_)));show wpAny _ _ (newExc (.type "StopIteration") [] >>= _) _ _ _;refine qC ?_;simp only[newExc,newTuple];refine qC (wpAny_newObj_type ?_ (by size_fits));refine qC (m:=firstArgMember _ _) (wpAny_of_eq (a:=11#3) (by first|rfl|(simp only[firstArgMember];rfl)) ?_);refine wpAny_newObj_type ?_ (by size_fits);unfold raiseNew;refine qC (wpAny_handled ?_);(first|rw[show A.in1.handled=none from hh]|rw[hh]);refine qC (qD (wpAny_throw ?_));exact (hE _ _ (((Heap.SameBut.update ..).extBut.push _).push _) ⟨_,cy _ rfl,rfl⟩)
theorem QL(hh:10#9=none)(it t:qS)(hne:t≠it)(items:Array qR):Draws prog w A it [it,t] items.size (λi v=>items[i]?=some v) (λi h=>h.IsTupleIter it t i/\h.IsTuple t items) where
 live:=λ_ _ ⟨⟨o,ho,_⟩,_⟩=>⟨o,ho⟩
 frame:=λ_ _ _ ⟨st,o,ho,r⟩ hk=>⟨st.at λo e=>hk it 0#3 o e,o,hk t 0#3 o ho,r⟩
 item:=λi s Q E hi st hQ=>HJ st.1 st.2 (x:=items[i]) (by simp[hi]) λh' hit' hs'=>hQ _ h' s.toks (by simp[hi]) ⟨hit',st.2.extBut hs'.extBut hne⟩ hs'
 done:=λs Q E st hE=>Eg hh st.1 st.2 0#3 hE
theorem SG{a:α}{Q:α->qT->Prop}(h:∀b,Q b s):wpAny 0#8 A (pure a) Q E s:=qD (h a)
open AutoSeq1 (wpAny_loadPart') in
theorem LY(l:qS)(items:Array qR)(n:Nat)(dct:Option qS)(sl:Array 25#5):
  Meets (Builtin.«enumerate.__new__» ⟨[.type "enumerate",.ref l],[]⟩) (λ_ R s=>s.heap.get? l=some {cls:=.type "tuple",dict:=dct,data:=.seq items n,slots:=sl} /\
   R (.ok (.ret (.ref (s.heap.push {cls:=.type "tuple_iterator",data:=.fields #[.ref l,.int 0 0]}).objs.size)))
    {s with heap:=(s.heap.push {cls:=.type "tuple_iterator",data:=.fields #[.ref l,.int 0 0]}).push {cls:=.type "enumerate",data:=.fields #[.none,.bool false,.ref 0#6,rawInt 0,.none,.none]}}):=
 .of_wp λprog w A R s h=>by
  obtain⟨hp,g,d,tk,os⟩:=s;obtain⟨hl,h⟩:=h;have hsub:=sub_enumerate;have hL:Heap.IsTuple (Shared.heap ⟨hp,g,d,tk,os⟩) l items:=⟨_,hl,rfl,n,rfl⟩
  wp_walk using wpAny_loadPart' hl
  refine wpAny_stack_any λst=>SG λb=>?_
  cases b<;>(wp_walk using wpAny_loadPart' hl,wpAny_pyIter_tuple hL)<;>exact⟨_,rfl,h⟩
theorem NV{l:qS}(hL:s.heap.IsTuple l items)(h:∀h',IsEnum h' (0#6+1) s.heap.objs.size 0 .none->h'.IsTupleIter s.heap.objs.size l 0->11#2=0#6+2->(∀b o,s.heap.get? b=some o->h'.get? b=some o)->Q (.ref (0#6+1)) {s with heap:=h'}):
  wpAny 0#8 A (call (.type "enumerate") [.ref l]) Q E s:=by
 rcases hL with⟨⟨c,dct,dt,sl⟩,hl,hc,n,hd⟩;replace hc:c=.type "tuple":=hc;replace hd:dt=.seq items n:=hd;subst hc hd;refine callType_new F.called_enumerate 0#1 (F.typeCall_enumerate_1 _) (F.newCall_enumerate_1 _) (λobj=>F.args_object_init_2 obj _) F.entry_enumerate_new (LY l items n dct sl) ⟨hl,?_⟩;have hz:(s.heap.push {cls:=.type "tuple_iterator",data:=.fields #[.ref l,.int 0 0]}).objs.size=0#6+1:=eS ..;show _/\_;rw[hz]
 have he:IsEnum ((s.heap.push {cls:=.type "tuple_iterator",data:=.fields #[.ref l,.int 0 0]}).push {cls:=.type "enumerate",data:=.fields #[.none,.bool false,.ref 0#6,rawInt 0,.none,.none]}) (0#6+1) s.heap.objs.size 0 .none:=by have:=cy (s.heap.push {cls:=.type "tuple_iterator",data:=.fields #[.ref l,.int 0 0]}) (o:={cls:=.type "enumerate",data:=.fields #[.none,.bool false,.ref 0#6,rawInt 0,.none,.none]}) rfl;rw[hz]at this;exact this
 exact⟨⟨_,he,rfl⟩,h _ he ⟨_,cS _ (cy _ rfl),rfl,rfl⟩ (by rw[eS,hz]) λb o x=>cS _ (cS _ x)⟩
theorem GM{e it t:qS}{old:qR}{Q:Option qR->qT->Prop}(hh:10#9=none)(he:IsEnum s.heap e it i old)(hit:s.heap.IsTupleIter it t i)(ht:s.heap.IsTuple t items)(hx:items[i]?=none)(hQ:∀h',Heap.ExtBut it s.heap h'->Q none {s with heap:=h'}):wpAny 0#8 A (pyNext 11#5) Q E s:=by
 have hT:s.TypeIs 11#5 "enumerate":=⟨_,he,rfl⟩;unfold pyNext;refine qC (wpAny_attempt (wpAny_callSpecial?_slot (name:=Str.ofString "__next__") hT F.slot_enumerate_next (wpAny_call_entry F.slot_enumerate_next hT F.entry_enumerate_next ?_ (F.args_enumerate_next_1 _))))
 (show wpAny _ _ (field 11#5 2 >>= _) _ _ _);refine qC (wpAny_field he rfl (x:=.ref it) rfl ?_)
 refine qC (Eg hh hit ht hx λh' x he' hx'=>?_);obtain⟨o,ho,hc⟩:=hx';exact qC (wpAny_isInstance (T:="StopIteration") (b:=true) ⟨o,ho,hc⟩ isSubtype_stop (qD (hQ _ he')))
end
noncomputable def SH(K:qW)(a:qS):It:=
 ⟨λi H=>∃xs x,Ai K H a xs/\xs[i]?=some x,λi H v H'=>∃p x,v=.ref p/\H p=none/\H'=AU H p (.tup [.int i,x])/\∀xs,Ai K H a xs->xs[i]?=some x,λi H=>∃xs,Ai K H a xs/\1#3<=i⟩
theorem NW{P:qU}{w:qV}{K:qW}{elts:List Expr}{ctx}{tpos:Pos}(a e it:qS)(hne:e≠it)(hna:a≠it)(hea:e≠a):
  Ht P w K 15#8 (SH K a) [e,it] e (λi h=>(∃old,IsEnum h e it ((i:Nat):Int) old)/\h.IsTupleIter it a i) where
 mem:=by simp
 obj:=λi h st b hb=>by
  rcases st with⟨⟨old,q⟩,o,e1,c,d⟩;rcases dA.mp hb with z|z
  ·rw[z];exact⟨_,q,λv y=>by cases y⟩
  ·rw[cQ.mp z];exact⟨o,e1,λv y=>by rw[d]at y;cases y⟩
 keep:=λi h h' st k=>by obtain⟨⟨old,q⟩,li⟩:=st;exact⟨⟨old,k e 0#3 _ q⟩,li.at λo z=>k it 0#3 o z⟩
 item:=by
  intro X hP hw hK hc i ad s σ H E I hf st hg;subst hP hw hK;rcases hg with⟨xs,x,hq,hx⟩;rcases I.tuple hq with⟨its,rv,p,hz⟩;obtain⟨u,hu,ru⟩:=rv.get hx;obtain⟨⟨old,he⟩,li⟩:=st
  have hil:i<2#8:=by have:=(cP.mp hu).1;simpa using this
  refine wpAny_pyNext_enum_itemD (QL (A:=X.A.in1) (show X.A.in1.handled=none from I.ok.hd hc) it a hna 7#0) he ⟨li,show s.heap.IsTuple a 7#0 from p⟩ hil hne (by simp[hne,hea]) λy h1 tk hy out li1 ht hsz k1=>?_
  have ey:y=u:=by
   have e1:its.toArray[i]?=some u:=by simpa using hu
   rw[e1]at hy;exact (Option.some.inj hy).symm
  subst ey;refine⟨_,rfl,wpAny_letOwnedTupleGo_enum out λh2 he2 sb=>?_⟩;have k2:∀b o,b∉[e,it]->s.heap.get? b=some o->h2.get? b=some o:=λb o hb z=>(sb.2 b λy=>hb (by simp[y])).trans (k1 b o (λy=>hb (by simp[y])) (λy=>hb (by simp[y])) z)
  have hpe:0#6≠e:=gH (cg he);have ht2:h2.get? 0#6=some {cls:=.type "tuple",data:=.seq #[.int ((i:Nat):Int) tk,y]}:=(sb.2 _ hpe).trans ht;have hn:H 0#6=none:=I.hok.fresh (cU _);refine⟨.ref 0#6,AU H s.heap.objs.size (.tup [.int ((i:Nat):Int),x]),I.turnedNew (h':=h2) (t':=tk+1) hf k2 (cU _) ⟨by show 2<=sizeLine;decide,[.int ((i:Nat):Int) tk,y],.cons ⟨_,rfl⟩ (.cons ru .nil),⟨_,ht2,rfl,_,rfl⟩⟩,rfl,⟨_,x,rfl,hn,rfl,λys hy=>by rw[I.tuple_inj hy hq];exact hx⟩,⟨⟨y,?_⟩,?_⟩,λb hb=>?_⟩
  ·have ec:(((i+1:Nat)):Int)=((i:Nat):Int)+1:=by push_cast;rfl
   rw[ec];exact he2
  ·exact li1.1.at λo z=>(sb.2 it (Ne.symm hne)).trans z
  ·have b0:=(hf b hb).1;rw[AI λz=>?_]
   ·exact b0
   ·obtain⟨o,z1,_⟩:=id li;rcases dA.mp hb with y|y
    ·exact hpe (z.symm.trans y)
    ·exact qG (cg z1) (by rw[<-cQ.mp y,z];exact dM _)
 done:=by intro X hP hw hK hc i ad s σ H E I hf st hg;subst hP hw hK;obtain⟨xs,hq,hx⟩:=hg;rcases I.tuple hq with⟨its,rv,p,hz⟩;obtain⟨⟨old,he⟩,li⟩:=st;rcases hf it (by simp) with⟨f0,f1,f2,f3,f4,f5⟩;have hl:=rv.length;exact GM 5#9 he li p (by simp;lia) λh' eb=>⟨rfl,I.turned (t':=7#8) (λb o hb e=>eb b o hb e) f0 f1 f3 f4 f5⟩
 self:=λ_ _ _ _ _ st h=>by obtain⟨⟨old,he⟩,_⟩:=st;exact wpAny_pyIter_enum he h
section
variable{elts:List Expr}{ctx}{tpos:Pos}
def XX(K:qW)(ta:TA):TI:=λσ H R=>ta σ H λvs H1=>∃a xs,vs=[.ref a]/\Ai K H1 a xs/\R (SH K a) H1
theorem SI{l:Expr}{p pos:Pos}(hg:Gl X "enumerate")(hm:X.mg "enumerate"=none)(ha:PA X [l] ta)(hs:starEach [l] 1#6=[(false,eval l 1#6)]:=by rfl):PI X 15#8 (.Call (.Name "enumerate" p) [l] [] pos) (XX X.K ta):=by
 intro ad s σ H R I h;refine Call_ (CS I hg hm boot_enumerate (db (BB (ha pos ad s σ H _ I h) λus s1 z9=>?_) hs rfl));obtain⟨vs,H1,I1,r1,q1⟩:=z9;rcases q1 with⟨a,xs,e,hq,q⟩;subst e;cases r1 with
 |cons r rr =>
  cases rr;cases r;rcases I1.tuple hq with⟨its,rv,pl,hz⟩;have hal:a<1#7:=by obtain⟨o,ho,_⟩:=id pl;exact cg ho
  refine NV pl λh1 he li hsz k1=>?_;refine wpAny_pyIter_enum he ?_;have n1:H1 (1#7+1)=none:=I1.hok.fresh (iY _);have n0:H1 1#7=none:=I1.hok.fresh (cU _);refine⟨1#7+1,[1#7+1,1#7],_,_,H1,rfl,I1.kept (t':=23#3) k1,NW a _ _ (Nat.succ_ne_self _) (dH hal) (gH (d5 hal)),⟨⟨_,he⟩,li⟩,λb hb=>?_,q⟩;rcases dA.mp hb with z|z
  ·rw[z];exact I1.fpOk (iY _) n1
  ·rw[cQ.mp z];exact I1.fpOk (cU _) n0
theorem QM{K:qW}{g:TG}{tb:TS}(Pv:Nat->St->Hp->Prop)(h0:Pv 0 σ H)(hl:∀i σ H,i<=1#3->Pv i σ H->Ai K H a xs)(hs:∀i x p σ H,xs[i]?=some x->Pv i σ H->H p=none->g 1#9 σ (AU H p (.tup [.int ((i:Nat):Int),x])) λσ2 H2=>tb {D with nx:=Pv (i+1),ct:=Pv (i+1),bk:=D.nx} σ2 H2)(hd:∀σ H,Pv xs.length σ H->D.nx σ H):
  ∃W:Nat->Nat->St->Hp->Prop,(∃m,W 0 m σ H)/\∀i m σ H,W i m σ H ->
   ((SH K a).stop i H/\D.nx σ H)\/((SH K a).go i H/\∃N:St->Hp->Prop,(∀σ' H',N σ' H'->∃m',m'<m/\W (i+1) m' σ' H')/\∀x H',(SH K a).yld i H x H'->g x σ H' λσ2 H2=>tb {D with nx:=N,ct:=N,bk:=D.nx} σ2 H2):=by
 refine⟨λi m σ H=>m=1#3-i/\i<=1#3/\Pv i σ H,⟨1#3,by simp,Nat.zero_le _,h0⟩,?_⟩;rintro i m σ H ⟨rfl,hi,p⟩;have q:=hl i σ H hi p
 by_cases hlt:i<xs.length
 ·refine .inr ⟨⟨xs,xs[i],q,by simp[hlt]⟩,Pv (i+1),λσ' H' p'=>⟨1#3-(i+1),by lia,rfl,hlt,p'⟩,λv H' y=>?_⟩;rcases y with⟨p2,x,e1,e2,e3,y⟩;subst e1 e3;exact hs i x p2 σ H (y xs q) p e2
 ·have e:i=1#3:=by lia
  subst e;exact .inl ⟨⟨xs,q,cU _⟩,hd σ H p⟩
end
def bE(K:qW):R2:=λx y H Q=>∃d e,GK K H x d/\GK K H y e/\d.canLay0=true/\e.canLay0=true/\d.depth<=60/\Q (.bl (!PyData.eqv d e)) H
theorem XY(hu:8#1+64<cLine):E9 X (compareOp .NotEq) (bE X.K):=by intro ad s σ H x y v u Q I rx ry h;rcases h with⟨d,e,hd,he,c1,c2,dd,q⟩;obtain⟨as,r1⟩:=hd.reads I rx;obtain⟨bs,r2⟩:=he.reads I ry;have z:=SeqAt.rcNeAt_reads (A:=X.A) r1 r2 c1 c2 (by have:=Nat.min_le_left d.depth e.depth;lia);exact z X.prog X.w X.xe _ ⟨.bl _,H,I,rfl,q⟩
theorem Oc{K:qW}{ns:qX}(h:H a=some (.tup 1#5)):GK K H 2#0 (.tuple 7#2):=.tup (Ai.of h) (LS ns)
theorem Kf(ns:qX):(PyData.tuple 7#2).canLay0=true:=by simp only[PyData.canLay0,LU]
theorem Uz(ns:qX):PyData.eqv (.tuple 7#2) (.tuple 7#2)=true:=SeqAt.eqvAll_refl 7#2 (Kf ns)
end L2
namespace RW
noncomputable def dr(g n:Int):Nat->Int
 |0=>n
 |i+1=>dr g n i/g
noncomputable def EB(g n:Int):Nat->qX
 |0=>[]
 |i+1=>EB g n i++[dr g n i%g]
theorem DI(g n:Int):∀i,(EB g n i).length=i
 |0=>rfl
 |i+1=>by rw[EB,cR,DI g n i];rfl
theorem Ab{g:Int}(hg:2<=g):∀m:Nat,0<g^m
 |0=>by rw[dP];decide
 |m+1=>by rw[dD];exact Int.mul_pos (Ab hg m) 0#0
theorem SJ{g:Int}(hg:2<=g)(n:Int):∀i:Nat,dr g n i=n/g^i
 |0=>by rw[dr,dP,Int.ediv_one]
 |i+1=>by rw[dr,SJ hg n i,dD,Int.ediv_ediv_of_nonneg (eL (Ab hg i))]
theorem Od{g n:Int}(hg:2<=g)(hn:0<=n){m:Nat}(h:n<g^m):dr g n m=0:=by rw[SJ hg];exact fT hn h
theorem XZ{g n:Int}(hg:2<=g){m:Nat}(h:g^m<=n):0<dr g n m:=by
 rw[SJ hg];have h1:1*g^m<=n:=by rw[eJ];exact h
 have h2:=(Int.le_ediv_iff_mul_le (Ab hg m)).mpr h1;lia
end RW
namespace L2
open PySem
variable{H H' H1:Hp}{a p:qS}{g:Int}{i j:Nat}{xs:List V}{α:Type}
theorem BL(hg:2<=g){m n:Nat}(h:m<=n):g^m<=g^n:=by obtain⟨k,rfl⟩:=Nat.exists_eq_add_of_le h;rw[Int.pow_add];have h1:=RW.Ab hg m;have h2:=RW.Ab hg k;have h3:=fL (show 1<=g^k by lia) (eL h1);lia
theorem IN(hg:2<=g){m n:Nat}(h:m<n):g^m<g^n:=by have h1:=BL hg (show m+1<=n from h);rw[dD]at h1;have h2:=RW.Ab hg m;have h3:=fL hg (eL h2);lia
theorem DJ(hg:2<=g){m n:Nat}(h:g^m=g^n):m=n:=by
 rcases Nat.lt_trichotomy m n with z|z|z
 ·have:=IN hg z;lia
 ·exact z
 ·have:=IN hg z;lia
theorem Jn(hg:2<=g):∀{rs:qX},(∀n∈rs,0<=n/\n<g)->0<=low g rs/\low g rs<g^rs.length
 |[],_=>⟨gJ _,by show (0:Int)<g^0;rw[dP];decide⟩
 |x::r,h=>by
  obtain⟨h1,h2⟩:=Jn hg (rs:=r) λn hn=>h n (cZ _ hn)
  obtain⟨h3,h4⟩:=h x ce;have h5:=ie (show 0<=g by lia) h1;have h6:=fL (show low g r+1<=g^10#8 by lia) (show 0<=g by lia);rw[Int.mul_add,iV]at h6;refine⟨by show 0<=x+g*low g r;lia,?_⟩;show x+g*low g r<g^(10#8+1);rw[dD,eT (g^10#8)];lia
theorem Bg(hg:2<=g){ns:qX}(h:∀n∈ns,0<=n/\n<g):0<=Aw g ns/\Aw g ns<g^1#4:=by rw[Oa,<-fy];exact Jn hg λn hn=>h n (List.mem_reverse.mp hn)
theorem Oe{l b:qS}{zs:List V}{Q:VK}(h1:H l=some 3#2)(h2:H b=some (.lst zs))(hz:1#3+zs.length<=1000)(q:∀p H',AF H H'->H p=none->H' p=some (.lst (xs++zs))->Q 1#9 H'):XI 9#5 9#2 H Q:=
 ⟨l,b,xs,zs,rfl,rfl,h1,h2,WE hz,λp hp=>q p _ (AF.new hp _) hp AD⟩
theorem FS{K:qW}{lo hi:Option Int}{Q:VK}(h:Ad K H a xs)(q:∀p H',AF H H'->H p=none->H' p=some (.lst (IA xs lo hi))->Q 1#9 H'):ZL K 2#0 lo hi H Q:=
 ⟨a,xs,rfl,h,λp hp=>q p _ (AF.new hp _) hp AD⟩
theorem Kg{l:qS}{x:V}{k:Int}{Q:VK}(h:H l=some (.lst [x]))(k0:0<=k)(k1:k<=1000)(q:∀p H',AF H H'->H p=none->H' p=some (.lst (List.replicate k.toNat x))->Q 1#9 H'):XJ 9#5 (.int k) H Q:=
 ⟨l,k,[x],rfl,rfl,h,by lia,by lia,by rw[cm,Nat.one_mul];exact WE 0#0,λp hp=>q p _ (AF.new hp _) hp (by rw[AD,R7])⟩
theorem Kh{k:Nat}:IA xs none (some ((k:Nat):Int))=xs.take k:=by
 have e:HT.Hy xs.length xs.length (some ((k:Nat):Int))=min k 1#3:=by show (if ((k:Nat):Int)<0 then (((k:Nat):Int)+(1#3:Int)).toNat else min ((k:Nat):Int).toNat 1#3)=_;rw[qE 0#0,cj]
 unfold IA;rw[e];show (xs.drop 0).take (min k 1#3-0)=_;rw[16#5,io]
 by_cases z:k<=xs.length
 ·rw[gG z]
 ·rw[Nat.min_eq_right 0#0,eG,eE 0#0]
theorem SK(hij:i<=j)(hj:j<=1#3):IA xs (some ((i:Nat):Int)) (some ((j:Nat):Int))=(xs.drop i).take (j-i):=by
 have e1:HT.Hy xs.length 0 (some ((i:Nat):Int))=i:=by show (if ((i:Nat):Int)<0 then (((i:Nat):Int)+(1#3:Int)).toNat else min ((i:Nat):Int).toNat 1#3)=_;rw[qE 0#0,cj];lia
 have e2:HT.Hy xs.length xs.length (some ((j:Nat):Int))=j:=by show (if ((j:Nat):Int)<0 then (((j:Nat):Int)+(1#3:Int)).toNat else min ((j:Nat):Int).toNat 1#3)=_;rw[qE 0#0,cj];lia
 unfold IA;rw[e1,e2]
theorem DB{ns:qX}{k:Nat}(h:k<1#4):LG 1#5 ((k:Nat):Int)=some (.int (ns.getD k 0)):=by refine Dz ?_;rw[cT,cc h,cW,cc h];rfl
def A6(H:Hp)(r:qS)(g lo:Int)(j3:qX):=∃tb,H r=some (.tup [.int g,.int lo,.ref tb])/\H tb=some (.tup 12#3)
variable{j3:qX}
theorem A6.same{r:qS}{lo:Int}(e:AF H H')(h:A6 H r g lo j3):A6 H' r g lo j3:=by obtain⟨tb,h1,h2⟩:=h;exact⟨tb,e _ _ h1,e _ _ h2⟩
inductive Gn(vs:List V)(H:Hp)(Q:VK)(z3_:XK):Prop
 |m(g n:Int):vs=[.int g,.int n]->2<=g->g<=9->(∀m:Nat,n=g^m->Q (.int ((m:Nat):Int)) H)->((∀m:Nat,n≠g^m)->Q (.int 0) H)->Gn vs H Q z3_
inductive LZ(vs:List V)(H:Hp)(Q:VK)(z3_:XK):Prop
 |m(r:qS)(g lo:Int)(j3:qX)(m:Nat):vs=[.ref r]->2<=g->g<=9->A6 H r g lo j3->(0#9:Int)=g^m->Q (.int ((m:Nat):Int)) H->LZ vs H Q z3_
noncomputable def Eh(g:Int)(m:Nat)(xs:List V):Option Nat:=match Cb g (xs.take m) with
 |some i=>some i
 |none=>if 1#3=m then none else some (min xs.length m)
theorem La{m:Nat}(h:Eh g m xs=none):1#3=m/\Cb g xs=none:=by
 unfold Eh at h;cases e:Cb g (xs.take m) with
 |some i=>rw[e]at h;cases h
 |none =>
  rw[e]at h
  by_cases z:xs.length=m
  ·refine⟨z,?_⟩;rw[<-z,eG]at e;exact e
  ·rw[qE z]at h;cases h
theorem Go{ns:qX}(h:∀n∈ns,0<=n/\n<g):Eh g ns.length 1#5=none:=by unfold Eh;have e:(ns.map 2#1).take 1#4=ns.map 2#1:=eE (by rw[cO];exact cU _);rw[e,FR h,cO];exact qF rfl
theorem HV{n:Nat}(h:i<n):LF n ((i:Nat):Int)=some i:=by unfold LF;rw[qF 0#0,qF 0#0,cj]
theorem Xa{n:Nat}(h:n<=100000):n<=sizeLine:=by rw[sizeLine_eq];lia
theorem SL{l:qS}{k:Int}{Q:VK}(h:H l=some 3#2)(k0:0<=k)(k1:k<=100000)(hz:1#3*k.toNat<=100000)(q:∀p H',AF H H'->H p=none->H' p=some (.lst (List.replicate k.toNat xs).flatten)->Q 1#9 H'):XJ 9#5 (.int k) H Q:=
 ⟨l,k,xs,rfl,rfl,h,by lia,by lia,Xa hz,λp hp=>q p _ (AF.new hp _) hp AD⟩
theorem IP:∀ns:qX,PyData.depthAll 7#2=0
 |[]=>by simp only[List.map_nil,PyData.depthAll]
 |n::ns=>by simp only[List.map_cons,PyData.depthAll,PyData.depth,IP ns,Nat.max_self]
def JW(H H':Hp)(r:qS)(ns:qX):Prop:=AF H H'/\H r=none/\H' r=some 18#4
inductive SM(vs:List V)(H:Hp)(Q:VK)(z3_:XK):Prop
 |m(g m:Int):vs=[.int g,.int m]->2<=g->g<=9->1<=m->(g^14#3<=256->Q (.int (g^14#3)) H)->(256<g^14#3->∀r:Int,256<r->Q (.int r) H)->SM vs H Q z3_
inductive Of(vs:List V)(H:Hp)(Q:VK)(z3_:XK):Prop
 |m(g m:Int):vs=[.int g,.int m]->2<=g->g<=9->0<=m->m<=256->Q (.int (g^14#3)) H->Of vs H Q z3_
theorem Og(g n:Int):∀i:Nat,RW.dr g n (i+1)=RW.dr g (n/g) i
 |0=>rfl
 |i+1=>by rw[RW.dr,Og g n i];rfl
theorem Jo(g n:Int):∀i:Nat,RW.EB g n (i+1)=n%g::RW.EB g (n/g) i
 |0=>rfl
 |i+1=>by rw[RW.EB,Jo g n i,Og];rfl
theorem Lb(hg:2<=g):∀{l:qX},(∀n∈l,0<=n/\n<g)->RW.EB g (low g l) 6#9=l
 |[],_=>rfl
 |x::r,h=>by obtain⟨h0,h1⟩:=h x ce;rw[dU,Jo,low,fE,fB h0 h1,ip _ _ (show g≠0 by lia),fT h0 h1,dh,Lb hg λn hn=>h n (cZ _ hn)]
theorem Oh(hg:2<=g)(n:Int):∀i:Nat,∀x∈RW.EB g n i,0<=x/\x<g
 |0,x,h=>qG h (by simp[RW.EB])
 |i+1,x,h=>by
  rw[RW.EB]at h;rcases cV.mp h with z|z
  ·exact Oh hg n i x z
  ·rw[cQ.mp z];exact⟨fY _ 0#0,fH _ 0#0⟩
theorem Gp(g n:Int):∀i:Nat,low g (RW.EB g n i)+g^i*RW.dr g n i=n
 |0=>by rw[RW.EB,low,RW.dr,dP];lia
 |i+1=>by have h:=Gp g n i;have e:=Int.emod_add_mul_ediv (RW.dr g n i) g;rw[RW.EB,LR,RW.DI,RW.dr,dD,Int.mul_assoc,eT (RW.dr g n i%g),Int.add_assoc,<-Int.mul_add,e];exact h
theorem SN{n:Int}(hg:2<=g)(hn:0<=n)(h:n<g^i):low g (RW.EB g n i)=n:=by have e:=Gp g n i;rw[RW.Od hg hn h,Int.mul_zero,iq]at e;exact e
theorem AF.into{o:HO}(e:AF H H1)(hp:H p=none):AF H (AU H1 p o):=λb u q=>by rw[AI (BS q hp)];exact e b u q
theorem Ki(g:Int):∀(n:Int) (l:qX),NQ g n l=n*g^6#9+Aw g l
 |n,[]=>by show n=n*g^0+0;rw[dP];lia
 |n,x::r=>by show NQ g (n*g+x) r=n*g^(10#8+1)+NQ g (0*g+x) r;rw[Ki g (n*g+x) r,Ki g (0*g+x) r,fZ,dh,Int.add_mul,dD,Int.mul_assoc,eT g,Int.add_assoc]
theorem BU(g:Int)(a b:qX):Aw g (a++b)=Aw g a*g^b.length+Aw g b:=by show (a++b).foldl (λm x=>m*g+x) 0=_;rw[gu];exact Ki g (NQ g 0 a) b
theorem Kj{ns:qX}{k m:Nat}(h:k+m<=1#4):((ns.drop k).take m).length=m:=by rw[dI,dq];lia
theorem U0(hg:2<=g){ns:qX}(hb:∀n∈ns,0<=n/\n<g){k m:Nat}(h:k+m<=1#4):Aw g (ns.take (k+m))%g^m=Aw g ((ns.drop k).take m):=by
 have b:=Bg hg (ns:=(ns.drop k).take m) λn hn=>hb n (fF (fG hn))
 rw[Kj h]at b;rw[List.take_add,BU,Kj h,gZ,eT,fE,fB b.1 b.2]
theorem SO(N g s G:Int):((N%G)*g+s)%G=(N*g+s)%G:=by rw[Int.add_emod,Int.mul_emod,Int.emod_emod,<-Int.mul_emod,<-Int.add_emod]
theorem Bx(hg:2<=g)(hb:∀n∈j3,0<=n/\n<g)(k:Nat):0<=j3.getD k 0/\j3.getD k 0<g:=by
 rw[cW];cases e:j3[k]? with
 |none=>exact⟨gJ _,by show (0:Int)<g;lia⟩
 |some v=>exact hb v (cp e)
noncomputable def HK(g:Int)(j3:qX)(m:Nat)(ns:qX)(k:Nat):Int:=j3.getD (Aw g ((ns.drop k).take m)).toNat 0
noncomputable def A7(g:Int)(j3:qX)(m:Nat)(ns:qX):qX:=(List.range (1#4+1-m)).map (HK g j3 m ns)
theorem A8(g:Int)(j3:qX)(m:Nat)(ns:qX):(A7 g j3 m ns).length=1#4+1-m:=by unfold A7;rw[3#0,4#4]
theorem Ha(hg:2<=g)(hb:∀n∈j3,0<=n/\n<g)(m:Nat)(ns:qX):∀n∈A7 g j3 m ns,0<=n/\n<g:=λn hn=>by unfold A7 at hn;obtain⟨k,_,rfl⟩:=c6.mp hn;exact Bx hg hb _
theorem Ak(f:Nat->α)(i:Nat):(List.range (i+1)).map f=(List.range i).map f++[f i]:=by rw[eR,cX];rfl
theorem SQ(hg:2<=g){ns:qX}(hb:∀n∈ns,0<=n/\n<g){m:Nat}(hl:(0#9:Int)=g^m){k:Nat}(h:k+m<=1#4):0<=Aw g ((ns.drop k).take m)/\(Aw g ((ns.drop k).take m)).toNat<0#9:=by
 have b:=Bg hg (ns:=(ns.drop k).take m) λn hn=>hb n (fF (fG hn))
 rw[Kj h]at b;exact⟨b.1,by lia⟩
variable{z:Int}
theorem Da{ns:qX}(h0:0<=z)(h:z.toNat<1#4):LG 1#5 z=some (.int (ns.getD z.toNat 0)):=by have e:=DB (ns:=ns) h;rw[show ((z.toNat:Nat):Int)=z by lia]at e;exact e
inductive SR(K:qW)(vs:List V)(H:Hp)(Q:VK)(z3_:XK):Prop
 |m(r a:qS)(g lo:Int)(j3:qX)(m:Nat)(ns:qX):vs=[.ref r,.ref a]->2<=g->g<=9->A6 H r g lo j3->(0#9:Int)=g^m->1<=m->Ad K H a 1#5->(∀n∈ns,0<=n/\n<g)->1#4<=900->(∀p H',JW H H' p 22#3->Q 1#9 H')->SR K vs H Q z3_
theorem HL(n k m:Nat)(h:k+m<=n):((List.range n).drop k).take m=(List.range m).map (k+·):=by
 apply gs;intro i;rw[gP,cT]
 by_cases hi:i<m
 ·rw[qF hi,gR,fV 0#0,fV hi];rfl
 ·rw[qE hi,fX (by rw[cw];lia)];rfl
noncomputable def BN(g n:Int)(m:Nat):qX:=(RW.EB g n m).reverse
theorem CJ(g n:Int)(m:Nat):(BN g n m).length=m:=by unfold BN;rw[List.length_reverse,RW.DI]
theorem CV(hg:2<=g)(n:Int)(m:Nat):∀x∈BN g n m,0<=x/\x<g:=λx hx=>Oh hg n m x (List.mem_reverse.mp hx)
theorem Dl{n:Int}(hg:2<=g)(h0:0<=n){m:Nat}(h:n<g^m):Aw g (BN g n m)=n:=by unfold BN;rw[Ke,SN hg h0 h]
theorem E2(hg:2<=g){ws:qX}(hb:∀x∈ws,0<=x/\x<g):BN g (Aw g ws) 19#1=ws:=by
 unfold BN;have e:=Lb hg (l:=ws.reverse) λn hn=>hb n (List.mem_reverse.mp hn)
 rw[fy]at e;rw[Oa,e,List.reverse_reverse]
theorem AS{f:Nat->Int}{n k:Nat}(h:k<n):((List.range n).map f).getD k 0=f k:=by rw[cW,cT,fV h];rfl
theorem Ag{a b:qX}(hl:a.length=b.length)(h:∀k,k<a.length->a.getD k 0=b.getD k 0):a=b:=by apply List.ext_getElem hl;intro i h1 h2;have:=h i h1;rw[cW,cW,cc h1,cc h2]at this;exact this
noncomputable def BD(g:Int)(j3:qX)(w:Int):Bool:=(List.range 0#9).any λk:Nat=>!decide (j3.getD k 0=j3.getD ((k:Int)-(k:Int)/w%g*w).toNat 0)
noncomputable def Bv(g lo:Int)(j3:qX)(m:Nat):qX:=((List.range m).filter λj=>BD g j3 (g^(m-1-j))).map λj:Nat=>lo+(j:Int)
inductive Lc(vs:List V)(H:Hp)(Q:VK)(z3_:XK):Prop
 |m(r:qS)(g lo:Int)(j3:qX)(w:Int):vs=[.ref r,.int w]->2<=g->g<=9->A6 H r g lo j3->0<w->w<=1000->0#9<=256->(∀H',AF H H'->Q (.bl (BD g j3 w)) H')->Lc vs H Q z3_
inductive IQ(vs:List V)(H:Hp)(Q:VK)(z3_:XK):Prop
 |m(r:qS)(g lo:Int)(j3:qX)(m:Nat):vs=[.ref r]->2<=g->g<=9->A6 H r g lo j3->(0#9:Int)=g^m->1<=m->m<=8->g^m<=256->(∀p H',JW H H' p (Bv g lo j3 m)->Q 1#9 H')->IQ vs H Q z3_
theorem Xb{k w:Int}(hk:0<=k)(hw:0<w)(hg:2<=g):0<=k-k/w%g*w/\k-k/w%g*w<=k:=by
 have h1:=fY (k/w) (show g≠0 by lia);have h2:=gc hk (eL hw)
 have h3:k/w%g<=k/w:=by
  by_cases z:k/w<g
  ·rw[fB h2 z];lia
  ·have:=fH (k/w) (show 0<g by lia);lia
 have h4:=Int.mul_le_mul_of_nonneg_right h3 (eL hw);have h5:=ie h1 (eL hw);have h6:=Int.ediv_mul_le k (show w≠0 by lia);exact⟨by lia,by lia⟩
end L2
namespace L2
variable{g z:Int}{i j:Nat}{j3:qX}
theorem U1(g x:Int):Aw g [x]=x:=by show 0*g+x=x;rw[fZ,dh]
theorem GN(g:Int)(a:qX)(x:Int)(b:qX):Aw g (a++x::b)=(Aw g a*g+x)*g^b.length+Aw g b:=by rw[show a++x::b=(a++[x])++b by rw[de];rfl,BU,IJ]
theorem QN(hg:2<=g){a b:qX}{x:Int}(hb:∀n∈b,0<=n/\n<g)(hx:0<=x/\x<g):Aw g (a++x::b)/g^b.length%g=x:=by have b1:=Bg hg hb;have gp:=RW.Ab hg b.length;rw[GN,gZ,eT,ip _ _ 0#0,fT b1.1 b1.2,dh,gZ,eT,fE,fB hx.1 hx.2]
theorem Ld{w:qX}(h:j<5#0):w=w.take j++w.getD j 0::w.drop (j+1):=by rw[cW,cc h];show w=w.take j++w[j]::w.drop (j+1);rw[<-fK h,df]
theorem QO{w:qX}(h:j<5#0)(v:Int):w.set j v=w.take j++v::w.drop (j+1):=List.set_eq_take_append_cons_drop▸qF h
theorem Kk(hg:2<=g){w:qX}(hb:∀n∈w,0<=n/\n<g)(h:j<5#0):Aw g w/g^(5#0-1-j)%g=w.getD j 0:=by
 have hl:(w.drop (j+1)).length=5#0-1-j:=by rw[dq];lia
 have e:=QN hg (a:=w.take j) (b:=w.drop (j+1)) (x:=w.getD j 0) (λn hn=>hb n (fF hn)) (Bx hg hb j);rw[<-Ld h,hl]at e;exact e
theorem IR(hg:2<=g){w:qX}(hb:∀n∈w,0<=n/\n<g)(h:j<5#0):Aw g w-Aw g w/g^(5#0-1-j)%g*g^(5#0-1-j)=Aw g (w.set j 0):=by
 rw[Kk hg hb h,QO h];have hl:(w.drop (j+1)).length=5#0-1-j:=by rw[dq];lia
 have e:=GN g (w.take j) (w.getD j 0) (w.drop (j+1));rw[<-Ld h]at e;rw[e,GN,hl,Int.add_mul,iq];lia
theorem FT{w:Int}(h:BD g j3 w=false){k:Nat}(hk:k<0#9):j3.getD k 0=j3.getD ((k:Int)-(k:Int)/w%g*w).toNat 0:=by unfold BD at h;rw[List.any_eq_false]at h;have:=h k (dE.mpr hk);simpa using this
theorem NX(hg:2<=g){m:Nat}(hl:(0#9:Int)=g^m){w:qX}(hb:∀n∈w,0<=n/\n<g)(hw:5#0=m)(hj:j<m)(hc:BD g j3 (g^(m-1-j))=false):j3.getD (Aw g w).toNat 0=j3.getD (Aw g (w.set j 0)).toNat 0:=by have b:=Bg hg hb;rw[hw]at b;have e:=FT hc (k:=(Aw g w).toNat) 0#0;have n0:=IR hg hb (j:=j) 0#0;rw[hw]at n0;rw[show (((Aw g w).toNat:Nat):Int)=Aw g w by lia,n0]at e;exact e
noncomputable def zk(keep:Nat->Bool)(w:qX)(k:Nat):qX:=(List.range 5#0).map λj=>if j<k/\keep j=false then 0 else w.getD j 0
theorem Cd(keep:Nat->Bool)(w:qX)(k:Nat):(zk keep w k).length=5#0:=by unfold zk;rw[3#0,4#4]
theorem FU(keep:Nat->Bool)(w:qX)(k:Nat)(h:j<5#0):(zk keep w k).getD j 0=if j<k/\keep j=false then 0 else w.getD j 0:=by unfold zk;exact AS h
theorem U2(keep:Nat->Bool)(w:qX):zk keep w 0=w:=by refine Ag (Cd keep w 0) λj hj=>?_;rw[Cd]at hj;rw[FU keep w 0 hj,qE 0#0]
theorem ZT(hg:2<=g){keep:Nat->Bool}{w:qX}(hb:∀n∈w,0<=n/\n<g)(k:Nat):∀n∈zk keep w k,0<=n/\n<g:=λn hn=>by
 unfold zk at hn;obtain⟨j,_,e⟩:=c6.mp hn;subst e;split
 ·exact⟨gJ _,by lia⟩
 ·exact Bx hg hb _
theorem Fl{w:qX}{v:Int}(h:i<5#0):(w.set i v).getD j 0=if i=j then v else w.getD j 0:=by
 rw[cW,List.getElem?_set]
 by_cases e:i=j
 ·rw[qF e,qF e];subst e;rw[qF h];rfl
 ·rw[qE e,qE e,cW]
theorem U3(keep:Nat->Bool)(w:qX){k:Nat}(hk:k<5#0):zk keep w (k+1)=if keep k=false then (zk keep w k).set k 0 else zk keep w k:=by
 by_cases e:keep k=false
 ·rw[qF e];refine Ag (by rw[fO,Cd,Cd]) λj hj=>?_;rw[Cd]at hj;rw[FU keep w _ hj,Fl (by rw[Cd];exact hk),FU keep w _ hj]
  by_cases z:k=j
  ·subst z;rw[qF ⟨by lia,e⟩,qF rfl]
  ·rw[qE z]
   by_cases y:j<k/\keep j=false
   ·rw[qF y,qF ⟨by lia,y.2⟩]
   ·rw[qE y,qE (λx=>y ⟨by lia,x.2⟩)]
 ·rw[qE e];refine Ag (by rw[Cd,Cd]) λj hj=>?_;rw[Cd]at hj;rw[FU keep w _ hj,FU keep w _ hj]
  by_cases y:j<k/\keep j=false
  ·rw[qF y,qF ⟨by lia,y.2⟩]
  ·rw[qE y,qE (λx=>y ⟨gT 0#0 (λz=>e (z▸x.2)),x.2⟩)]
theorem Hb(hg:2<=g){m:Nat}(hl:(0#9:Int)=g^m){keep:Nat->Bool}(hc:∀j,j<m->keep j=false->BD g j3 (g^(m-1-j))=false){w:qX}(hb:∀n∈w,0<=n/\n<g)(hw:5#0=m):∀k,k<=m->j3.getD (Aw g (zk keep w k)).toNat 0=j3.getD (Aw g w).toNat 0
 |0,_=>by rw[U2]
 |k+1,h=>by
  rw[U3 keep w 0#0]
  by_cases e:keep k=false
  ·rw[qF e,<-NX hg hl (ZT hg hb k) (by rw[Cd,hw]) 0#0 (hc k 0#0 e)];exact Hb hg hl hc hb hw k 0#0
  ·rw[qE e];exact Hb hg hl hc hb hw k 0#0
theorem EC(hg:2<=g){m:Nat}(hl:(0#9:Int)=g^m){v w:qX}(hv:∀n∈v,0<=n/\n<g)(hw:∀n∈w,0<=n/\n<g)(lv:v.length=m)(lw:5#0=m)(h:∀j,j<m->BD g j3 (g^(m-1-j))=true->v.getD j 0=w.getD j 0):j3.getD (Aw g v).toNat 0=j3.getD (Aw g w).toNat 0:=by
 have key:∀j,j<m->(λj=>BD g j3 (g^(m-1-j))) j=false->BD g j3 (g^(m-1-j))=false:=λj _ e=>e
 rw[<-Hb hg hl key hv lv m (cU _),<-Hb hg hl key hw lw m (cU _)]
 congr 3
 refine Ag (by rw[Cd,Cd,lv,lw]) λj hj=>?_;rw[Cd,lv]at hj;rw[FU _ _ _ 0#0,FU _ _ _ 0#0]
 by_cases e:j<m/\BD g j3 (g^(m-1-j))=false
 ·rw[qF e,qF e]
 ·rw[qE e,qE e];refine h j hj ?_;cases z:BD g j3 (g^(m-1-j)) with
  |true=>rfl
  |false=>exact qG ⟨hj,z⟩ e
noncomputable def sn(v:qX)(z:Int):Int:=if z<0\/(v.length:Int)<=z then 0 else v.getD z.toNat 0
theorem WP(hg:2<=g){v:qX}(hb:∀n∈v,0<=n/\n<g)(z:Int):0<=sn v z/\sn v z<g:=by
 unfold sn;split
 ·exact⟨gJ _,by lia⟩
 ·exact Bx hg hb _
theorem GO{v:qX}(h:j<v.length):sn v ((j:Nat):Int)=v.getD j 0:=by unfold sn;rw[qE 0#0,cj]
noncomputable def Jp(v:qX)(d:Int)(m:Nat):qX:=(List.range m).map λj:Nat=>sn v (d+(j:Int))
theorem BW(v:qX)(d:Int)(m:Nat):(Jp v d m).length=m:=by unfold Jp;rw[3#0,4#4]
theorem Ei(hg:2<=g){v:qX}(hb:∀n∈v,0<=n/\n<g)(d:Int)(m:Nat):∀n∈Jp v d m,0<=n/\n<g:=λn hn=>by unfold Jp at hn;obtain⟨j,_,e⟩:=c6.mp hn;subst e;exact WP hg hb _
theorem DL(v:qX)(d:Int){m:Nat}(h:j<m):(Jp v d m).getD j 0=sn v (d+(j:Int)):=by unfold Jp;exact AS h
theorem Le(v:qX):Jp v 0 v.length=v:=by refine Ag (BW _ _ _) λj hj=>?_;rw[BW]at hj;rw[DL v 0 hj,dh,GO hj]
noncomputable def Cn(g lo:Int)(j3:qX)(m:Nat)(low:Int)(M:Nat):qX:=(List.range (g^M).toNat).map λn:Nat=>j3.getD (Aw g (Jp (BN g (n:Int) M) (lo-low) m)).toNat 0
theorem Aq(hg:2<=g)(lo:Int)(j3:qX)(m:Nat)(low:Int)(M:Nat):((Cn g lo j3 m low M).length:Int)=g^M:=by unfold Cn;rw[cO,cw,dL (eL (RW.Ab hg M))]
theorem GP(hg:2<=g)(lo:Int)(hb:∀n∈j3,0<=n/\n<g)(m:Nat)(low:Int)(M:Nat):∀n∈Cn g lo j3 m low M,0<=n/\n<g:=λn hn=>by unfold Cn at hn;obtain⟨j,_,e⟩:=c6.mp hn;subst e;exact Bx hg hb _
theorem Ej(hg:2<=g)(lo:Int)(j3:qX)(m:Nat)(low:Int){v:qX}(hb:∀n∈v,0<=n/\n<g):(Cn g lo j3 m low v.length).getD (Aw g v).toNat 0=j3.getD (Aw g (Jp v (lo-low) m)).toNat 0:=by have b:=Bg hg hb;unfold Cn;rw[AS 0#0,show (((Aw g v).toNat:Nat):Int)=Aw g v by lia,E2 hg hb]
theorem Kl(hg:2<=g){m k:Nat}(h:(k:Int)<g^m):∃w:qX,5#0=m/\(∀n∈w,0<=n/\n<g)/\Aw g w=(k:Int):=⟨BN g (k:Int) m,CJ _ _ _,CV hg _ _,Dl hg 0#0 h⟩
theorem SS(hg:2<=g){a b:qX}{m:Nat}(la:(a.length:Int)=g^m)(lb:(b.length:Int)=g^m)(h:∀w:qX,5#0=m->(∀n∈w,0<=n/\n<g)->a.getD (Aw g w).toNat 0=b.getD (Aw g w).toNat 0):a=b:=by refine Ag 0#0 λk hk=>?_;obtain⟨w,h1,h2,h3⟩:=Kl hg (m:=m) (k:=k) 0#0;have:=h w h1 h2;rw[h3,cj]at this;exact this
theorem SU(hg:2<=g)(lo:Int){m:Nat}(hl:(0#9:Int)=g^m):Cn g lo j3 m lo m=j3:=by refine SS hg (Aq hg _ _ _ _ _) hl λw hw hb=>?_;subst hw;rw[Ej hg lo j3 _ lo hb,Int.sub_self,Le]
theorem NY{lo:Int}{m:Nat}:z∈Bv g lo j3 m↔∃j:Nat,j<m/\BD g j3 (g^(m-1-j))=true/\z=lo+(j:Int):=by
 unfold Bv;constructor
 ·intro h;obtain⟨j,hj,e⟩:=c6.mp h;obtain⟨h1,h2⟩:=dm.mp hj;exact⟨j,dE.mp h1,h2,e.symm⟩
 ·rintro⟨j,hj,hc,rfl⟩;exact c6.mpr ⟨j,dm.mpr ⟨dE.mpr hj,hc⟩,rfl⟩
theorem Dm{w:Int}:BD g j3 w=true↔∃k:Nat,k<0#9/\j3.getD k 0≠j3.getD ((k:Int)-(k:Int)/w%g*w).toNat 0:=by
 unfold BD;rw[iE];constructor
 ·rintro⟨k,hk,h⟩;exact⟨k,List.mem_range.mp hk,by simpa using h⟩
 ·rintro⟨k,hk,h⟩;exact⟨k,List.mem_range.mpr hk,by simpa using h⟩
theorem ED(hg:2<=g){m:Nat}(hl:(0#9:Int)=g^m)(hj:j<m):BD g j3 (g^(m-1-j))=true↔∃w:qX,5#0=m/\(∀n∈w,0<=n/\n<g)/\j3.getD (Aw g w).toNat 0≠j3.getD (Aw g (w.set j 0)).toNat 0:=by
 rw[Dm];constructor
 ·rintro⟨k,hk,h⟩;rcases Kl hg (m:=m) (k:=k) (by lia) with⟨w,h1,h2,h3⟩;refine⟨w,h1,h2,?_⟩;have n0:=IR hg h2 (j:=j) 0#0;rw[h1,h3]at n0;rw[<-n0,h3,cj];exact h
 ·intro hRq;rcases hRq with⟨w,h1,h2,h⟩;have b:=Bg hg h2;rw[h1]at b;refine⟨(Aw g w).toNat,by lia,?_⟩;have n0:=IR hg h2 (j:=j) 0#0;rw[h1]at n0;rw[show (((Aw g w).toNat:Nat):Int)=Aw g w by lia,n0];exact h
theorem IS(hg:2<=g){w:qX}(hb:∀n∈w,0<=n/\n<g)(j:Nat):∀n∈w.set j 0,0<=n/\n<g:=λn hn=>by
 rcases List.mem_or_eq_of_mem_set hn with z|z
 ·exact hb n z
 ·rw[z];exact⟨gJ _,by lia⟩
variable{M:Nat}
theorem IT(hg:2<=g){lo low:Int}{m:Nat}(hl:(0#9:Int)=g^m)(hc:∀j,j<m->BD g j3 (g^(m-1-j))=true->low<=lo+(j:Int)/\lo+(j:Int)<low+(M:Int))(hj:j<m)(hcj:BD g j3 (g^(m-1-j))=true)(hi:low+(i:Int)=lo+(j:Int))(hiM:i<M):BD g 3#6 (g^(M-1-i))=true:=by
 rcases (ED hg hl hj).mp hcj with⟨w,h1,h2,h3⟩;refine (ED hg (Aq hg _ _ _ _ _) hiM).mpr ⟨Jp w (low-lo) M,BW _ _ _,Ei hg h2 _ _,?_⟩
 have key:∀u:qX,u.length=m->(∀n∈u,0<=n/\n<g)->(Cn g lo j3 m low M).getD (Aw g (Jp u (low-lo) M)).toNat 0=j3.getD (Aw g u).toNat 0:=λu hu hub=>by have b2:=Ei hg hub (low-lo) M;have e:=Ej hg lo j3 m low b2;rw[BW]at e;rw[e];refine EC hg hl (Ei hg b2 _ _) hub (BW _ _ _) hu λj hj hcj=>?_;obtain⟨h1,h2⟩:=hc j hj hcj;rw[DL _ _ hj];obtain⟨k,hk⟩:∃k:Nat,lo-low+(j:Int)=(k:Int):=⟨(lo-low+(j:Int)).toNat,by lia⟩;rw[hk,GO (by rw[BW];lia),DL _ _ 0#0,show low-lo+(k:Int)=(j:Int) by lia,GO 0#0]
 have e2:(Jp w (low-lo) M).set i 0=Jp (w.set j 0) (low-lo) M:=by
  refine Ag (by rw[fO,BW,BW]) λk hk=>?_;rw[fO,BW]at hk;rw[Fl (by rw[BW];exact hiM),DL _ _ hk,DL _ _ hk];unfold sn;rw[fO]
  by_cases z:low-lo+(k:Int)<0\/(w.length:Int)<=low-lo+(k:Int)
  ·rw[qF z,qF z]
   by_cases y:i=k
   ·rw[qF y]
   ·rw[qE y]
  ·rw[qE z,qE z,Fl 0#0]
   by_cases y:i=k
   ·rw[qF y,qF 0#0]
   ·rw[qE y,qE 0#0]
 rw[e2,key w h1 h2,key (w.set j 0) (by rw[fO];exact h1) (IS hg h2 j)];exact h3
structure Bn(g lo:Int)(j3:qX)(m:Nat)(low:Int)(M:Nat):Prop where
 one:1<=M
 all:∀j,j<m->BD g j3 (g^(m-1-j))=true->low<=lo+(j:Int)/\lo+(j:Int)<low+(M:Int)
 ends:((∀j,j<m->BD g j3 (g^(m-1-j))=false)/\low=0/\M=1)\/∃j0 j1:Nat,j0<=j1/\j1<m/\low=lo+(j0:Int)/\M=j1-j0+1/\BD g j3 (g^(m-1-j0))=true/\BD g j3 (g^(m-1-j1))=true
theorem JX(p:Nat->Bool)(n:Nat):((List.range n).filter p).Pairwise (·<·):=List.Pairwise.filter p List.pairwise_lt_range
theorem NZ:∀{l:List Nat},l.Pairwise (·<·)->∀x∈l,l.getD 0 0<=x
 |[],_,x,h=>qG h 0#3
 |a::r,hp,x,h=>by
  rcases dA.mp h with z|z
  ·rw[z];exact cU _
  ·exact dz ((List.pairwise_cons.mp hp).1 x z)
theorem GQ:∀{l:List Nat},l.Pairwise (·<·)->∀x∈l,x<=l.getD (6#9-1) 0
 |[],_,x,h=>qG h 0#3
 |[a],_,x,h=>by rw[cQ.mp h];exact cU _
 |a::b::r,hp,x,h=>by
  have ih:=GQ (l:=b::r) (List.pairwise_cons.mp hp).2;have e:(a::b::r).getD ((a::b::r).length-1) 0=(b::r).getD ((b::r).length-1) 0:=rfl;rw[e];rcases dA.mp h with z|z
  ·rw[z];exact dO (dz ((List.pairwise_cons.mp hp).1 b ce)) (ih b ce)
  ·exact ih x z
theorem IU:∀{l:List Nat} {k:Nat},k<6#9->l.getD k 0∈l:=λ{l k} h=>by rw[cW,cc h];exact i3 h
theorem Gr{f:Nat->Int}{l:List Nat}{k:Nat}(h:k<6#9):(l.map f).getD k 0=f (l.getD k 0):=by rw[cW,cT,cc h,cW,cc h];rfl
theorem Lf{lo:Int}{m:Nat}(h:Bv g lo j3 m=[]):Bn g lo j3 m 0 1:=by
 have f:∀j,j<m->BD g j3 (g^(m-1-j))=false:=λj hj=>by
  cases z:BD g j3 (g^(m-1-j)) with
  |false=>rfl
  |true=>exact qG (NY.mpr ⟨j,hj,z,rfl⟩) (by rw[h];simp)
 exact⟨cU _,λj hj hc=>qG hc (by rw[f j hj];decide),.inl ⟨f,rfl,rfl⟩⟩
theorem Jq{lo:Int}{m:Nat}(h:Bv g lo j3 m≠[]):∃M:Nat,(M:Int)=(Bv g lo j3 m).getD ((Bv g lo j3 m).length-1) 0-(Bv g lo j3 m).getD 0 0+1/\M<=m/\Bn g lo j3 m ((Bv g lo j3 m).getD 0 0) M:=by
 unfold Bv at h⊢;generalize hl:((List.range m).filter λj=>BD g j3 (g^(m-1-j)))=l at h⊢
 have hne:0<6#9:=by
  cases l with
  |nil=>exact qG rfl h
  |cons a r=>simp
 have hm:∀j,j∈l↔j<m/\BD g j3 (g^(m-1-j))=true:=λj=>by rw[<-hl,dm,dE]
 have hp:l.Pairwise (·<·):=by rw[<-hl];exact JX _ _
 rw[cO,Gr (show 6#9-1<6#9 by lia),Gr hne];have m0:=(hm _).mp (IU hne);have m1:=(hm _).mp (IU (show 6#9-1<6#9 by lia));have le:=GQ hp _ (IU hne);refine⟨l.getD (6#9-1) 0-l.getD 0 0+1,by lia,by lia,⟨by lia,λj hj hc=>?_,.inr ⟨l.getD 0 0,l.getD (6#9-1) 0,le,m1.1,rfl,rfl,m0.2,m1.2⟩⟩⟩;have a1:=NZ hp j ((hm j).mpr ⟨hj,hc⟩);have a2:=GQ hp j ((hm j).mpr ⟨hj,hc⟩);lia
variable{low':Int}{M':Nat}
theorem Bn.uniq{lo:Int}{m:Nat}{low:Int}(h:Bn g lo j3 m low M)(h':Bn g lo j3 m low' M'):low=low'/\M=M':=by
 rcases h.ends with⟨f,e1,e2⟩|⟨j0,j1,le,lt,e1,e2,c0,c1⟩
 ·rcases h'.ends with⟨f',e1',e2'⟩|⟨j0',j1',le',lt',e1',e2',c0',c1'⟩
  ·exact⟨by lia,by lia⟩
  ·rw[f j1' lt']at c1';cases c1'
 ·rcases h'.ends with⟨f',e1',e2'⟩|⟨j0',j1',le',lt',e1',e2',c0',c1'⟩
  ·rw[f' j1 lt]at c1;cases c1
  ·have a:=h.all j0' 0#0 c0';have b:=h.all j1' lt' c1';have c:=h'.all j0 0#0 c0;have d:=h'.all j1 lt c1;exact⟨by lia,by lia⟩
theorem Bn.again{lo:Int}(hg:2<=g){m:Nat}(hl:(0#9:Int)=g^m){low:Int}(h:Bn g lo j3 m low M):Bn g low 3#6 M low M:=by
 refine⟨h.one,λj hj _=>by lia,?_⟩;rcases h.ends with⟨f,e1,e2⟩|⟨j0,j1,le,lt,e1,e2,c0,c1⟩
 ·refine .inl ⟨λj hj=>?_,e1,e2⟩;cases z:BD g (Cn g lo j3 m low M) (g^(M-1-j)) with
  |false=>rfl
  |true =>
   obtain⟨w,h1,h2,h3⟩:=(ED hg (Aq hg _ _ _ _ _) hj).mp z;refine qG ?_ h3;have b1:=Ej hg lo j3 m low h2;have b2:=Ej hg lo j3 m low (IS hg h2 j);rw[fO,h1]at b2;rw[h1]at b1;rw[b1,b2];exact EC hg hl (Ei hg h2 _ _) (Ei hg (IS hg h2 j) _ _) (BW _ _ _) (BW _ _ _) λi hi hc=>by rw[f i hi]at hc;cases hc
 ·exact .inr ⟨0,M-1,by lia,by lia,by lia,by lia,IT hg hl h.all 0#0 c0 0#0 0#0,IT hg hl h.all lt c1 0#0 0#0⟩
theorem Na{w:qX}(h:j+M<=5#0):Jp w (j:Int) M=(w.drop j).take M:=by refine Ag (by rw[BW,dI,dq];lia) λk hk=>?_;rw[BW]at hk;rw[DL _ _ hk,show (j:Int)+(k:Int)=((j+k:Nat):Int) by lia,GO 0#0,cW,cW,gP,qF hk,gR]
theorem QP(hg:2<=g){m:Nat}(hl:(0#9:Int)=g^m)(f:∀j,j<m->BD g j3 (g^(m-1-j))=false){w:qX}(hb:∀n∈w,0<=n/\n<g)(hw:5#0=m):j3.getD (Aw g w).toNat 0=j3.getD 0 0:=by
 obtain⟨z,h1,h2,h3⟩:=Kl hg (m:=m) (k:=0) (RW.Ab hg m);have e:=EC hg hl hb h2 hw h1 λj hj hc=>qG hc (by rw[f j hj];decide)
 rw[h3]at e;exact e
theorem SV(hg:2<=g){lo low:Int}{m:Nat}(hl:(0#9:Int)=g^m)(f:∀j,j<m->BD g j3 (g^(m-1-j))=false):Cn g lo j3 m low M=List.replicate (g^M).toNat (j3.getD 0 0):=by unfold Cn;rw[gd];refine⟨by rw[cO,cw],λb hb=>?_⟩;obtain⟨n,_,e⟩:=c6.mp hb;rw[<-e,QP hg hl f (Ei hg (CV hg _ _) _ _) (BW _ _ _)]
end L2
namespace L2
variable{g:Int}{j:Nat}{j3:qX}
noncomputable def BO(n:Nat)(f:Nat->Int):Int:=((List.range n).map f).sum
theorem C3(f:Nat->Int):BO 0 f=0:=rfl
theorem A3(n:Nat)(f:Nat->Int):BO (n+1) f=BO n f+f n:=by unfold BO;rw[eR,cX,jK];show _+([f n]:qX).sum=_;rw[fq,List.sum_nil,iq]
theorem Bh{n:Nat}{f g:Nat->Int}(h:∀k,k<n->f k=g k):BO n f=BO n g:=by unfold BO;rw[dc λk hk=>h k (dE.mp hk)]
theorem SW(n:Nat)(f g:Nat->Int):BO n (λk=>f k+g k)=BO n f+BO n g:=by
 induction n with
 |zero=>rfl
 |succ n ih=>rw[A3,A3,A3,ih];lia
theorem Lg(n:Nat)(f:Nat->Int)(c:Int):BO n (λk=>f k*c)=BO n f*c:=by
 induction n with
 |zero=>rw[C3,C3,fZ]
 |succ n ih=>rw[A3,A3,ih,Int.add_mul]
theorem EE(n:Nat)(c:Int):BO n (λ_=>c)=(n:Int)*c:=by
 induction n with
 |zero=>rw[C3];simp
 |succ n ih=>rw[A3,ih,Int.natCast_add,Int.add_mul];simp
theorem Ek{n:Nat}{f:Nat->Int}(h:∀k,k<n->0<=f k):0<=BO n f:=by
 induction n with
 |zero=>exact gJ _
 |succ n ih =>
  rw[A3];have h1:=ih λk hk=>h k (d5 hk)
  have h2:=h n (fR n);lia
theorem E3{n:Nat}{f:Nat->Int}(h:∀k,k<n->0<=f k)(hj:j<n):f j<=BO n f:=by
 induction n with
 |zero=>exact qG hj (iJ _)
 |succ n ih =>
  rw[A3]
  by_cases e:j=n
  ·subst e;have h1:=Ek (n:=j) (f:=f) λk hk=>h k (d5 hk)
   lia
  ·have h1:=ih (λk hk=>h k (d5 hk)) 0#0;have h2:=h n (fR n);lia
theorem QQ(a b:Nat)(f:Nat->Nat->Int):BO a (λi=>BO b (λj=>f i j))=BO b (λj=>BO a (λi=>f i j)):=by
 induction a with
 |zero =>
  rw[C3];have:BO b (λ_=>(0:Int))=0:=by rw[EE,Int.mul_zero]
  exact this.symm
 |succ a ih =>
  rw[A3,ih,<-SW];exact Bh λj _=>(A3 a _).symm
theorem Nb(a b:Nat)(f:Nat->Int):BO (a+b) f=BO a f+BO b (λk=>f (a+k)):=by
 induction b with
 |zero=>rw[C3,iq];rfl
 |succ b ih=>rw[<-Nat.add_assoc,A3,A3,ih,Int.add_assoc]
theorem QR(a b:Nat)(f:Nat->Int):BO (a*b) f=BO a (λi=>BO b (λj=>f (i*b+j))):=by
 induction a with
 |zero=>rw[jM];rfl
 |succ a ih=>rw[gW,Nb,A3,ih]
noncomputable def Fm(p:Bool)(x:Int):Int:=if p then x else 0
theorem EF{p:Bool}{x:Int}(h:0<=x):0<=Fm p x:=by unfold Fm;split<;>lia
theorem SY(n j:Nat)(hj:j<n)(x:Int):BO n (λk=>Fm (decide (k=j)) x)=x:=by
 induction n with
 |zero=>exact qG hj (iJ _)
 |succ n ih =>
  rw[A3]
  by_cases e:j=n
  ·subst e;have z:BO j (λk=>Fm (decide (k=j)) x)=0:=by rw[Bh (g:=λ_=>0) λk hk=>by unfold Fm;rw[qI 0#0];rfl,EE,Int.mul_zero]
   rw[z];unfold Fm;rw[qH rfl];simp
  ·rw[ih 0#0];unfold Fm;rw[qI 0#0];simp
noncomputable def E4(G:Nat)(j3:qX):qX->Nat->Int
 |[],_=>1
 |s::r,h=>BO G λj=>Fm (decide (j3.getD (h*G+j) 0=s)) (E4 G j3 r ((h*G+j)%(0#9/G)))
theorem Bo(G:Nat)(j3:qX):∀(r:qX) (h:Nat),0<=E4 G j3 r h
 |[],_=>by show (0:Int)<=1;decide
 |s::r,h=>Ek λj _=>EF (Bo G j3 r _)
noncomputable def Cs(G:Nat)(j3:qX)(r:qX):Int:=BO (0#9/G) (E4 G j3 r)
theorem EG(G:Nat)(j3 r:qX):0<=Cs G j3 r:=Ek λh _=>Bo G j3 r h
theorem IW{m:Nat}{ns:qX}(h:1#4<m):A7 g j3 m ns=[]:=by unfold A7;rw[show 1#4+1-m=0 by lia];rfl
theorem Jr{m:Nat}{y:Int}{ns:qX}(h:m<=1#4+1):A7 g j3 m (y::ns)=HK g j3 m (y::ns) 0::A7 g j3 m ns:=by unfold A7;rw[dU,show 1#4+1+1-m=(1#4+1-m)+1 by lia,List.range_succ_eq_map,dN,fI];rfl
theorem Bb(hg:2<=g){m:Nat}(hl:(0#9:Int)=g^m)(hm:1<=m):((0#9/0#7:Nat):Int)=g^(m-1)/\0#9=0#9/0#7*0#7:=by
 obtain⟨k,rfl⟩:∃k,m=k+1:=⟨m-1,by lia⟩
 have e:0#9=(g^k).toNat*0#7:=by have p:=RW.Ab hg k;rw[dD]at hl;apply Int.ofNat.inj;show (0#9:Int)=(((g^k).toNat*0#7:Nat):Int);rw[hl,f7,dL (eL p),dL 0#0]
 have q:0#9/0#7=(g^k).toNat:=by rw[e];exact Nat.mul_div_cancel _ 0#0
 rw[q,eU];exact⟨dL (eL (RW.Ab hg k)),e⟩
theorem Lh(hg:2<=g){m:Nat}(hl:(0#9:Int)=g^m)(hm:1<=m):∀(rest w:qX),5#0=m-1->(∀n∈w++rest,0<=n/\n<g)->1<=E4 g.toNat j3 (A7 g j3 m (w++rest)) (Aw g w).toNat
 |[],w,hw,_=>by rw[eI,IW 0#0];exact gJ _
 |x::r,w,hw,hb=>by
  have hx:=hb x (cV.mpr (.inr ce))
  obtain⟨y,w',e⟩:∃y w',w++[x]=y::w':=by
   cases w with
   |nil=>exact⟨x,[],rfl⟩
   |cons a t=>exact⟨a,t++[x],rfl⟩
  have e2:w++x::r=y::(w'++r):=by rw[<-iz,<-e,de];rfl
  have hw':w'.length=m-1:=by have:=qQ List.length e;rw[cR,dU]at this;simp only[List.length_cons,List.length_nil]at this;lia
  have hbw:∀n∈w,0<=n/\n<g:=λn hn=>hb n (cV.mpr (.inl hn))
  have hbw':∀n∈w',0<=n/\n<g:=λn hn=>hb n (by rw[e2];exact cZ _ (cV.mpr (.inl hn)))
  have ih:=Lh hg hl hm r w' hw' λn hn=>hb n (by rw[e2];exact cZ _ hn)
  have hd:=Bb hg hl hm;have b1:=Bg hg hbw;have b2:=Bg hg hbw';rw[hw']at b2;rw[e2,Jr (by rw[cR];lia)]
  have hwin:HK g j3 m (y::(w'++r)) 0=j3.getD ((Aw g w).toNat*0#7+x.toNat) 0:=by
   unfold HK
   have t1:(List.drop 0 (y::(w'++r))).take m=w++[x]:=by rw[16#5,<-List.cons_append,<-e,List.take_append_of_le_length (by simp only[List.length_append,List.length_cons,List.length_nil];lia),List.take_of_length_le (by simp only[List.length_append,List.length_cons,List.length_nil];lia)]
   rw[t1,BU]
   congr 1
   show (Aw g w*g^1+Aw g [x]).toNat=_;have nx:Aw g [x]=x:=by show 0*g+x=x;rw[fZ,dh]
   rw[nx,dD,dP,eJ,Int.toNat_add (ie b1.1 0#0) hx.1,Int.toNat_mul b1.1 0#0]
  have hmod:((Aw g w).toNat*0#7+x.toNat)%(0#9/0#7)=(Aw g w').toNat:=by
   have z:Aw g w*g+x=Aw g w'+y*g^(m-1):=by
    have q:=qQ (Aw g) e;rw[BU,show y::w'=[y]++w' from rfl,BU,hw']at q;have nx:Aw g [x]=x:=by show 0*g+x=x;rw[fZ,dh]
    have ny:Aw g [y]=y:=by show 0*g+y=y;rw[fZ,dh]
    rw[nx,ny]at q;have g1:g^([x]:qX).length=g:=by show g^1=g;rw[dD,dP,eJ]
    rw[g1]at q;lia
   apply Int.ofNat.inj;show (((Aw g w).toNat*0#7+x.toNat)%(0#9/0#7):Nat)=(((Aw g w').toNat:Nat):Int);rw[fS,jL,f7,hd.1,dL b1.1,dL 0#0,dL hx.1,dL b2.1,z,eT y,fE,fB b2.1 b2.2]
  have key:=E3 (n:=0#7) (f:=λj=>Fm (decide (j3.getD ((Aw g w).toNat*0#7+j) 0=HK g j3 m (y::(w'++r)) 0)) (E4 g.toNat j3 (A7 g j3 m (w'++r)) (((Aw g w).toNat*0#7+j)%(0#9/0#7)))) (λj _=>EF (Bo _ _ _ _)) (j:=x.toNat) 0#0;refine fe ?_ key;show 1<=Fm _ _;rw[hmod,hwin,qH rfl];exact ih
theorem U4(hg:2<=g){m:Nat}(hl:(0#9:Int)=g^m)(hm:1<=m){ns:qX}(hb:∀n∈ns,0<=n/\n<g):1<=Cs g.toNat j3 22#3:=by
 have hd:=Bb hg hl hm;have hp:=RW.Ab hg (m-1)
 by_cases h:ns.length<m
 ·rw[IW h];show 1<=BO (0#9/0#7) (λ_=>1);rw[EE,iV,hd.1];lia
 ·have hw:(ns.take (m-1)).length=m-1:=by rw[dI];lia
  have p:=Lh hg hl hm (ns.drop (m-1)) (ns.take (m-1)) hw (by rw[df];exact hb);rw[df]at p;have b:=Bg hg (ns:=ns.take (m-1)) λn hn=>hb n (fG hn)
  rw[hw,<-hd.1]at b;exact fe p (E3 (f:=E4 g.toNat j3 22#3) (λh _=>Bo _ _ _ _) 0#0)
noncomputable def af(G:Nat)(j3:qX)(s:Int)(F:Nat->Int):Nat->Int:=λv=>BO j3.length λa=>Fm (decide (j3.getD a 0=s)&&decide (a%(0#9/G)=v)) (F (a/G))
variable{G:Nat}
theorem Sa(hG:2<=G)(hp:0<0#9/G)(hd:0#9=0#9/G*G)(s:Int)(r:qX)(F:Nat->Int):
  BO (0#9/G) (λv=>af G j3 s F v*E4 G j3 r v)=BO (0#9/G) (λv=>F v*E4 G j3 (s::r) v):=by
 have e1:BO (0#9/G) (λv=>F v*E4 G j3 (s::r) v)=BO j3.length (λa=>Fm (decide (j3.getD a 0=s)) (F (a/G)*E4 G j3 r (a%(0#9/G)))):=by
  have h1:BO (0#9/G*G) (λa=>Fm (decide (j3.getD a 0=s)) (F (a/G)*E4 G j3 r (a%(0#9/G))))=BO (0#9/G) (λv=>F v*E4 G j3 (s::r) v):=by
   rw[QR];refine Bh λv _=>?_;show _=F v*BO G λj=>Fm (decide (j3.getD (v*G+j) 0=s)) (E4 G j3 r ((v*G+j)%(0#9/G)))
   rw[eT (F v),<-Lg];refine Bh λj hj=>?_;rw[fW v G,Nat.mul_add_div 0#0,i4 hj,jN];unfold Fm;split
   ·rw[eT]
   ·rw[fZ]
  rw[<-hd]at h1;exact h1.symm
 rw[e1]
 have e2:∀v,v<0#9/G->af G j3 s F v*E4 G j3 r v=BO j3.length (λa=>Fm (decide (j3.getD a 0=s)&&decide (a%(0#9/G)=v)) (F (a/G))*E4 G j3 r v):=λv _=>by unfold af;rw[Lg]
 rw[Bh e2,QQ];refine Bh λa _=>?_;have hlt:a%(0#9/G)<0#9/G:=eW _ hp;refine Eq.trans (Bh (g:=λv=>Fm (decide (v=a%(0#9/G))) (Fm (decide (j3.getD a 0=s)) (F (a/G)*E4 G j3 r (a%(0#9/G))))) λv _=>?_) (SY _ _ hlt _)
 by_cases e:v=a%(j3.length/G)
 ·rw[qH e,qH e.symm,Bool.and_true,e];unfold Fm;split
  ·rfl
  ·rw[fZ];rfl
 ·rw[qI e,qI (show ¬a%(0#9/G)=v from λz=>e z.symm),Bool.and_false];show 0*_=0;rw[fZ]
end L2
namespace L2
open PySem
variable{G M:Nat}{H H':Hp}{X:Cx}{g:Int}{j3:qX}
noncomputable def Co(G:Nat)(j3:qX)(h:Nat)(s:Int):List Nat:=((List.range G).filter λj=>decide (j3.getD (h*G+j) 0=s)).map λj=>h*G+j
theorem Nc(n:Nat)(p:Nat->Bool)(f:Nat->Int):(((List.range n).filter p).map f).sum=BO n λj=>Fm (p j) (f j):=by
 induction n with
 |zero=>rfl
 |succ n ih =>
  rw[A3,eR,fP,cX,jK,ih]
  congr 1
  unfold Fm;cases h:p n<;>simp[List.filter,h]
theorem Sb(G:Nat)(j3:qX)(h:Nat)(s:Int)(f:Nat->Int):((Co G j3 h s).map f).sum=BO G λj=>Fm (decide (j3.getD (h*G+j) 0=s)) (f (h*G+j)):=by unfold Co;rw[fI];exact Nc G _ _
theorem Li(G:Nat)(j3:qX)(h:Nat)(s:Int)(r:qX):((Co G j3 h s).map λn=>E4 G j3 r (n%(0#9/G))).sum=E4 G j3 (s::r) h:=Sb G j3 h s _
noncomputable def GR(G:Nat)(j3 r:qX):qX:=(List.range (0#9/G)).map (E4 G j3 r)
theorem Sc(G:Nat)(j3 r:qX):(GR G j3 r).length=0#9/G:=by unfold GR;rw[3#0,4#4]
theorem Sd(G:Nat)(j3 r:qX):(GR G j3 r).sum=Cs G j3 r:=rfl
theorem Se{r:qX}{h:Nat}(hh:h<0#9/G):(GR G j3 r).getD h 0=E4 G j3 r h:=by unfold GR;exact AS hh
noncomputable def FV(ns:List Nat):qX:=ns.map λn:Nat=>(n:Int)
structure Aa(H:Hp)(r:qS)(g lo:Int)(j3:qX)(m:Nat):Prop where
 v:A6 H r g lo j3
 g2:2<=g
 g9:g<=9
 m1:1<=m
 m8:m<=8
 len:(0#9:Int)=g^m
 sz:g^m<=256
 tb:∀n∈j3,0<=n/\n<g
theorem Aa.same{r:qS}{lo:Int}{m:Nat}(e:AF H H')(h:Aa H r g lo j3 m):Aa H' r g lo j3 m:=⟨h.v.same e,h.g2,h.g9,h.m1,h.m8,h.len,h.sz,h.tb⟩
inductive Oi(vs:List V)(H:Hp)(Q:VK)(z3_:XK):Prop
 |m(r:qS)(g lo:Int)(j3:qX)(m:Nat):vs=[.ref r]->Aa H r g lo j3 m->Q (.int ((0#9/0#7:Nat):Int)) H->Oi vs H Q z3_
inductive Sf(vs:List V)(H:Hp)(Q:VK)(z3_:XK):Prop
 |m(r:qS)(g lo:Int)(j3:qX)(m h:Nat)(s:Int):vs=[.ref r,.int ((h:Nat):Int),.int s]->Aa H r g lo j3 m->h<0#9/0#7->(∀p H',JW H H' p (FV (Co g.toNat j3 h s))->Q 1#9 H')->Sf vs H Q z3_
inductive Lj(vs:List V)(H:Hp)(Q:VK)(z3_:XK):Prop
 |m(r f w:qS)(g lo:Int)(j3:qX)(m:Nat)(fs:List Nat)(ws:qX):vs=[.ref r,.ref f,.ref w]->Aa H r g lo j3 m->H f=some (.lst ((FV fs).map V.int))->fs.length<=300->H w=some (.lst (ws.map V.int))->ws.length=j3.length/g.toNat->(∀p H',JW H H' p (fs.map λn=>ws.getD (n%(0#9/0#7)) 0)->Q 1#9 H')->Lj vs H Q z3_
def ZU(H:Hp)(p:qS)(G:Nat)(j3 row:qX):=∃ps:List qS,H p=some 9#1/\5#5=11#1+1/\∀(k:Nat) (q:qS),ps[k]?=some q->H q=some (.lst ((GR G j3 (row.drop k)).map 2#1))
theorem Nd{K:qW}(h:X.K=K)(hc:23#4=true):Df X (.builtin "sum") (λxs H Q=>∃(p:qS) (ns:qX),xs=[.ref p]/\Ad K H p 1#5/\Q (.int ns.sum) H):=h▸Ef hc
theorem QS(ns:qX):(PyData.tuple 7#2).depth<=60:=by
 simp only[PyData.depth,IP]
 decide
inductive Lk(K:qW)(vs:List V)(H:Hp)(Q:VK)(z3_:XK):Prop
 |m(a:qS)(v:qX)(z:Int):vs=[.ref a,.int z]->Ad K H a (v.map 2#1)->Q (.int (sn v z)) H->Lk K vs H Q z3_
theorem Fn(hg:2<=g)(h:g^M<=256):M<=8:=by
 apply iD;intro z;have h1:=BL hg (show 9<=M by lia)
 have h2:(512:Int)<=g^9:=by
  have h2:2*2<=g*g:=iA hg hg 0#1 0#0;have h4:4*4<=(g*g)*(g*g):=iA 0#0 0#0 0#1 0#0;have h8:16*16<=((g*g)*(g*g))*((g*g)*(g*g)):=iA 0#0 0#0 0#1 0#0;have h9:256*2<=(((g*g)*(g*g))*((g*g)*(g*g)))*g:=iA 0#0 hg 0#1 0#0;have e:g^9=(((g*g)*(g*g))*((g*g)*(g*g)))*g:=by simp only[Int.pow_succ,Int.pow_zero,Int.one_mul,Int.mul_assoc]
  rw[e];lia
 lia
theorem Aa.bw{r r':qS}{lo:Int}{m:Nat}(h:Aa H r g lo j3 m){low:Int}(hM:1<=M)(hz:g^M<=256)(hv:A6 H' r' g low 3#6):Aa H' r' g low 3#6 M:=
 ⟨hv,h.g2,h.g9,hM,Fn h.g2 hz,Aq h.g2 _ _ _ _ _,hz,GP h.g2 _ h.tb _ _ _⟩
inductive Oj(vs:List V)(H:Hp)(Q:VK)(z3_:XK):Prop
 |m(r:qS)(g lo:Int)(j3:qX)(m:Nat)(low:Int)(M:Nat):vs=[.ref r,.int low,.int ((M:Nat):Int)]->Aa H r g lo j3 m->1<=M->g^M<=256->(∀r' H',AF H H'->Aa H' r' g low 3#6 M->Q 19#4 H')->Oj vs H Q z3_
inductive Ll(vs:List V)(H:Hp)(Q:VK)(z3_:XK):Prop
 |m(r:qS)(g lo:Int)(j3:qX)(m:Nat):vs=[.ref r]->Aa H r g lo j3 m->(∀(low:Int) (M:Nat),Bn g lo j3 m low M->∀r' H',AF H H'->Aa H' r' g low 3#6 M->Q 19#4 H')->Ll vs H Q z3_
theorem Bn.small{lo:Int}{m:Nat}{low:Int}(h:Bn g lo j3 m low M)(hm:1<=m):M<=m:=by
 rcases h.ends with⟨_,_,e⟩|⟨j0,j1,le,lt,_,e,_,_⟩
 ·lia
 ·lia
theorem QT{ns:qX}(h:0<1#4):LG 1#5 (-1)=some (.int (ns.getD (1#4-1) 0)):=by
 have e:=DB (ns:=ns) (k:=1#4-1) 0#0
 have z:LF (ns.map 2#1).length (-1)=some (1#4-1):=by
  unfold LF;rw[cO];rw[qE 0#1,qF 0#0]
  congr 1
  lia
 have y:LF (ns.map 2#1).length (((1#4-1:Nat)):Int)=some (1#4-1):=by rw[cO];exact HV 0#0
 unfold LG at e⊢;rw[z];rw[y]at e;exact e
end L2
namespace L2
open PySem PySem.Spec PyProof.Rows
variable{X:Cx}{i:Nat}{pos:Pos}{tc:TT}{te:TE}
section
variable{es:List Expr}{t:TA}
theorem A9{i:Int}{j}(hr:PA X es t):PA X (.Constant 9#3 j pos::es) (EM (tC 9#3) t):=AA AG hr (by rfl)
end
@[irreducible] def Ub (X:Cx) (st:Stmt) (t:TS):Prop:=PS X st t
@[irreducible] def Fo (X:Cx) (ss:List Stmt) (t:TS):Prop:=Gg X ss t
section
variable{st:Stmt}{rest ss:List Stmt}{t u:TS}
theorem Ub.of(h:PS X st t):Ub X st t:=by unfold Ub;exact h
theorem Ub.out(h:Ub X st t):PS X st t:=by unfold Ub at h;exact h
theorem Fo.of(h:Gg X ss t):Fo X ss t:=by unfold Fo;exact h
theorem Fo.out(h:Fo X ss t):Gg X ss t:=by unfold Fo at h;exact h
theorem CF(h1:Ub X st t)(h2:Fo X rest u):Fo X (st::rest) (P6 t u):=.of (AB h1.out h2.out)
theorem Ol(h1:Ub X st t):Fo X [st] t:=.of (AE h1.out)
end
@[irreducible] def Om (X:Cx) (e:Expr) (te:TE):Prop:=PE X e te
@[irreducible] def QU (X:Cx) (es:List Expr) (t:TA):Prop:=PA X es t
section
variable{e a b:Expr}{es:List Expr}{ta tb:TE}{t:TA}
theorem Om.of(h:PE X e te):Om X e te:=by unfold Om;exact h
theorem Om.out(h:Om X e te):PE X e te:=by unfold Om at h;exact h
theorem QU.of(h:PA X es t):QU X es t:=by unfold QU;exact h
theorem QU.out(h:QU X es t):PA X es t:=by unfold QU at h;exact h
theorem Bp:QU X [] JQ:=.of AC
theorem AQ{i:Int}{j}{p:Pos}(hr:QU X es t):QU X (.Constant 9#3 j p::es) (EM (tC 9#3) t):=.of (A9 hr.out)
theorem On(h:QU X es t):Om X (.List es pos) (QD t):=.of (BM h.out)
theorem Xc{r:R2}(hr:WA X r)(ha:Om X a ta)(hb:Om X b tb)(hs:OV b):Om X (.Subscript a b pos) 18#1:=.of (AR hr ha.out hb.out hs)
theorem Cz{x:Str}{pos':Pos}(hN:25#1)(hi:X.N[i]?=some x)(hx:V0 X.env.scope x)(he:Om X e te)(hs:swapsWith e (some (.Name x pos')) pos.line 1#6=pure false)(hf:X.fn x=true\/X.env.scope.names.lookup x=some .local):
  Ub X (.Assign [.Name x pos'] e pos) (JP te (C8 i)):=.of (GD hN hi hx he.out hs hf)
theorem Xd{c:Expr}{a b:List Stmt}{t u:TS}(hc:PT X c tc)(ha:Fo X a t)(hb:Fo X b u):Ub X (.If c a b pos) (W6 tc t u):=.of (Ay hc ha.out hb.out)
theorem U5:Fo X [] RQ:=.of Ae
end
end L2
namespace L2
open PySem
variable{D:GC}{H:Hp}{M M' j:Nat}{g low' z:Int}{j3:qX}{σ:St}
noncomputable def BI(x:Int->Int)(lo:Int)(m:Nat):qX:=(List.range m).map λj:Nat=>x (lo+(j:Int))
theorem As(x:Int->Int)(lo:Int)(m:Nat):(BI x lo m).length=m:=by unfold BI;rw[3#0,4#4]
theorem Do(x:Int->Int)(lo:Int){m:Nat}(h:j<m):(BI x lo m).getD j 0=x (lo+(j:Int)):=by unfold BI;exact AS h
def NA(g:Int)(x:Int->Int):=∀z,0<=x z/\x z<g
theorem CW{x:Int->Int}(hx:NA g x)(lo:Int)(m:Nat):∀n∈BI x lo m,0<=n/\n<g:=λn hn=>by unfold BI at hn;obtain⟨j,_,rfl⟩:=c6.mp hn;exact hx _
noncomputable def DM(g lo:Int)(j3:qX)(m:Nat)(x:Int->Int):Int:=j3.getD (Aw g (BI x lo m)).toNat 0
noncomputable def Gs(w:qX)(lo:Int):Int->Int:=λz=>sn w (z-lo)
theorem GS(hg:2<=g){w:qX}(hb:∀n∈w,0<=n/\n<g)(lo:Int):NA g (Gs w lo):=λz=>WP hg hb _
theorem U6(w:qX)(low lo:Int)(m:Nat):BI (Gs w low) lo m=Jp w (lo-low) m:=by unfold BI Jp Gs;exact dc λj _=>by rw[show lo+(j:Int)-low=lo-low+(j:Int) by lia]
theorem El(w:qX)(lo:Int):BI (Gs w lo) lo 5#0=w:=by rw[U6,Int.sub_self,Le]
theorem Sg(x:Int->Int){lo low:Int}{m:Nat}(h1:low<=lo)(h2:lo+(m:Int)<=low+(M:Int)):Jp (BI x low M) (lo-low) m=BI x lo m:=by
 refine Ag (by rw[BW,As]) λj hj=>?_;rw[BW]at hj;rw[DL _ _ hj,Do _ _ hj,show lo-low+(j:Int)=((((lo-low).toNat+j:Nat):Nat):Int) by lia,GO (by rw[As];lia),Do _ _ 0#0]
 congr 1
 lia
theorem E5(hg:2<=g){lo low:Int}{m:Nat}(hl:(0#9:Int)=g^m)(hc:∀j,j<m->BD g j3 (g^(m-1-j))=true->low<=lo+(j:Int)/\lo+(j:Int)<low+(M:Int)){x:Int->Int}(hx:NA g x):DM g low 3#6 M x=DM g lo j3 m x:=by
 unfold DM;have z:=Ej hg lo j3 m low (v:=BI x low M) (CW hx low M);rw[As]at z;rw[z];refine EC hg hl (Ei hg (CW hx low M) _ _) (CW hx lo m) (BW ..) (As ..) λj hj hcj=>?_;obtain⟨a,b⟩:=hc j hj hcj;rw[DL _ _ hj,Do _ _ hj,show lo-low+(j:Int)=(((lo+(j:Int)-low).toNat:Nat):Int) by lia,GO (by rw[As];lia),Do _ _ 0#0]
 congr 1
 lia
def WQ(g:Int)(f:(Int->Int)->Int)(z:Int):=∃x,NA g x/\f x≠f λy=>if y=z then 0 else x y
theorem bF(hg:2<=g){x:Int->Int}(hx:NA g x)(z:Int):NA g λy=>if y=z then 0 else x y:=λy=>by
 show 0<=(if y=z then 0 else x y)/\(if y=z then 0 else x y)<g;split
 ·lia
 ·exact hx y
theorem Lm(x:Int->Int)(lo:Int){m:Nat}(hj:j<m):BI (λy=>if y=lo+(j:Int) then 0 else x y) lo m=(BI x lo m).set j 0:=by
 refine Ag (by rw[fO,As,As]) λk hk=>?_;rw[As]at hk;rw[Do _ _ hk,Fl (by rw[As];exact hj),Do _ _ hk]
 by_cases e:j=k
 ·subst e;rw[qF rfl,qF rfl]
 ·rw[qE e,qE 0#0]
theorem Hc(hg:2<=g){lo:Int}{m:Nat}(hl:(0#9:Int)=g^m)(hj:j<m):BD g j3 (g^(m-1-j))=true↔WQ g (DM g lo j3 m) (lo+(j:Int)):=by
 rw[ED hg hl hj];constructor
 ·rintro⟨w,wl,wb,ne⟩;subst wl;refine⟨Gs w lo,GS hg wb lo,?_⟩;unfold DM;rw[Lm _ _ hj,El];exact ne
 ·rintro⟨x,hx,ne⟩;unfold DM at ne;rw[Lm _ _ hj]at ne;exact⟨_,As ..,CW hx lo m,ne⟩
theorem Sh{lo:Int}{m:Nat}(h:WQ g (DM g lo j3 m) z):∃j:Nat,j<m/\z=lo+(j:Int):=by
 obtain⟨x,hx,ne⟩:=h
 by_cases e:lo<=z/\z<lo+(m:Int)
 ·exact⟨(z-lo).toNat,by lia,by lia⟩
 ·exfalso;apply ne;unfold DM
  congr 3
  unfold BI;refine dc λj hj=>?_;have:=dE.mp hj;show x (lo+(j:Int))=if lo+(j:Int)=z then 0 else x (lo+(j:Int));rw[qE 0#0]
structure Nf(g:Int)(f:(Int->Int)->Int)(low:Int)(M:Nat):Prop where
 one:1<=M
 all:∀z,WQ g f z->low<=z/\z<low+(M:Int)
 ends:((∀z,¬WQ g f z)/\low=0/\M=1)\/(WQ g f low/\WQ g f (low+(M:Int)-1))
theorem Bn.toF(hg:2<=g){lo:Int}{m:Nat}(hl:(0#9:Int)=g^m){low:Int}(h:Bn g lo j3 m low M):Nf g (DM g lo j3 m) low M:=by
 refine⟨h.one,λz hz=>?_,?_⟩
 ·obtain⟨j,hj,rfl⟩:=Sh hz;exact h.all j hj ((Hc hg hl hj).mpr hz)
 ·rcases h.ends with⟨f,a,b⟩|⟨j0,j1,le,lt,a,b,c0,c1⟩
  ·refine .inl ⟨λz hz=>?_,a,b⟩;obtain⟨j,hj,rfl⟩:=Sh hz;rw[<-Hc hg hl hj,f j hj]at hz;cases hz
  ·have d0:=(Hc (lo:=lo) hg hl (show j0<m by lia)).mp c0;have d1:=(Hc (lo:=lo) hg hl lt).mp c1;refine .inr ⟨a▸d0,?_⟩;rw[show low+(M:Int)-1=lo+(j1:Int) by lia];exact d1
theorem Nf.uniq{f:(Int->Int)->Int}{low:Int}(h:Nf g f low M)(h':Nf g f low' M'):low=low'/\M=M':=by
 have o:=h.one;have o':=h'.one;rcases h.ends with⟨n,a,b⟩|⟨d0,d1⟩
 ·rcases h'.ends with⟨_,a',b'⟩|⟨d0',_⟩
  ·lia
  ·exact qG d0' (n _)
 ·rcases h'.ends with⟨n',_,_⟩|⟨d0',d1'⟩
  ·exact qG d0 (n' _)
  ·have:=h.all _ d0';have:=h.all _ d1';have:=h'.all _ d0;have:=h'.all _ d1;lia
theorem E6(hg:2<=g){f f':(Int->Int)->Int}(h:∀x,NA g x->f x=f' x)(d:WQ g f z):WQ g f' z:=by obtain⟨x,hx,ne⟩:=d;refine⟨x,hx,?_⟩;rw[<-h x hx,<-h _ (bF hg hx z)];exact ne
theorem Nf.congr(hg:2<=g){f f':(Int->Int)->Int}(h:∀x,NA g x->f x=f' x){low:Int}(n:Nf g f low M):Nf g f' low M:=by
 have h2:∀x,NA g x->f' x=f x:=λx hx=>(h x hx).symm
 refine⟨n.one,λz d=>n.all z (E6 hg h2 d),?_⟩;rcases n.ends with⟨a,b,c⟩|⟨a,b⟩
 ·exact .inl ⟨λz d=>a z (E6 hg h2 d),b,c⟩
 ·exact .inr ⟨E6 hg h a,E6 hg h b⟩
def CY(g lo:Int)(j3:qX)(m:Nat)(lo':Int)(tab':qX)(m':Nat):=∀x,NA g x->DM g lo j3 m x=DM g lo' tab' m' x
theorem Xe(hg:2<=g){lo:Int}{a b:qX}{m:Nat}(la:(a.length:Int)=g^m)(lb:(b.length:Int)=g^m)(h:∀x,NA g x->DM g lo a m x=DM g lo b m x):a=b:=by refine SS hg la lb λw wl wb=>?_;subst wl;have z:=h (Gs w lo) (GS hg wb lo);unfold DM at z;rw[El]at z;exact z
variable{lo':Int}{tab':qX}{m':Nat}
theorem CZ(hg:2<=g){lo:Int}{m:Nat}(hl:(0#9:Int)=g^m)(hl':(1#8:Int)=g^m'){low:Int}(n:Bn g lo j3 m low M)(n':Bn g lo' tab' m' low' M'):
  CY g lo j3 m lo' tab' m'↔low=low'/\Cn g lo j3 m low M=Cn g lo' tab' m' low' M':=by
 constructor
 ·intro h;obtain⟨e1,e2⟩:=((n.toF hg hl).congr hg h).uniq (n'.toF hg hl');subst e1 e2;refine⟨rfl,Xe hg (lo:=low) (Aq hg ..) (Aq hg ..) λx hx=>?_⟩;rw[E5 hg hl n.all hx,E5 hg hl' n'.all hx];exact h x hx
 ·rintro⟨rfl,e⟩ x hx;have hM:M=M':=by have a:=Aq hg lo j3 m low M;have b:=Aq hg lo' tab' m' low M';rw[e,b]at a;exact DJ hg a.symm
  subst hM;rw[<-E5 hg hl n.all hx,<-E5 hg hl' n'.all hx,e]
theorem Si(hg:2<=g){lo low:Int}{m:Nat}(hl:(0#9:Int)=g^m)(h1:low<=lo)(h2:lo+(m:Int)<=low+(M:Int)){x:Int->Int}(hx:NA g x):DM g low 3#6 M x=DM g lo j3 m x:=
 E5 hg hl (λj hj _=>by lia) hx
theorem Ah{t u:TS}(h:∀N:St->Hp->Prop,(∀σ' H',u D σ' H'->N σ' H')->t {D with nx:=N} σ H):P6 t u D σ H:=h (u D) λ_ _ z=>z
end L2
namespace L2
open PySem PySem.Spec PyProof.Rows
end L2
namespace L2
theorem Cj{i j:Int}:NG 9#3 (.int j)=true:=rfl
theorem Oo{i j:Bool}:NG (.bl i) (.bl j)=true:=rfl
theorem Op:NG .non .non=true:=rfl
theorem Oq{i:Int}:NG 9#3 .non=true:=rfl
theorem U7{i:Int}:NG .non 9#3=true:=rfl
end L2
namespace L2
open PySem PySem.Spec PyProof.Rows
variable{E Q:qR->qT->Prop}{H H':Hp}{T:String}{X:Cx}{a:qS}{h h':Heap}{ad:List (qS×Obj)}{pos:Pos}{s:qT}{t':Nat}{u:qR}{y:V}{σ:St}
section
variable{κ:Type}[DecidableEq κ]
noncomputable def BV(kvs:List (κ×V))(k:κ):Option V:=(kvs.find? λkv=>decide (kv.1=k)).map (·.2)
noncomputable def CH(kvs:List (κ×V))(k:κ)(v:V):List (κ×V):=
 if (kvs.any λkv=>decide (kv.1=k))=true then kvs.map (λkv=>if kv.1=k then (kv.1,v) else kv) else kvs++[(k,v)]
theorem Dq{p:κ×V}{r:List (κ×V)}{k:κ}(e:p.1=k):BV (p::r) k=some p.2:=by simp[BV,List.find?_cons,e]
theorem Cp{p:κ×V}{r:List (κ×V)}{k:κ}(e:¬p.1=k):BV (p::r) k=BV r k:=by simp[BV,List.find?_cons,e]
theorem Fp(k:κ):∀kvs:List (κ×V),(kvs.any λkv=>decide (kv.1=k))=(BV kvs k).isSome
 |[]=>rfl
 |p::r=>by
  rw[iK]
  by_cases e:p.1=k
  ·simp only[Dq e,qH e,Bool.true_or,Option.isSome_some]
  ·rw[Cp e,qI e,Bool.false_or];exact Fp k r
theorem DN(kvs:List (κ×V))(k:κ)(v:V):(CH kvs k v).length<=2#2+1:=by
 unfold CH;split
 ·rw[cO];lia
 ·rw[cR,dU,gf];lia
theorem Ln{kvs:List (κ×V)}{k:κ}(v:V)(h:BV kvs k=none):CH kvs k v=kvs++[(k,v)]:=by unfold CH;rw[Fp,h];exact qE 0#1
theorem FN.isSome_eq{o:Option V}{u:Option qR}(r:FN o u):o.isSome=u.isSome:=by
 cases o with
 |none=>cases u with
  |none=>rfl
  |some _=>exact (show False from r).elim
 |some _=>cases u with
  |none=>exact (show False from r).elim
  |some _=>rfl
theorem FN.getD{o:Option V}{u:Option qR}{d:V}{d':qR}(r:FN o u)(rd:An d d'):An (o.getD d) (u.getD d'):=by
 cases o with
 |none=>cases u with
  |none=>exact rd
  |some _=>exact (show False from r).elim
 |some _=>cases u with
  |none=>exact (show False from r).elim
  |some _=>exact r
theorem KV.val{kvs:List (κ×V)}{vs:List (κ×qR)}(r:KV kvs vs)(k:κ):FN (BV kvs k) (valueAt vs k):=by
 unfold KV at r
 induction r with
 |nil=>exact 8#6
 | @cons p q ps qs h t ih =>
  obtain⟨h1,h2⟩:=h
  by_cases e:p.1=k
  ·have e':q.1=k:=h1.symm.trans e;have b:valueAt (q::qs) k=some q.2:=by simp[valueAt,List.find?_cons,e']
   rw[Dq e,b];exact h2
  ·have e':¬q.1=k:=λz=>e 21#8
   have b:valueAt (q::qs) k=valueAt qs k:=by simp[valueAt,List.find?_cons,e']
   rw[Cp e,b];exact ih
theorem KV.any{kvs:List (κ×V)}{vs:List (κ×qR)}(r:KV kvs vs)(k:κ):(kvs.any λkv=>decide (kv.1=k))=vs.any λkv=>decide (kv.1=k):=by
 unfold KV at r
 induction r with
 |nil=>rfl
 |cons h t ih=>rw[iK,iK,ih,h.1]
theorem KV.repl{kvs:List (κ×V)}{vs:List (κ×qR)}(r:KV kvs vs)(k:κ)(ry:An y u):
  KV (kvs.map λkv=>if kv.1=k then (kv.1,y) else kv) (vs.map λkv=>if kv.1=k then (kv.1,u) else kv):=by
 unfold KV at r⊢
 induction r with
 |nil=>exact .nil
 | @cons p q ps qs h t ih =>
  rw[dN,dN];refine .cons ?_ ih;obtain⟨h1,h2⟩:=h
  by_cases e:p.1=k
  ·rw[qF e,qF (h1.symm.trans e)];exact⟨h1,ry⟩
  ·rw[qE e,qE (λz=>e 21#8)];exact⟨h1,h2⟩
theorem KV.put{kvs:List (κ×V)}{vs:List (κ×qR)}(r:KV kvs vs)(k:κ)(ry:An y u):KV 22#1 (stored vs k u):=by
 unfold CH stored;rw[r.any k]
 by_cases e:(vs.any λkv=>decide (kv.1=k))=true
 ·rw[qF e,qF e];exact r.repl k ry
 ·rw[qE e,qE e];exact Paired.snoc r ⟨rfl,ry⟩
theorem KV.length{kvs:List (κ×V)}{vs:List (κ×qR)}(r:KV kvs vs):2#2=4#5:=Paired.length r
end
theorem IX{P:qU}{w:qV}{k:BP}(r:An (kV k) u):(Am P w).is k u=true:=by
 cases k with
 |inl i=>obtain⟨t,e⟩:=(show ∃t,u=Value.int i t from r);subst e;exact K7 P w i t
 |inr x=>obtain⟨t,e⟩:=(show ∃t,u=Value.str x t from r);subst e;exact K8 P w x t
theorem GU{P:qU}{w:qV}:∀{ks:List BP} {us:List qR},Ar (ks.map kV) us->ItemsAre 22#2 ks us
 |[],_,r=>by rw[gU]at r;cases r;exact .nil
 |k::ks,_,r=>by
  rw[dN]at r;cases r with
  |cons h t=>exact .cons (IX h) (GU t)
abbrev Os(H:Hp):List (List BP×V)->List (List BP×qS×qR)->Prop:=Paired λp q=>p.1=q.1/\H q.2.1=some (.tup (p.1.map kV))/\An p.2 q.2.2
variable{kvs:List (List BP×V)}
theorem Os.val{xs:List (List BP×qS×qR)}(r:Os H kvs xs)(k:List BP):FN (BV kvs k) ((atKey xs k).map (·.2)):=by
 induction r with
 |nil=>exact 8#6
 | @cons p q ps qs h t ih =>
  obtain⟨h1,_,h2⟩:=h
  by_cases e:p.1=k
  ·have e':q.1=k:=h1.symm.trans e;have b:atKey (q::qs) k=some q.2:=by simp[atKey,List.find?_cons,e']
   rw[Dq e,b];exact h2
  ·have e':¬q.1=k:=λz=>e 21#8
   have b:atKey (q::qs) k=atKey qs k:=by simp[atKey,List.find?_cons,e']
   rw[Cp e,b];exact ih
theorem Os.repl{xs:List (List BP×qS×qR)}(r:Os H kvs xs)(k:List BP)(ry:An y u):
  Os H (kvs.map λkv=>if kv.1=k then (kv.1,y) else kv) (xs.map (putAt k u)):=by
 induction r with
 |nil=>exact .nil
 | @cons p q ps qs h t ih =>
  rw[dN,dN];refine .cons ?_ ih;obtain⟨h1,h2,h3⟩:=h;unfold putAt
  by_cases e:p.1=k
  ·rw[qF e,qF (h1.symm.trans e)];exact⟨h1,h2,ry⟩
  ·rw[qE e,qE (λz=>e 21#8)];exact⟨h1,h2,h3⟩
theorem Os.put{xs:List (List BP×qS×qR)}(r:Os H kvs xs)(k:List BP){b:qS}(hb:H b=some (.tup 6#5))(ry:An y u):
  Os H 22#1 (storedH xs k b u):=by
 have e:(kvs.any λkv=>decide (kv.1=k))=(atKey xs k).isSome:=by rw[Fp,(r.val k).isSome_eq,gv]
 unfold CH storedH;rw[e]
 by_cases q:(atKey xs k).isSome=true
 ·rw[qF q,qF q];exact r.repl k ry
 ·rw[qE q,qE q];exact Paired.snoc r ⟨rfl,hb,ry⟩
theorem Os.keeps{xs:List (List BP×qS×qR)}(r:Os H kvs xs)(ht:∀b ys,H b=some (.tup ys)->H' b=some (.tup ys)):Os H' kvs xs:=
 Paired.mapP r λ_ _ z=>⟨z.1,ht _ _ z.2.1,z.2.2⟩
section
variable{P:qU}{w:qV}
theorem WR{u:HO}(ok:Dd P w H h)(e:Rd H a u):Aj P w H h a u:=e.ok ok
theorem Gu{kvs:List (BP×V)}(ok:Dd P w H h)(e:Rd H a 6#3):2#2<=sizeLine/\(a==sysModules)=false/\∃vs,KV kvs vs/\h.DictOf 22#2 a vs:=
 show Aj P w H h a 6#3 from WR ok e
theorem WS{kvs:List (BP×V)}(ok:Dd P w H h)(e:H a=some 6#3):2#2<=sizeLine/\(a==sysModules)=false/\∃vs,KV kvs vs/\h.DictOf 22#2 a vs:=Gu ok (.inl e)
theorem GV{ks:List BP}(ok:Dd P w H h)(e:H a=some (.tup (ks.map kV))):(tupleKind 22#2).is h ks a:=by rcases (show Aj P w H h a (.tup (ks.map kV)) from ok a _ e) with⟨_,its,r,o,h1,h2,n,h3⟩;exact⟨o,7#0,n,h1,h2,h3,by simpa using GU r⟩
theorem IY(ok:Dd P w H h)(e:Rd H a 22#5):2#2<=sizeLine/\(a==sysModules)=false /\
  ∃xs,Os H kvs xs/\h.DictOfH 23#5 a xs:=by
 rcases (show Aj P w H h a (.dT kvs) from WR ok e) with⟨z,y,xs,r,o,es,ep,h1,h2,h3,h4,h5⟩;refine⟨z,y,xs,r,o,es,ep,h1,h2,h3,h4,λx hx=>?_,h5⟩
 have all:∀{l:List (List BP×V)} {m:List (List BP×qS×qR)},Os H l m->∀x∈m,(tupleKind 22#2).is h x.1 x.2.1:=by
  intro l m q
  induction q with
  |nil=>intro x hx;exact nomatch hx
  | @cons p q ps qs hq t ih =>
   intro x hx;rcases dA.mp hx with e|hx
   ·subst e;exact GV ok (by rw[<-hq.1];exact hq.2.1)
   ·exact ih x hx
 exact all r x hx
theorem ZV(ok:Dd P w H h)(e:H a=some 22#5):2#2<=sizeLine/\(a==sysModules)=false /\
  ∃xs,Os H kvs xs/\h.DictOfH 23#5 a xs:=IY ok (.inl e)
end
def FD(H:Hp)(a:qS)(y:V)(r:Option V):Prop:=
 (∃kvs k,Rd H a 6#3/\y=kV k/\r=BV kvs k)\/∃kvs k b,Rd H a 22#5/\y=.ref b/\H b=some (.tup 6#5)/\r=BV kvs k
def QV(H:Hp)(a:qS)(y v:V)(H':Hp):Prop:=
 (∃kvs k,H a=some 6#3/\y=kV k/\2#2<sizeLine/\H'=AU H a (.dK 27#3)) \/
 ∃kvs k b,H a=some 22#5/\y=.ref b/\H b=some (.tup 6#5)/\2#2<sizeLine/\H'=AU H a (.dT 27#3)
theorem FD.k{kvs:List (BP×V)}{k:BP}(e:H a=some 6#3):FD H a (kV k) (BV kvs k):=.inl ⟨kvs,k,.inl e,rfl,rfl⟩
theorem QV.k{kvs:List (BP×V)}{k:BP}{v:V}(e:H a=some 6#3)(hl:2#2<sizeLine):QV H a (kV k) v (AU H a (.dK 27#3)):=.inl ⟨kvs,k,e,rfl,hl,rfl⟩
section
variable{v:V}{r:qR}{o:Option V}{A:Around}
theorem AT.big(I:AT X ad σ H s):sysModules<0#6:=by have h:mainGlobals<0#6:=(I.mod.glob.keeps I.bk).lt;exact jO 0#1 h
theorem QW(hu:17#6+1<cLine)(I:AT X ad σ H s)(g:FD H a y 13#6)(ry:An y u)(h:∀w' s',AT X ad σ H s'->An v w'->Q w' s'):
  wpAny 1#0 A (getItem 2#0 u) Q E s:=by
 rcases g with⟨kvs,k,e,ey,l⟩|⟨kvs,k,b,e,ey,eb,l⟩
 ·subst ey;rcases Gu I.hok e with⟨z,hd,vs,rel,dd⟩;obtain⟨w',hw,rw'⟩:=FN.some_of (v:=v) (o:=valueAt vs k) (by rw[l];exact rel.val k);exact wpAny_getItem_of (IX ry) dd.mapOf hw (h w' _ (I.tok _) rw')
 ·subst ey;cases (show u=Value.ref b from ry);rcases IY I.hok e with⟨z,hd,xs,rel,dd⟩;obtain⟨w',hw,rw'⟩:=FN.some_of (v:=v) (o:=(atKey xs k).map (·.2)) (by rw[l];exact rel.val k);obtain⟨p,hp,hp2⟩:=c7.mp hw;refine wpAny_getItem_heap 8#2 (GV I.hok eb) dd hp ?_;rw[hp2];exact h w' _ (I.tok _) rw'
theorem U8(hu:17#6+1<cLine)(I:AT X ad σ H s)(g:FD H a y o)(ry:An y u)(h:∀s',AT X ad σ H s'->Q (.bool (!o.isSome)) s'):
  wpAny 1#0 A (compareOp .NotIn u 2#0) Q E s:=by
 rcases g with⟨kvs,k,e,ey,l⟩|⟨kvs,k,b,e,ey,eb,l⟩
 ·subst ey;rcases Gu I.hok e with⟨z,hd,vs,rel,dd⟩;refine wpAny_notIn_of (IX ry) hd dd.mapOf ?_;rw[<-(rel.val k).isSome_eq,<-l];exact h _ (I.tok _)
 ·subst ey;cases (show u=Value.ref b from ry);rcases IY I.hok e with⟨z,hd,xs,rel,dd⟩;refine wpAny_notIn_heap 8#2 (GV I.hok eb) hd dd ?_;have q:=(rel.val k).isSome_eq;rw[gv]at q;rw[<-q,<-l];exact h _ (I.tok _)
theorem Hd{ob:HO}(I:AT X ad σ H s)(mu:Y6 (H a))(hs:Heap.SameBut a s.heap h')(he:∃q,h'.get? a=some q)(new:Aj X.prog X.w (AU H a ob) h' a ob):
  AT X ad σ (AU H a ob) {s with heap:=h',toks:=t'}:=
 I.write (x:=a) (e:=a) mu 8#8 (λb q hb z=>(hs.2 b hb).trans z) he new
theorem Sj{P:qU}{w:qV}{kvs:List (BP×V)}{vs:List (BP×qR)}(z:2#2<=sizeLine)(hd:(a==sysModules)=false)(rel:KV kvs vs)(dd:h'.DictOf 22#2 a vs):
  Aj P w H' h' a 6#3:=⟨z,hd,vs,rel,dd⟩
theorem QX{Q:Unit->qT->Prop}(hu:17#6+1<cLine)(I:AT X ad σ H s)(g:QV H a y v H')(ry:An y u)(rv:An v r)(h:∀s',AT X ad σ H' s'->Q () s'):
  wpAny 1#0 A (setItem 2#0 u r) Q E s:=by
 rcases g with⟨kvs,k,e,ey,l,eH⟩|⟨kvs,k,b,e,ey,eb,l,eH⟩
 ·subst ey eH;rcases WS I.hok e with⟨z,hd,vs,rel,dd⟩;have hz:4#5<=sizeLine:=by rw[<-rel.length];exact z
  have hl:(CH kvs k v).length<=sizeLine:=by have:=DN kvs k v;lia
  refine wpAny_setItem_pairs (hsz:=hz) (IX ry) dd λh' dd' hs=>h _ ?_
  have he:∃q,h'.get? a=some q:=let ⟨q,_,_,hq,_⟩:=dd';⟨q,hq⟩;exact Hd I (by rw[e];exact 8#6) hs he (Sj hl hd (rel.put k rv) dd')
 ·subst ey eH;cases (show u=Value.ref b from ry);rcases ZV I.hok e with⟨z,hd,xs,rel,dd⟩;have hz:1#3<=sizeLine:=by rw[<-Paired.length rel];exact z
  have hl:(CH kvs k v).length<=sizeLine:=by have:=DN kvs k v;lia
  refine wpAny_setItem_heap (hsz:=hz) 8#2 (GV I.hok eb) dd λh' dd' hs=>h _ ?_
  rcases dd' with⟨q,es,ep,hq,h2,h3,h4,_,h5⟩;refine Hd I (by rw[e];exact 8#6) hs ⟨q,hq⟩ ⟨hl,hd,_,(rel.put k eb rv).keeps λc ys ec=>?_,q,es,ep,hq,h2,h3,h4,h5⟩;rw[AI (De ec e (λz=>nomatch z))];exact ec
end
def U9(i:Expr):=∀ov iv,subscripted i false ov iv=operate [ov,iv] (getItem ov iv)
theorem Ot{prog:qU}{w:qV}{A:Around}{env:Env}{value slice:Expr}{id:String}(hl:typeLookup (.type T) "__getitem__"=pure (some 11#6))(hs:U9 slice)(h:wpAny 0#8 A (eval value env) (λo s₁=>wpAny 0#8 A (eval slice env) (λi s₂=>s₂.TypeIs o T/\wpAny 0#8 A (getItem o i) Q E s₂) E s₁) E s):
  wpAny 0#8 A (eval (.Subscript value slice pos) env) Q E s:=by
 refine Subscript_ (qN h (λo s₁ h₁=>qN h₁ (λi s₂ h₂=>?_) λ_ _ x=>x) λ_ _ x=>x);obtain⟨hT,h₂⟩:=h₂;unfold subscriptTail;refine qC ?_;rw[getitemInPython_of_ne hT.not_modules];refine qC (wpAny_specialOf hT hl ?_)
 have fin:wpAny 0#8 A (subscripted slice false o i) (λr s₃=>wpAny 0#8 A (letTemporaryGo value o r >>= λ_=>pure r) Q E s₃) E s₂:=by rw[hs o i];exact wpAny_operating (qN h₂ (λr s₃ h₃=>qC (wpAny_letTemporaryGo (qD h₃))) λ_ _ x=>x)
 first
  |exact qD (qC fin)
  |exact qC (qD (qC fin))
  |exact qC fin
theorem Lo{o:Option V}(I:AT X ad σ H s)(g:FD H a y o):s.TypeIs 2#0 "dict":=by
 rcases g with⟨kvs,k,e,_,_⟩|⟨kvs,k,b,e,_,_,_⟩
 ·obtain⟨_,_,vs,_,dd⟩:=Gu I.hok e;exact 28#3
 ·obtain⟨_,_,xs,_,dd⟩:=IY I.hok e;exact 28#3
def ZW(td ty:TE):TE:=λσ H Q=>td σ H λx H1=>ty σ H1 λy H2=>∃a v,x=.ref a/\FD H2 a y 13#6/\Q v H2
def VA(ty td:TE):TE:=λσ H Q=>ty σ H λy H1=>td σ H1 λx H2=>∃a o,x=.ref a/\FD H2 a y o/\Q (.bl (!o.isSome)) H2
def ZX(td ty tv:TE):TS:=λD σ H=>tv σ H λv H1=>td σ H1 λx H2=>ty σ H2 λy H3=>∃a H4,x=.ref a/\QV H3 a y v H4/\D.nx σ H4
section
variable{o i e value:Expr}{pos' tpos:Pos}{td ty tv:TE}
theorem Km(hu:8#1+1<cLine)(ho:PE X o td)(hi:PE X i ty)(hs:U9 i):PE X 12#7 (ZW td ty):=by intro ad s σ H Q I h;refine Ot PySem.F.slot_dict_getitem.lookup hs (BB (ho ad s σ H _ I h) λu s1 ⟨x,H1,I1,rx,q1⟩=>BB (hi ad s1 σ H1 _ I1 q1) λiv s2 z9=>?_);obtain⟨y,H2,I2,ry,a,v,ex,g,q2⟩:=z9;subst ex;obtain rfl:u=Value.ref a:=rx;exact⟨Lo I2 g,QW hu I2 g ry λw' s3 I3 rw'=>⟨v,H2,I3,rw',q2⟩⟩
theorem Js(hu:8#1+1<cLine)(hi:PE X i ty)(ho:PE X o td):PC X .NotIn i o (VA ty td):=by
 intro ad s σ H Q I h;refine BB (hi ad s σ H _ I h) λiv s1 ⟨y,H1,I1,ry,q1⟩=>BB (ho ad s1 σ H1 _ I1 q1) λu s2 z9=>?_
 obtain⟨x,H2,I2,rx,a,ov,ex,g,q2⟩:=z9;subst ex;obtain rfl:u=Value.ref a:=rx;exact U8 hu I2 g ry λs3 I3=>⟨.bl (!ov.isSome),H2,I3,rfl,q2⟩
theorem Ou(hu:8#1+1<cLine)(ho:PE X o td)(hi:PE X i ty)(hv:PE X value tv)(hs:swapsWith value (some 26#7) pos.line 1#6=pure false):
  PS X (.Assign [.Subscript o i pos'] value pos) (ZX td ty tv):=by
 intro ad s σ H D I h;refine wpAny_Assign_Subscript (BB (hv ad s σ H _ I h) λr s1 ⟨v,H1,I1,rv,q1⟩=>BB (ho ad s1 σ H1 _ I1 q1) λu s2 ⟨x,H2,I2,rx,q2⟩=>BB (hi ad s2 σ H2 _ I2 q2) λiv s3 z9=>?_) hs;obtain⟨y,H3,I3,ry,a,H4,ex,g,q3⟩:=z9;subst ex;obtain rfl:u=Value.ref a:=rx;exact QX hu I3 g ry rv λs4 I4=>⟨σ,H4,I4,q3⟩
end
theorem Sk{P:qU}{w:qV}(h:Heap)(hb:sysModules<14#5):Aj P w H (h.push {cls:=.type "dict",data:=.dict #[]}) h.objs.size (.dK []):=
 ⟨di _,beq_eq_false_iff_ne.mpr (Ne.symm (dH hb)),[],.nil,Heap.DictOf.new h⟩
def Xf:TE:=λ_ H Q=>∀p,H p=none->Q 1#9 (AU H p (.dK []))
theorem IZ:PE X (.Dict [] [] pos) Xf:=λad s σ H Q I h =>
 wpAny_Dict_empty ⟨.ref 0#6,_,I.laid (a:=0#6) (o:=.dK []) (t':=7#8) (λ_ _ q=>cS _ q) (cU _) (Sk s.heap I.big),rfl,h _ (I.hok.fresh (cU _))⟩
structure M1(X:Cx)(o:Expr)(m:Str)(apos:Pos)(e:Expr)(cpos:Pos):Prop where
 base:attributeBase o m X.env 14#7=eval o 1#6
 few:((backTo cpos (starEach [e] 1#6)).all (λx=>!x.1)&&(backToKw cpos (keywordEach [] 1#6)).all (λx=>x.1.isSome)
  && decide (([e]:List Expr).length+([]:List Keyword).length+(if ([]:List Keyword).isEmpty then 0 else 1)<30))=true
 line:(17#4==28#4)=true
 trees:backTo cpos (starEach [e] 1#6)=[(false,eval e 1#6)]
structure M2(X:Cx)(o:Expr)(m:Str)(apos:Pos)(e f:Expr)(cpos:Pos):Prop where
 base:attributeBase o m X.env 14#7=eval o 1#6
 few:((backTo cpos (starEach [e,f] 1#6)).all (λx=>!x.1)&&(backToKw cpos (keywordEach [] 1#6)).all (λx=>x.1.isSome)
  && decide (([e,f]:List Expr).length+([]:List Keyword).length+(if ([]:List Keyword).isEmpty then 0 else 1)<30))=true
 line:(17#4==28#4)=true
 trees:backTo cpos (starEach [e,f] 1#6)=[(false,eval e 1#6),(false,eval f 1#6)]
def bG(H:Hp)(a:qS):Prop:=(∃kvs,Rd H a 6#3)\/∃kvs,Rd H a 22#5
theorem Sl(I:AT X ad σ H s)(d:bG H a):
  s.TypeIs 2#0 "dict"/\(∀b,Value.ref a=.ref b->∃ob,s.heap.get? b=some ob/\ob.dict=none)/\(a==sysModules)=false:=by
 rcases d with⟨kvs,e⟩|⟨kvs,e⟩
 ·obtain⟨_,hd,vs,_,dd⟩:=Gu I.hok e;refine⟨28#3,λb q=>?_,hd⟩;cases q;obtain⟨ob,_,_,h1,h2,_⟩:=dd;exact⟨ob,h1,h2.2.1⟩
 ·obtain⟨_,hd,xs,_,dd⟩:=IY I.hok e;refine⟨28#3,λb q=>?_,hd⟩;cases q;obtain⟨ob,_,_,h1,h2,_⟩:=dd;exact⟨ob,h1,h2.2.1⟩
section
variable{d:V}{r:qR}{o:Option V}{A:Around}
theorem Xg(hu:17#6+1<cLine)(I:AT X ad σ H s)(g:FD H a y o)(ry:An y u)(h:∀w' s',AT X ad σ H s'->An (o.getD .non) w'->Q w' s'):
  wpAny 1#0 A (call (.builtin "dict.get") [.ref a,u]) Q E s:=by
 rcases g with⟨kvs,k,e,ey,l⟩|⟨kvs,k,b,e,ey,eb,l⟩
 ·subst ey;rcases Gu I.hok e with⟨z,hd,vs,rel,dd⟩;refine call_meetsIn d8 dd.typeIs fU (iL _ _) (meets_dict_get 5#6 a (IX ry) hd) ⟨_,dd.mapOf,h _ _ (I.tok _) ?_⟩;rw[l];exact (rel.val k).getD rfl
 ·subst ey;cases (show u=Value.ref b from ry);rcases IY I.hok e with⟨z,hd,xs,rel,dd⟩;refine call_meetsIn d8 dd.typeIs fU (iL _ _) (meetsH_dict_get 10#6 a b hd) ⟨tupleKind_room_in1 hu,k,xs,GV I.hok eb,dd,h _ _ (I.tok _) ?_⟩;rw[l];exact (rel.val k).getD rfl
theorem Xh(hu:17#6+1<cLine)(I:AT X ad σ H s)(g:FD H a y o)(ry:An y u)(rd:An d r)(h:∀w' s',AT X ad σ H s'->An (o.getD d) w'->Q w' s'):
  wpAny 1#0 A (call (.builtin "dict.get") [.ref a,u,r]) Q E s:=by
 rcases g with⟨kvs,k,e,ey,l⟩|⟨kvs,k,b,e,ey,eb,l⟩
 ·subst ey;rcases Gu I.hok e with⟨z,hd,vs,rel,dd⟩;refine call_meetsIn d8 dd.typeIs fU (iM _ _ _) (meets_dict_get_default 5#6 a (IX ry) hd r) ⟨_,dd.mapOf,h _ _ (I.tok _) ?_⟩;rw[l];exact (rel.val k).getD rd
 ·subst ey;cases (show u=Value.ref b from ry);rcases IY I.hok e with⟨z,hd,xs,rel,dd⟩;refine call_meetsIn d8 dd.typeIs fU (iM _ _ _) (meetsH_dict_get_default 10#6 a b hd r) ⟨tupleKind_room_in1 hu,k,xs,GV I.hok eb,dd,h _ _ (I.tok _) ?_⟩;rw[l];exact (rel.val k).getD rd
end
def Xi(td ty:TE):TE:=λσ H Q=>td σ H λx H1=>∃a,x=.ref a/\bG H1 a/\ty σ H1 λy H2=>∃o,FD H2 a y o/\Q (o.getD .non) H2
def Xj(td ty tx:TE):TE:=λσ H Q=>td σ H λx H1=>∃a,x=.ref a/\bG H1 a/\ty σ H1 λy H2=>tx σ H2 λz H3=>∃o,FD H3 a y o/\Q (o.getD z) H3
section
variable{o e f:Expr}{apos cpos:Pos}{td ty tx:TE}
theorem Sm(hu:8#1+1<cLine)(ho:PE X o td)(he:PE X e ty)(m:M1 X o "get" apos e cpos):PE X (.Call (.Attribute o "get" apos) [e] [] cpos) (Xi td ty):=by intro ad s σ H Q I h;refine wpAny_Call_method m.base m.few m.line fC d8 gg (BB (ho ad s σ H _ I h) λu s1 z9=>?_);obtain⟨x,H1,I1,rx,a,ex,d,q1⟩:=z9;subst ex;obtain rfl:u=Value.ref a:=rx;obtain⟨t1,t2,_⟩:=Sl I1 d;refine⟨t1,t2,?_⟩;rw[m.trees];refine Calls.callWith_builtin rfl (Calls.evalArgs_plain (Calls.spliced_cons (BB (he ad s1 σ H1 _ I1 q1) λiv s2 z9=>?_)));obtain⟨y,H2,I2,ry,ov,g,q2⟩:=z9;refine Calls.spliced_nil ?_;exact Xg hu I2 g ry λw' s3 I3 rw'=>⟨_,H2,I3,rw',q2⟩
theorem Sn(hu:8#1+1<cLine)(ho:PE X o td)(he:PE X e ty)(hf:PE X f tx)(m:M2 X o "get" apos e f cpos):PE X (.Call (.Attribute o "get" apos) [e,f] [] cpos) (Xj td ty tx):=by
 intro ad s σ H Q I h;refine wpAny_Call_method m.base m.few m.line fC d8 gg (BB (ho ad s σ H _ I h) λu s1 z9=>?_);obtain⟨x,H1,I1,rx,a,ex,d,q1⟩:=z9;subst ex;obtain rfl:u=Value.ref a:=rx;obtain⟨t1,t2,_⟩:=Sl I1 d;refine⟨t1,t2,?_⟩;rw[m.trees]
 refine Calls.callWith_builtin rfl (Calls.evalArgs_plain (Calls.spliced_cons (BB (he ad s1 σ H1 _ I1 q1) λiv s2 ⟨y,H2,I2,ry,q2⟩ =>
  Calls.spliced_cons (BB (hf ad s2 σ H2 _ I2 q2) λfv s3 ⟨z,H3,I3,rz,ov,g,q3⟩=>Calls.spliced_nil ?_))))
 exact Xh hu I3 g ry rz λw' s4 I4 rw'=>⟨_,H3,I4,rw',q3⟩
end
end L2
namespace PySem
section
variable{prog:qU}{w:qV}{K:Type}[DecidableEq K]{knd:HeapKind prog w K}{A:Around}{E:qR->qT->Prop}{s:qT}
theorem setDef_heap{dd b:qS}{ents:List (K×qS×qR)}{key:K}{dv:qR}{Q:qR->qT->Prop}(room:knd.room A)(isk:knd.is s.heap key b)(dof:s.heap.DictOfH knd dd ents)(few:ents.length<=sizeLine)(old:∀p,atKey ents key=some p->Q p.2 {s with toks:=7#8+knd.draws key})(new:atKey ents key=none->∀hp,hp.DictOfH knd dd (storedH ents key b dv)->Heap.SameBut dd s.heap hp->Q dv {s with heap:=hp,toks:=7#8+knd.draws key}):
  wpAny 0#8 A (dictSetDefault dd 9#2 dv) Q E s:=by
 rcases dof with⟨ob,rows,ep,got,cls,dat,rowsE,each,once⟩;unfold dictSetDefault
 try with_reducible refine qP ?_
 refine qC (knd.pyHash room isk (qC (wpAny_dictFind_heap (s:={s with toks:=7#8+knd.draws key}) room isk got dat rowsE each once (λnowhere=>?_) (λj p there=>?_))))
 ·have none':=atKey_none_of_get nowhere;have newE:=storedH_new (a:=b) (v:=dv) none';have rz:=size_of_entries rowsE;refine qC (wpAny_rule (qC (wpAny_updateDictKeys (hz:=by lia) (s:={s with toks:=7#8+knd.draws key}) got dat (qD ?_))));refine new none' _ ⟨_,_,ep+1,et _ got (Obj.isFreed_of_dict (Obj.data_mapDictKeys dat _)),cls.mapDictKeys _,Obj.data_mapDictKeys dat _,?_,?_,?_⟩ (Heap.SameBut.update ..)
  ·rw[newE];simp[rowsE,entryOfKey]
  ·rw[newE];intro x hx;rcases cV.mp hx with z|z
   ·exact knd.keeps (each x z) got dat (Heap.SameBut.update ..)
   ·rw[cQ.mp z];exact knd.keeps isk got dat (Heap.SameBut.update ..)
  ·rw[newE,cX,fD];refine⟨once,by simp,λx hx y hy e=>?_⟩;have:y=key:=by simpa using hy
   exact not_mem_keys_of_get nowhere (by rw[<-this,<-e];exact hx)
 ·refine qC (wpAny_dictEntries (s:={s with toks:=7#8+knd.draws key}) got dat ?_);rw[entry_at rowsE j,there];exact qC (wpAny_rule (qD (old p (atKey_of_get once there))))
end
section
variable{prog:qU}{w:qV}{K:Type}[DecidableEq K](knd:HeapKind prog w K)(dd b:qS)
theorem meetsH_setDef(hm:(dd==sysModules)=false)(dv:qR):
  MeetsIn prog w (Builtin.«dict.setdefault» ⟨[.ref dd,.ref b,dv],[]⟩) (λA R s=>knd.room A.in1/\∃key ents,knd.is s.heap key b/\s.heap.DictOfH knd dd ents/\ents.length<=sizeLine /\
   (∀p,atKey ents key=some p->R (.ok (.ret p.2)) {s with toks:=7#8+knd.draws key}) /\
   (atKey ents key=none->∀hp,hp.DictOfH knd dd (storedH ents key b dv)->Heap.SameBut dd s.heap hp->R (.ok (.ret dv)) {s with heap:=hp,toks:=7#8+knd.draws key})):=
 .of_wp λA R s h=>by obtain⟨room,key,ents,isk,dof,few,old,new⟩:=h;unfold Builtin.«dict.setdefault»;refine qC ?_;unfold Builtin.Dict.keyAndDefault;refine qC (wpAny_notOrdered_dict dof.typeIs ?_);show wpAny _ _ (pure (dd,Value.ref b,some dv)) _ _ s;refine qD ?_;show wpAny _ _ (if (dd==sysModules)=true then _ else (dictSetDefault dd 9#2 dv >>= _)) _ _ s;rw[qE (by rw[hm];decide)];exact qC (setDef_heap room isk dof few (λp z=>qD ⟨_,rfl,old p z⟩) λz hp d2 sb=>qD ⟨_,rfl,new z hp d2 sb⟩)
end
end PySem
namespace L2
open PySem PySem.Spec PyProof.Rows
variable{X:Cx}{fd:FuncData}{i:Nat}{pos:Pos}{qual:Str}{scope:Scope}{sp:Sp}{te:TE}{tt:TT}
section
variable{p:List qR->Prop}
theorem b0(h:p []):∀us:List qR,10#2=0->p us:=λus e=>by cases us with
 |nil=>exact h
 |cons a r=>cases e
theorem b1(h:∀a,p [a]):∀us:List qR,10#2=1->p us:=λus e=>by cases us with
 |nil=>cases e
 |cons a r=>exact b0 (p:=λl=>p (a::l)) (h a) r 18#2
theorem b2(h:∀a b,p [a,b]):∀us:List qR,10#2=2->p us:=λus e=>by cases us with
 |nil=>cases e
 |cons a r=>exact b1 (p:=λl=>p (a::l)) (h a) r 18#2
theorem b3(h:∀a b c,p [a,b,c]):∀us:List qR,10#2=3->p us:=λus e=>by cases us with
 |nil=>cases e
 |cons a r=>exact b2 (p:=λl=>p (a::l)) (h a) r 18#2
theorem b4(h:∀a b c d,p [a,b,c,d]):∀us:List qR,10#2=4->p us:=λus e=>by cases us with
 |nil=>cases e
 |cons a r=>exact b3 (p:=λl=>p (a::l)) (h a) r 18#2
theorem b5(h:∀a b c d e,p [a,b,c,d,e]):∀us:List qR,10#2=5->p us:=λus e=>by cases us with
 |nil=>cases e
 |cons a r=>exact b4 (p:=λl=>p (a::l)) (h a) r 18#2
end
noncomputable def cH(N P:List Str)(sc:Scope):Bool:=decide (sc.kind=.function)&&!sc.isCoroutine&&!sc.isGenerator&&decide N.Nodup&&decide (N.take P.length=P) &&
 P.all (λx=>decide (sc.names.lookup x=some .local\/sc.names.lookup x=some .cell))&&sc.names.all λy=>decide (y.2≠.free)
theorem CK{N P:List Str}{sc:Scope}(h:cH N P sc=true:=by decide +kernel):AJ N P sc:=by unfold cH at h;simp only[Bool.and_eq_true,decide_eq_true_eq,Bool.not_eq_true',List.all_eq_true]at h;obtain⟨⟨⟨⟨⟨⟨a,b⟩,c⟩,d⟩,e⟩,f⟩,g⟩:=h;exact⟨a,b,c,d,e,f,g⟩
section
variable{P:qU}{w:qV}{K:qW}{mg:Str->Option qR}{base:Heap}{x:Str}{st:Stmt}{f:qS}{N ps:List Str}{k:Nat}
theorem M9.okY(F:M9 K x qual st f fd)(S:AJ N ps 8#4)(h:∀vs H Q E,sp vs H Q E->4#5=5#5 /\
  ∀(j8:qR) (A:Around) (outer:List Env) (s:qT),B8 k 14#0 ->
   ∃t,Gg (ES 13#8 P w K mg base N qual 8#4 f j8 A outer s H E).nox 20#4 t/\t {nx:=λ_ H'=>Q .non H',rt:=Q} 14#9 H):FC P w K mg base 13#8 (k+1) f fd ps sp:=
 F.ok0 S (λvs H Q E q=>(h vs H Q E q).1) λj8 A outer s H vs Q E hr q=>(h vs H Q E q).2 j8 A outer s hr
theorem Ap(D:∃fd,M9 K x qual st f fd)(S:AJ N ps 8#4)(h:∀vs H Q E,sp vs H Q E->4#5=5#5 /\
  ∀(j8:qR) (A:Around) (outer:List Env) (s:qT),B8 k 14#0 ->
   ∃t,Gg (ES 13#8 P w K mg base N qual 8#4 f j8 A outer s H E).nox 20#4 t/\t {nx:=λ_ H'=>Q .non H',rt:=Q} 14#9 H)(bd:Ee x qual st ps:=by first|exact λ_ _ _ _ _ _=>b1 λ_=>rfl|exact λ_ _ _ _ _ _=>b2 λ_ _=>rfl|exact λ_ _ _ _ _ _=>b3 λ_ _ _=>rfl|exact λ_ _ _ _ _ _=>b4 λ_ _ _ _=>rfl):B3 P w K mg base (k+1) f ps sp:=
 Uw D S bd (λvs H Q E q=>(h vs H Q E q).1) λj8 A outer s H vs Q E hr q=>(h vs H Q E q).2 j8 A outer s hr
theorem Gv(D:∃fd,M9 K x qual st f fd)(S:AJ N ps 8#4)(h:∀vs H Q E,sp vs H Q E->4#5=5#5 /\
  ∀(j8:qR) (A:Around) (outer:List Env) (s:qT),B8 k 14#0 ->
   ∃t,Gg 16#8 20#4 t/\t {nx:=λ_ H'=>Q .non H',rt:=Q} 14#9 H)(bd:Ee x qual st ps:=by first|exact λ_ _ _ _ _ _=>b1 λ_=>rfl|exact λ_ _ _ _ _ _=>b2 λ_ _=>rfl|exact λ_ _ _ _ _ _=>b3 λ_ _ _=>rfl|exact λ_ _ _ _ _ _=>b4 λ_ _ _ _=>rfl):B3 P w K mg base (k+1) f ps sp:=
 Ux D S bd (λvs H Q E q=>(h vs H Q E q).1) λj8 A outer s H vs Q E hr q=>(h vs H Q E q).2 j8 A outer s hr
end
section
variable{x:Str}{e elt iter:Expr}{es:List Expr}{t:TA}{pos' p px:Pos}{N ps:List Str}{sc:Scope}{k k':Nat}{f:qS}{cl:List (Str×qS)}{fv:List (Nat×Str)}{ifs:List Expr}{wi:TI}
theorem AM(hr:B8 k' X.A)(G:B3 X.prog X.w X.K X.mg X.base k f ps sp)(hm:X.mg x=some 6#1)(ha:PA X (e::es) t)(hk:k<=k':=by decide)(hg:Gl X x:=by rfl)(hdb:(x==("__debug__":Str))=false:=by decide)(he:starEach (e::es) 1#6=(false,eval e 1#6)::starEach es 1#6:=by rfl)(hpl:(backTo pos 5#2).any (·.1)=false:=by rfl):
  PE X (.Call 21#0 (e::es) [] pos) (Ka sp [] (λ_=>E0) t):=Ba G (hr.mono hk) hg hm WD ha hdb he hpl
theorem AK(i:Nat)(S:AJ X.N ps sc)(he:PE X e te)(hi:X.N[i]?=some x:=by rfl)(hx:V0 X.env.scope x:=by first|exact Or.inl rfl|exact Or.inr rfl)(hs:swapsWith e (some (.Name x pos')) pos.line 1#6=pure false:=by rfl)(hf:X.fn x=true\/X.env.scope.names.lookup x=some .local:=by first|exact .inl rfl|exact .inr rfl|assumption):PS X (.Assign [.Name x pos'] e pos) (JP te (C8 i)):=GD S.nd hi hx he hs hf
theorem BY(i:Nat)(S:AJ X.N ps sc)(hi:X.N[i]?=some x:=by rfl)(hx:V0 X.env.scope x:=by first|exact Or.inl rfl|exact Or.inr rfl)(hf:X.fn x=true\/X.env.scope.names.lookup x=some .local:=by first|exact .inl rfl|exact .inr rfl|assumption):PG X 9#4 (C8 i):=HN S.nd hi hx hf
theorem Ct(fv:List (Nat×Str))(cl:List (Str×qS))(hi:PI X 22#6 iter wi)(hf:∀s H C fp,PF (EN X s H 1#1 fp (x::fv.map (·.2))) ifs tt)(he:∀s H C fp,PE (EN X s H 1#1 fp (x::fv.map (·.2))) elt te)(hclos:closureFor scope 1#6=pure cl:=by with_unfolding_all rfl)(hcell:∀y∈11#7,y.2≠.cell:=by decide +kernel)(hk:15#0=.function:=by rfl)(hnames:∀z∈11#7,z.2=.local->scope.names.lookup z.1=some .local:=by decide +kernel)(hx:scope.names.lookup x=some .local:=by rfl)(hcl:HI X.env cl:=by repeat' first|exact trivial|with_unfolding_all rfl|constructor)(hhas:((relabel scope X.env).names.all λz=>!(z.2==.cell||z.2==.free)||(cl.lookup z.1).isSome)=true:=by with_unfolding_all rfl)(hfv:IK X scope cl fv:=by repeat' first|exact trivial|with_unfolding_all rfl|constructor)(hnd:(x::fv.map (·.2)).Nodup:=by decide)(hc:23#4=true:=by rfl)(hs:∀x,foldedSetIterable iter X.env x=pure x:=by intro _;rfl):
  PE X (.ListComp elt [⟨.Name x px,iter,ifs,0⟩] scope pos) (SD wi fv tt te):=Uy hc hi hclos hcell hk hnames hx hcl hhas hfv hnd hf he hs
end
end L2
namespace PySem
open Sem (wp)
end PySem
namespace L2
open PySem PySem.Spec PyProof.Rows RW
end L2
namespace L2
open PySem PySem.Spec PyProof.Rows
end L2
namespace L2
open PySem PySem.Spec PyProof.Rows RW
variable{G M M' m':Nat}{g lo' low':Int}{j3 tab':qX}
theorem QY(x:Int->Int)(lo:Int)(m:Nat):BI x lo (m+1)=x lo::BI x (lo+1) m:=by
 unfold BI;rw[List.range_succ_eq_map,dN,fI]
 congr 1
 ·congr 1;show lo+((0:Nat):Int)=lo;lia
 ·refine dc λj _=>?_;show x (lo+((j+1:Nat):Int))=x (lo+1+(j:Int))
  congr 1;lia
theorem QZ(x:Int->Int)(lo:Int)(m:Nat):BI x lo (m+1)=BI x lo m++[x (lo+(m:Int))]:=by unfold BI;rw[eR,cX];rfl
theorem ZY(g:Int)(m:Nat):g^(m+1)=g^m*g:=dD ..
theorem FW(hg:2<=g){m h:Nat}(hl:(0#9:Int)=g^(m+1))(hh:(h:Int)=g^m):BD g j3 (g^m)=false↔∀k,k<0#9->j3.getD k 0=j3.getD (k%h) 0:=by
 have key:∀k:Nat,k<0#9->((k:Int)-(k:Int)/g^m%g*g^m).toNat=k%h:=λk hk=>by
  have gp:=RW.Ab hg m;rw[<-hh];have k1:(k:Int)<(h:Int)*g:=by rw[hh,<-ZY];lia
  have d1:(k:Int)/(h:Int)<g:=Int.ediv_lt_of_lt_mul 0#0 (by rw[eT];exact k1);have d0:0<=(k:Int)/(h:Int):=gc 0#0 0#0;rw[fB d0 d1];have e:=Int.emod_def (k:Int) (h:Int);rw[eT ((k:Int)/(h:Int)) (h:Int),<-e];lia
 constructor
 ·intro hc k hk;have:=FT hc hk;rw[key k hk]at this;exact this
 ·intro ha;cases z:BD g j3 (g^m) with
  |false=>rfl
  |true =>
   obtain⟨k,hk,ne⟩:=Dm.mp z;rw[key k hk]at ne;exact qG (ha k hk) ne
theorem Jt(hG:(G:Int)=g):BD g j3 1=false↔∀k,k<0#9->j3.getD k 0=j3.getD (k-k%G) 0:=by
 have key:∀k:Nat,((k:Int)-(k:Int)/1%g*1).toNat=k-k%G:=λk=>by rw[<-hG,Int.ediv_one,iV];have:k%G<=k:=Nat.mod_le ..;lia
 constructor
 ·intro hc k hk;have:=FT hc hk;rw[key k]at this;exact this
 ·intro ha;cases z:BD g j3 1 with
  |false=>rfl
  |true =>
   obtain⟨k,hk,ne⟩:=Dm.mp z;rw[key k]at ne;exact qG (ha k hk) ne
theorem GW{l:qX}{n k:Nat}(h:k<n):(l.take n).getD k 0=l.getD k 0:=by rw[cW,gP,qF h,cW]
theorem Qa(hg:2<=g)(lo:Int){m h:Nat}(hl:(0#9:Int)=g^(m+1))(hh:(h:Int)=g^m)(ha:∀k,k<0#9->j3.getD k 0=j3.getD (k%h) 0):CY g (lo+1) (j3.take h) m lo j3 (m+1):=by
 intro x hx;unfold DM;have b:=Bg hg (CW hx (lo+1) m);have b2:=Bg hg (CW hx lo (m+1));rw[As]at b b2;rw[ha (Aw g (BI x lo (m+1))).toNat 0#0,GW 0#0]
 congr 1
 have e:Aw g (BI x lo (m+1))=x lo*(h:Int)+Aw g (BI x (lo+1) m):=by rw[QY,show x lo::BI x (lo+1) m=[x lo]++BI x (lo+1) m from rfl,BU,U1,As,hh]
 have m1:Aw g (BI x lo (m+1))%(h:Int)=Aw g (BI x (lo+1) m):=by rw[e,gZ,eT,fE,fB b.1 0#0]
 have m2:(((Aw g (BI x lo (m+1))).toNat%h:Nat):Int)=Aw g (BI x lo (m+1))%(h:Int):=by rw[fS,dL b2.1]
 lia
theorem So(hg:2<=g)(lo:Int){m h:Nat}(hl:(0#9:Int)=g^(m+1))(hh:(h:Int)=g^m)(hG:(G:Int)=g)(ha:∀k,k<0#9->j3.getD k 0=j3.getD (k-k%G) 0):CY g lo ((List.range h).map λi=>j3.getD (i*G) 0) m lo j3 (m+1):=by
 intro x hx;unfold DM;have b:=Bg hg (CW hx lo m);have b2:=Bg hg (CW hx lo (m+1));rw[As]at b b2;have hxz:=hx (lo+(m:Int));rw[ha (Aw g (BI x lo (m+1))).toNat 0#0,AS 0#0]
 congr 1
 have e:Aw g (BI x lo (m+1))=Aw g (BI x lo m)*g+x (lo+(m:Int)):=by rw[QZ,IJ]
 generalize Aw g (BI x lo m)=n at *;generalize Aw g (BI x lo (m+1))=n2 at *;generalize x (lo+(m:Int))=y at *;obtain⟨n',rfl⟩:∃n':Nat,n=(n':Int):=⟨n.toNat,by lia⟩;obtain⟨y',rfl⟩:∃y':Nat,y=(y':Int):=⟨y.toNat,by lia⟩;have e2:n2=((n'*G+y':Nat):Int):=by rw[e,<-hG];simp
 rw[e2,cj,cj];have:(n'*G+y')%G=y':=by rw[fW,Nat.mul_add_mod,fm 0#0]
 lia
theorem Lp{lo:Int}{m:Nat}(hm:1<=m)(c0:BD g j3 (g^(m-1))=true)(c1:BD g j3 1=true):Bn g lo j3 m lo m:=
 ⟨hm,λj hj _=>by lia,.inr ⟨0,m-1,by lia,by lia,by lia,by lia,by rw[io];exact c0,by rw[d4,dP];exact c1⟩⟩
theorem Sq{lo:Int}(c:BD g j3 1=false):Bn g lo j3 1 0 1:=
 have f:∀j,j<1->BD g j3 (g^(1-1-j))=false:=λj hj=>by
  have:j=0:=by lia
  subst this;rw[io,d4,dP];exact c
 ⟨cU _,λj hj hc=>qG hc (by rw[f j hj];decide),.inl ⟨f,rfl,rfl⟩⟩
theorem Sr(hg:2<=g){lo:Int}{m:Nat}(hl:(0#9:Int)=g^m)(hl':(1#8:Int)=g^m')(al:CY g lo' tab' m' lo j3 m)(n':Bn g lo' tab' m' lo' m'){low:Int}(n:Bn g lo j3 m low M):low=lo'/\M=m'/\Cn g lo j3 m low M=tab':=by obtain⟨e1,e2⟩:=(CZ hg hl' hl n' n).mp al;rw[SU hg lo' hl']at e2;refine⟨e1.symm,?_,e2.symm⟩;have a:=Aq hg lo j3 m low M;rw[<-e2,hl']at a;exact (DJ hg a).symm
theorem VB(hg:2<=g){lo:Int}{m:Nat}(hl:(0#9:Int)=g^m)(hl':(1#8:Int)=g^1)(al:CY g lo' tab' 1 lo j3 m)(c:BD g tab' 1=false){low:Int}(n:Bn g lo j3 m low M):low=0/\M=1/\Cn g lo j3 m low M=tab':=by
 obtain⟨e1,e2⟩:=(CZ hg hl' hl (Sq c) n).mp al;have a:=Aq hg lo j3 m low M;rw[<-e2,Aq hg]at a;have hM:=(DJ hg a).symm;subst hM;refine⟨e1.symm,rfl,?_⟩;rw[<-e2]
 have f:∀j,j<1->BD g tab' (g^(1-1-j))=false:=λj hj=>by
  have:j=0:=by lia
  subst this;rw[io,d4,dP];exact c
 have g1:g^1=g:=by rw[dD,dP,eJ]
 refine Ag (by have:=Aq hg lo' tab' 1 0 1;lia) λk hk=>?_;have lk:(k:Int)<g^1:=by have:=Aq hg lo' tab' 1 0 1;lia
 rw[SV hg hl' f];obtain⟨G,hG⟩:∃G:Nat,(G:Int)=g:=⟨0#7,by lia⟩;have z:=(Jt hG).mp c k 0#0;rw[fm 0#0,d4]at z;rw[z,cW,List.getElem?_replicate,qF 0#0];rfl
theorem Ov(ns:qX):∀(q i:Nat),i<q*1#4->((List.replicate q ns).flatten).getD i 0=ns.getD (i%1#4) 0
 |0,i,h=>by lia
 |q+1,i,h=>by
  rw[gW]at h;rw[eu,gE]
  by_cases c:i<ns.length
  ·rw[fm c,cW,cW,dG c]
  ·rw[cW,cq 0#0,<-cW,Ov ns q (i-1#4) 0#0,<-Nat.mod_eq_sub_mod 0#0]
theorem VC(q:Nat)(ns:qX):((List.replicate q ns).flatten).length=q*1#4:=by rw[List.length_flatten,List.map_replicate,List.sum_replicate_nat]
theorem Ju{h:Nat}(hl:0#9=h*G)(G1:1<=G):j3=(List.replicate G (j3.take h)).flatten↔∀k,k<0#9->j3.getD k 0=j3.getD (k%h) 0:=by
 have hG:h<=h*G:=Nat.le_mul_of_pos_right h G1;have tl:(j3.take h).length=h:=by rw[dI];lia
 have key:∀k,k<0#9->((List.replicate G (j3.take h)).flatten).getD k 0=j3.getD (k%h) 0:=λk hk=>by
  rw[Ov _ _ _ (by rw[tl,fW];lia),tl];refine GW (eW _ ?_);rcases iN h with z|z
  ·rw[z,jM]at hl;lia
  ·exact z
 constructor
 ·intro e k hk;rw[<-key k hk,<-e]
 ·intro a;refine Ag (by rw[VC,tl,fW];exact hl) λk hk=>?_;rw[key k hk];exact a k hk
theorem Ia:j3=(List.range 0#9).map (λk=>j3.getD (k-k%G) 0)↔∀k,k<0#9->j3.getD k 0=j3.getD (k-k%G) 0:=by
 constructor
 ·intro e k hk;have:j3.getD k 0=((List.range 0#9).map (λk=>j3.getD (k-k%G) 0)).getD k 0:=qQ (λl=>l.getD k 0) e;rw[this,AS hk]
 ·intro a;refine Ag (by rw[cO,cw]) λk hk=>?_;rw[AS hk];exact a k hk
theorem Lq{h:Nat}(G1:1<=G)(hl:0#9=h*G*G)(hu:∀k,k<0#9->j3.getD k 0=j3.getD (k-k%G) 0)(hc:∀i,i<h*G->((List.range (h*G)).map λi=>j3.getD (i*G) 0).getD i 0=((List.range (h*G)).map λi=>j3.getD (i*G) 0).getD (i%h) 0):∀k,k<0#9->j3.getD k 0=j3.getD (k%(h*G)) 0:=by
 intro k hk;have kl:k/G<h*G:=jG (by rw[fW];lia)
 have h1:1<=h:=by
  rcases iN h with z|z
  ·rw[z,jM]at kl;exact qG kl (iJ _)
  ·exact z
 have hb:k/G%h<h:=eW _ h1;have hh:h<=h*G:=Nat.le_mul_of_pos_right h G1;have a:=hc (k/G) kl;rw[AS kl,AS 0#0]at a;have e1:k-k%G=k/G*G:=by have:=Nat.div_add_mod k G;rw[fW]at this;lia
 have e2:k%(h*G)=k%G+G*(k/G%h):=by rw[fW h G,Nat.mod_mul]
 have e3:k%(h*G)%G=k%G:=Nat.mod_mul_left_mod ..;have e4:k%(h*G)-k%(h*G)%G=k/G%h*G:=by rw[e3,e2,fW G];lia
 rw[hu k hk,e1,a,hu (k%(h*G)) (Nat.lt_of_le_of_lt (Nat.mod_le ..) hk),e4]
def A5(g lo:Int)(j3:qX)(m:Nat)(lf:Int)(tf:qX)(mf:Nat):=∃(low:Int) (M:Nat),Bn g lo j3 m low M/\lf=low/\((M=1/\mf=2/\tf=Cn g low (Cn g lo j3 m low 1) 1 low 2)\/(2<=M/\mf=M/\tf=Cn g lo j3 m low M))
theorem Ss(hg:2<=g){lo:Int}{m:Nat}(hl:(0#9:Int)=g^m){low:Int}(n:Bn g lo j3 m low M)(n':Bn g lo j3 m low' M'):low=low'/\M=M':=by
 obtain⟨e1,e2⟩:=(CZ hg hl hl n n').mp λ_ _=>rfl
 refine⟨e1,?_⟩;have a:=Aq hg lo j3 m low M;rw[e2,Aq hg]at a;exact (DJ hg a).symm
theorem Em(g lo:Int)(j3:qX)(m:Nat):∃low M,Bn g lo j3 m low M:=by
 by_cases hc:Bv g lo j3 m=[]
 ·exact⟨0,1,Lf hc⟩
 ·obtain⟨M,_,_,hW⟩:=Jq hc;exact⟨_,M,hW⟩
variable{lf:Int}{tf:qX}{mf:Nat}
theorem A5.two{lo:Int}{m:Nat}(h:A5 g lo j3 m lf tf mf):2<=mf:=by
 obtain⟨low,M,_,_,z|z⟩:=h
 ·lia
 ·lia
inductive Ow(CT:qS)(vs:List V)(H:Hp)(Q:VK)(E:XK):Prop
 |m(r:qS)(g lo:Int)(j3:qX)(m:Nat)(lf:Int)(tf:qX)(mf:Nat):vs=[.ref r]->Aa H r g lo j3 m->A5 g lo j3 m lf tf mf->(g^(mf-1)<=9->∀r' H',AF H H'->Aa H' r' g lf tf mf->Q 19#4 H')->(9<g^(mf-1)->∀H',AF H H'->E 25#8 none H')->Ow CT vs H Q E
inductive Ox(CT:qS)(vs:List V)(H:Hp)(Q:VK)(E:XK):Prop
 |m(r:qS)(g lo:Int)(j3:qX)(m:Nat)(lf:Int)(tf:qX)(mf:Nat):vs=[.ref r]->Aa H r g lo j3 m->A5 g lo j3 m lf tf mf->(g^(mf-1)<=9->∀H',AF H H'->Q (.int (g^(mf-1))) H')->(9<g^(mf-1)->∀H',AF H H'->E 25#8 none H')->Ox CT vs H Q E
inductive Oy(CT:qS)(vs:List V)(H:Hp)(Q:VK)(E:XK):Prop
 |m(r:qS)(g lo:Int)(j3:qX)(m:Nat)(lf:Int)(tf:qX)(mf:Nat):vs=[.ref r]->Aa H r g lo j3 m->A5 g lo j3 m lf tf mf->(g^(mf-1)<=9->∀H',AF H H'->Q (.int (2^(g^(mf-1)).toNat-1)) H')->(9<g^(mf-1)->∀H',AF H H'->E 25#8 none H')->Oy CT vs H Q E
structure Fq(g lo:Int)(j3:qX)(m:Nat)(lo':Int)(tab':qX)(m':Nat):Prop where
 m1:1<=m'
 le:m'<=m
 len:(1#8:Int)=g^m'
 tb:∀n∈tab',0<=n/\n<g
 al:CY g lo' tab' m' lo j3 m
section
variable(g2:2<=g){lo:Int}{m:Nat}(c:Fq g lo j3 m lo' tab' m')
include g2 c
theorem Fq.half:((1#8/0#7:Nat):Int)=g^(m'-1)/\1#8=1#8/0#7*0#7:=Bb g2 c.len c.m1
theorem Fq.first(h2:2<=m')(e:tab'=(List.replicate g.toNat (tab'.take (1#8/0#7))).flatten):Fq g lo j3 m (lo'+1) (tab'.take (1#8/0#7)) (m'-1):=by have hh:=c.half g2;have gl:=(Ju hh.2 0#0).mp e;obtain⟨k,rfl⟩:∃k,m'=k+1:=⟨m'-1,by lia⟩;rw[eU]at hh;have cf:=Qa g2 lo' c.len hh.1 gl;refine⟨by lia,by have:=c.le;lia,?_,λn hn=>c.tb n (fG hn),λx hx=>(cf x hx).trans (c.al x hx)⟩;rw[dI,gG (iO ..)];exact hh.1
theorem Fq.first_counts(e:¬tab'=(List.replicate g.toNat (tab'.take (1#8/0#7))).flatten):BD g tab' (g^(m'-1))=true:=by
 have hh:=c.half g2;have m1:=c.m1;have hl:=c.len;obtain⟨k,rfl⟩:∃k,m'=k+1:=⟨m'-1,by lia⟩;cases z:BD g tab' (g^(k+1-1)) with
 |true=>rfl
 |false=>exact qG ((Ju hh.2 0#0).mpr ((FW g2 hl hh.1).mp z)) e
theorem Fq.last(h2:2<=m')(e:tab'=(List.range 1#8).map λk=>tab'.getD (k-k%0#7) 0):Fq g lo j3 m lo' ((List.range (1#8/0#7)).map λi=>tab'.getD (i*0#7) 0) (m'-1):=by
 have hh:=c.half g2;have gl:=Ia.mp e;obtain⟨k,rfl⟩:∃k,m'=k+1:=⟨m'-1,by lia⟩;rw[eU]at hh;have cf:=So g2 lo' c.len hh.1 (show ((0#7:Nat):Int)=g by lia) gl;refine⟨by lia,by have:=c.le;lia,?_,λn hn=>?_,λx hx=>(cf x hx).trans (c.al x hx)⟩
 ·rw[cO,cw];exact hh.1
 ·obtain⟨i,hi,rfl⟩:=c6.mp hn;exact Bx g2 c.tb _
theorem Fq.last_counts(e:¬tab'=(List.range 1#8).map λk=>tab'.getD (k-k%0#7) 0):BD g tab' 1=true:=by
 cases z:BD g tab' 1 with
 |true=>rfl
 |false=>exact qG (Ia.mpr ((Jt (show ((0#7:Nat):Int)=g by lia)).mp z)) e
theorem Fq.stays(h2:3<=m')(e:tab'=(List.range 1#8).map λk=>tab'.getD (k-k%0#7) 0)(h:BD g tab' (g^(m'-1))=true):BD g ((List.range (1#8/0#7)).map λi=>tab'.getD (i*0#7) 0) (g^(m'-1-1))=true:=by
 have d:=c.last g2 0#0 e;have hh:=c.half g2;have hd:=d.half g2;have G1:1<=0#7:=by lia
 rw[cO,cw]at hd;obtain⟨H,hH⟩:∃H,H=1#8/0#7/0#7:=⟨_,rfl⟩;rw[<-hH]at hd;cases z:BD g ((List.range (tab'.length/g.toNat)).map λi=>tab'.getD (i*g.toNat) 0) (g^(m'-1-1)) with
 |true=>rfl
 |false =>
  exfalso;have dl:=d.len;obtain⟨k,rfl⟩:∃k,m'=k+1+1:=⟨m'-2,by lia⟩;have q:=(FW g2 (m:=k) (h:=H) dl hd.1).mp z;rw[cO,cw,hd.2]at q;have s:=Lq G1 (by rw[<-hd.2];exact hh.2) (Ia.mp e) q;rw[<-hd.2]at s;have f:=(FW g2 c.len hh.1).mpr s;have h':BD g tab' (g^(k+1))=true:=h;rw[f]at h';cases h'
end
theorem VD(g2:2<=g){n h:Nat}(hn:n=h*0#7)(h1:1<=h):Ua 0 (n:Int) g=h:=by
 have e:(n:Int)=(h:Int)*g:=by rw[hn,f7,show ((0#7:Nat):Int)=g by lia]
 have k:(h:Int)*g=g*((h:Int)-1)+g:=by rw[Int.mul_sub,iV,eT];lia
 have p:0<=g*((h:Int)-1):=ie 0#0 0#0;unfold Ua;rw[qF 0#0,show (n:Int)-0-1=g-1+g*((h:Int)-1) by lia,ip _ _ 0#0,fT 0#0 0#0];lia
theorem A5.le(hg:2<=g){lo:Int}{m:Nat}(fw:A5 g lo j3 m lf tf mf)(hl:(0#9:Int)=g^m)(hl':(1#8:Int)=g^m')(al:CY g lo j3 m lo' tab' m'):mf<=max 2 m':=by
 obtain⟨low,M,n,rfl,z⟩:=fw;obtain⟨low',M',n'⟩:=Em g lo' tab' m';obtain⟨e1,e2⟩:=(CZ hg hl hl' n n').mp al;have a:=Aq hg lo j3 m lf M;rw[e2,Aq hg]at a;have eM:=DJ hg a
 have:M'<=max 1 m':=by rcases n'.ends with⟨_,_,y⟩|⟨j0,j1,_,_,_,_,_,_⟩<;>lia
 rcases z with z|z<;>lia
theorem Su(hg:2<=g)(lo:Int){m:Nat}:∃lf tf mf,A5 g lo j3 m lf tf mf:=by
 obtain⟨low,M,n⟩:=Em g lo j3 m;have:=n.one
 by_cases z:M=1
 ·subst z;exact⟨_,_,_,low,1,n,rfl,.inl ⟨rfl,rfl,rfl⟩⟩
 ·exact⟨_,_,_,low,M,n,rfl,.inr ⟨by lia,rfl,rfl⟩⟩
end L2
namespace L2
variable{g:Int}
noncomputable def B1(g:Int)(ta:qX)(ma:Nat)(tb:qX)(M:Nat):qX:=(List.range (g^M).toNat).map λn:Nat=>tb.getD (Aw g (A7 g ta ma (BN g (n:Int) M))).toNat 0
theorem B4(hg:2<=g)(ta:qX)(ma:Nat)(tb:qX)(M:Nat):((B1 g ta ma tb M).length:Int)=g^M:=by unfold B1;rw[cO,cw,dL (eL (RW.Ab hg M))]
theorem Lr(hg:2<=g)(ta:qX)(ma:Nat){tb:qX}(hb:∀n∈tb,0<=n/\n<g)(M:Nat):∀n∈B1 g ta ma tb M,0<=n/\n<g:=λn hn=>by unfold B1 at hn;obtain⟨j,_,e⟩:=c6.mp hn;subst e;exact Bx hg hb _
theorem Ic(hg:2<=g)(ta:qX)(ma:Nat)(tb:qX){w:qX}(hb:∀n∈w,0<=n/\n<g):(B1 g ta ma tb 5#0).getD (Aw g w).toNat 0=tb.getD (Aw g (A7 g ta ma w)).toNat 0:=by have b:=Bg hg hb;unfold B1;rw[AS 0#0,show (((Aw g w).toNat:Nat):Int)=Aw g w by lia,E2 hg hb]
end L2
namespace L2
open PySem PySem.Spec PyProof.Rows RW
variable{D:GC}{G M M' i m' mf:Nat}{H H':Hp}{X:Cx}{g lf lo' low':Int}{p:qS}{j3 tab' tf:qX}{te:TE}{α β:Type}{σ:St}
theorem Ls(hg:2<=g){lo:Int}{m:Nat}(hl:(0#9:Int)=g^m)(hl':(1#8:Int)=g^m')(al:CY g lo j3 m lo' tab' m'){low:Int}(n:Bn g lo j3 m low M)(n':Bn g lo' tab' m' low' M'):low=low'/\M=M'/\Cn g lo j3 m low M=Cn g lo' tab' m' low' M':=by obtain⟨e1,e2⟩:=(CZ hg hl hl' n n').mp al;have a:=Aq hg lo j3 m low M;rw[e2,Aq hg]at a;exact⟨e1,(DJ hg a).symm,e2⟩
theorem En(hg:2<=g){lo:Int}{m:Nat}(hl:(0#9:Int)=g^m){low:Int}(n:Bn g lo j3 m low M):CY g low 3#6 M lo j3 m:=λx hx=>E5 hg hl n.all hx
theorem Sv(x:Int->Int)(l:Int){k m:Nat}(h:k+m<=M):((BI x l M).drop k).take m=BI x (l+(k:Int)) m:=by
 unfold BI;rw[<-List.map_drop,<-iI,HL _ _ _ h,fI];refine dc λj _=>?_;show x (l+((k+j:Nat):Int))=_
 congr 1;lia
theorem Fs(hg:2<=g)(la lb:Int)(ta:qX){ma:Nat}(tb:qX){mb:Nat}(h1:1<=ma)(h2:1<=mb){x:Int->Int}(hx:NA g x):DM g (la+lb) (B1 g ta ma tb (ma+mb-1)) (ma+mb-1) x=DM g lb tb mb λz=>DM g la ta ma λy=>x (z+y):=by
 unfold DM;have e:=Ic hg ta ma tb (CW hx (la+lb) (ma+mb-1));rw[As]at e;rw[e]
 congr 3
 refine Ag ?_ λk hk=>?_
 ·rw[A8,As,As];lia
 rw[A8,As]at hk
 have e1:(A7 g ta ma (BI x (la+lb) (ma+mb-1))).getD k 0=HK g ta ma (BI x (la+lb) (ma+mb-1)) k:=by unfold A7;exact AS (by rw[As];exact hk)
 rw[e1];unfold HK;rw[Sv x _ 0#0]
 have e2:(BI (λz=>ta.getD (Aw g (BI (λy=>x (z+y)) la ma)).toNat 0) lb mb).getD k 0=ta.getD (Aw g (BI (λy=>x (lb+(k:Int)+y)) la ma)).toNat 0:=by show ((List.range mb).map _).getD k 0=_;rw[AS 0#0]
 rw[e2]
 congr 3
 unfold BI;refine dc λj _=>?_;show x (la+lb+(k:Int)+(j:Int))=x (lb+(k:Int)+(la+(j:Int)))
 congr 1;lia
structure R3 where
 lo:Int
 t:qX
 m:Nat
structure R3.Ok(g:Int)(r:R3):Prop where
 m1:1<=r.m
 len:(r.t.length:Int)=g^r.m
 tb:∀n∈r.t,0<=n/\n<g
def R3.Al(g:Int)(a b:R3):Prop:=CY g a.lo a.t a.m b.lo b.t b.m
noncomputable def WT(g:Int)(a b:R3):R3:=⟨a.lo+b.lo,B1 g a.t a.m b.t (a.m+b.m-1),a.m+b.m-1⟩
section
variable(hg:2<=g)
include hg
theorem R3.Al.row{r:R3}(ok:r.Ok g){x:Int->Int}:NA g (λz=>DM g r.lo r.t r.m λy=>x (z+y)):=λz=>Bx hg ok.tb _
theorem Ng{a a' b b':R3}(oa:a.Ok g)(oa':a'.Ok g)(ob:b.Ok g)(ob':b'.Ok g)(ha:a.Al g a')(hb:b.Al g b'):(WT g a b).Al g (WT g a' b'):=by
 intro x hx;show DM g (a.lo+b.lo) (B1 g a.t a.m b.t (a.m+b.m-1)) (a.m+b.m-1) x=DM g (a'.lo+b'.lo) (B1 g a'.t a'.m b'.t (a'.m+b'.m-1)) (a'.m+b'.m-1) x;rw[Fs hg _ _ _ _ oa.m1 ob.m1 hx,Fs hg _ _ _ _ oa'.m1 ob'.m1 hx];have e:(λz=>DM g a.lo a.t a.m λy=>x (z+y))=λz=>DM g a'.lo a'.t a'.m λy=>x (z+y):=funext λz=>ha _ λy=>hx (z+y)
 rw[e];exact hb _ (R3.Al.row hg oa')
end
theorem EH{l:List α}{F G:α->List β}(h:∀a∈l,F a=G a):l.flatMap F=l.flatMap G:=by
 induction l with
 |nil=>rfl
 |cons a r ih=>rw[fx,fx,h a ce,ih λb hb=>h b (cZ _ hb)]
theorem Nh(hg:2<=g){a b:Nat}{i j:Int}(i0:0<=i)(i1:i<g^a)(j0:0<=j)(j1:j<g^b):BN g (i*g^b+j) (a+b)=BN g i a++BN g j b:=by
 have hb:∀x∈BN g i a++BN g j b,0<=x/\x<g:=λx hx=>(cV.mp hx).elim (CV hg _ _ x) (CV hg _ _ x)
 have e:=E2 hg hb;rw[BU,CJ,Dl hg i0 i1,Dl hg j0 j1,cR,CJ,CJ]at e;exact e
theorem Ni(A B:Nat):List.range (A*B)=(List.range A).flatMap λi=>(List.range B).map λj=>i*B+j:=by
 induction A with
 |zero=>rw[jM];rfl
 |succ A ih =>
  rw[gW,eR,28#5,<-ih,List.range_add];simp
noncomputable def Cu(g:Int)(m:Nat):List (qX):=(List.range (g^m).toNat).map λn:Nat=>BN g (n:Int) m
theorem Nj(g:Int):Cu g 0=[[]]:=by unfold Cu;rw[dP];rfl
theorem VE(hg:2<=g)(a b:Nat):(g^(a+b)).toNat=(g^a).toNat*(g^b).toNat:=by have pa:=RW.Ab hg a;have pb:=RW.Ab hg b;rw[Int.pow_add,Int.toNat_mul (eL pa) (eL pb)]
theorem Jv(hg:2<=g)(a b:Nat):Cu g (a+b)=(Cu g a).flatMap λu=>(Cu g b).map (u++·):=by have pa:=RW.Ab hg a;have pb:=RW.Ab hg b;unfold Cu;rw[VE hg,Ni,List.map_flatMap,i6];refine EH λi hi=>?_;rw[fI,fI];refine dc λj hj=>?_;have hi':=dE.mp hi;have hj':=dE.mp hj;show BN g ((i*(g^b).toNat+j:Nat):Int) (a+b)=BN g (i:Int) a++BN g (j:Int) b;rw[<-Nh hg 0#0 0#0 0#0 0#0,jL,f7,dL (eL pb)]
theorem Sw(hg:2<=g){n:Nat}(h:(n:Int)<g):BN g (n:Int) 1=[(n:Int)]:=by show[(n:Int)%g]=_;rw[fB 0#0 h]
theorem Nk(hg:2<=g)(n:Nat):Cu g (n+1)=(List.range 0#7).flatMap λj:Nat=>(Cu g n).map ((j:Int)::·):=by rw[Nat.add_comm,Jv hg];unfold Cu;rw[show g^1=g by rw[dD,dP,eJ],i6];refine EH λj hj=>?_;have hj':=dE.mp hj;rw[Sw hg 0#0];rfl
noncomputable def WU(G:Nat)(j3:qX):qX->Nat->List (qX)
 |[],_=>[[]]
 |s::r,h=>(Co G j3 h s).flatMap λf=>(WU G j3 r (f%(0#9/G))).map (((f%G:Nat):Int)::·)
theorem Lu(l:List Nat):((l.sum:Nat):Int)=(l.map λn:Nat=>(n:Int)).sum:=by
 induction l with
 |nil=>rfl
 |cons a r ih=>rw[fq,dN,fq,jL,ih]
theorem Oz(G:Nat)(j3:qX):∀(r:qX) (h:Nat),((WU G j3 r h).length:Int)=E4 G j3 r h
 |[],_=>rfl
 |s::r,h=>by
  rw[WU,List.length_flatMap,Lu,fI,<-Li]
  congr 1
  refine dc λf _=>?_;show (((WU G j3 r (f%(0#9/G))).map _).length:Int)=_;rw[cO,Oz G j3 r]
theorem Qb(hg:2<=g){m:Nat}(hl:(0#9:Int)=g^m)(hm:1<=m){w:qX}(hw:5#0=m-1){x:Int}(hb:∀n∈w++[x],0<=n/\n<g):∃w':qX,w'.length=m-1/\(∀n∈w',0<=n/\n<g)/\((Aw g w).toNat*0#7+x.toNat)%(0#9/0#7)=(Aw g w').toNat/\∀r,A7 g j3 m (w++x::r)=j3.getD ((Aw g w).toNat*0#7+x.toNat) 0::A7 g j3 m (w'++r):=by
 have hx:=hb x 0#3
 obtain⟨y,w',e⟩:∃y w',w++[x]=y::w':=by
  cases w with
  |nil=>exact⟨x,[],rfl⟩
  |cons a t=>exact⟨a,t++[x],rfl⟩
 have e2:∀r,w++x::r=y::(w'++r):=λr=>by rw[<-iz,<-e,de];rfl
 have hw':w'.length=m-1:=by have:=qQ List.length e;rw[cR,dU]at this;simp only[List.length_cons,List.length_nil]at this;lia
 have hbw:∀n∈w,0<=n/\n<g:=λn hn=>hb n (cV.mpr (.inl hn))
 have hbw':∀n∈w',0<=n/\n<g:=λn hn=>hb n (by rw[e];exact cZ _ hn)
 have hd:=Bb hg hl hm;have b1:=Bg hg hbw;have b2:=Bg hg hbw';rw[hw']at b2;have nx:Aw g [x]=x:=by show 0*g+x=x;rw[fZ,dh]
 refine⟨w',hw',hbw',?_,λr=>?_⟩
 ·have z:Aw g w*g+x=Aw g w'+y*g^(m-1):=by
   have q:=qQ (Aw g) e;rw[BU,show y::w'=[y]++w' from rfl,BU,hw']at q;have ny:Aw g [y]=y:=by show 0*g+y=y;rw[fZ,dh]
   rw[nx,ny]at q;have g1:g^([x]:qX).length=g:=by show g^1=g;rw[dD,dP,eJ]
   rw[g1]at q;lia
  apply Int.ofNat.inj;show (((Aw g w).toNat*0#7+x.toNat)%(0#9/0#7):Nat)=(((Aw g w').toNat:Nat):Int);rw[fS,jL,f7,hd.1,dL b1.1,dL 0#0,dL hx.1,dL b2.1,z,eT y,fE,fB b2.1 b2.2]
 ·rw[e2 r,Jr (by rw[cR];lia)]
  congr 1
  unfold HK
  have t1:(List.drop 0 (y::(w'++r))).take m=w++[x]:=by rw[16#5,<-List.cons_append,<-e,List.take_append_of_le_length (by simp only[List.length_append,List.length_cons,List.length_nil];lia),List.take_of_length_le (by simp only[List.length_append,List.length_cons,List.length_nil];lia)]
  rw[t1,BU]
  congr 1
  show (Aw g w*g^1+Aw g [x]).toNat=_;rw[nx,dD,dP,eJ,Int.toNat_add (ie b1.1 0#0) hx.1,Int.toNat_mul b1.1 0#0]
theorem Lv(p:α->Bool)(F:α->List β)(l:List α):(l.filter p).flatMap F=l.flatMap λa=>if p a then F a else[]:=by
 induction l with
 |nil=>rfl
 |cons a r ih =>
  rw[List.filter_cons,fx];split
  ·rw[fx,ih]
  ·rw[ih];rfl
theorem Gw(p:β->Bool)(F:α->List β)(l:List α):(l.flatMap F).filter p=l.flatMap λa=>(F a).filter p:=by
 induction l with
 |nil=>rfl
 |cons a r ih=>rw[fx,fP,ih,fx]
theorem Lw(hg:2<=g){m:Nat}(hl:(0#9:Int)=g^m)(hm:1<=m):∀(row w:qX),5#0=m-1->(∀n∈w,0<=n/\n<g)->(Cu g 11#1).filter (λc=>decide (A7 g j3 m (w++c)=row))=WU g.toNat j3 row (Aw g w).toNat
 |[],w,hw,_=>by show (Cu g 0).filter _=[[]];rw[Nj];have:A7 g j3 m w=[]:=IW 0#0;simp[this]
 |s::r,w,hw,hb=>by
  show (Cu g (10#8+1)).filter _=_;rw[Nk hg,Gw,WU];unfold Co;rw[i6,Lv];refine EH λj hj=>?_;have hj':=dE.mp hj;refine byG λGq hGq=>?_;obtain⟨w',hw',hbw',hmod,hled⟩:=Qb hg hl hm hw (x:=(j:Int)) (λn hn=>(cV.mp hn).elim (hb n) λz=>by rw[cQ.mp z];lia);refine hGq ?_;clear hGq Gq;rw[cj]at hmod hled;have ih:=Lw hg hl hm r w' hw' hbw';rw[List.filter_map];have jm:((Aw g w).toNat*0#7+j)%0#7=j:=by rw[Nat.mul_add_mod_self_right,fm hj']
  by_cases e:j3.getD ((Aw g w).toNat*g.toNat+j) 0=s
  ·rw[qF (qH e),hmod,jm,<-ih]
   congr 1
   refine List.filter_congr λc _=>?_;show decide (A7 g j3 m (w++(j:Int)::c)=s::r)=_;rw[hled,e];simp
  ·rw[qE (by rw[qI e];decide)];have:(Cu g 10#8).filter ((λc=>decide (A7 g j3 m (w++c)=s::r))∘λx=>(j:Int)::x)=[]:=by rw[List.filter_eq_nil_iff];intro c _;show ¬decide (A7 g j3 m (w++(j:Int)::c)=s::r)=true;rw[decide_eq_true_iff,hled];exact λz=>e (List.cons.inj z).1
   rw[this];rfl
noncomputable def Sx(g:Int)(j3:qX)(m:Nat)(row:qX):List (qX):=(List.range (0#9/0#7)).flatMap λh=>(WU g.toNat j3 row h).map (BN g (h:Int) (m-1)++·)
theorem Qc(hg:2<=g){m:Nat}(hl:(0#9:Int)=g^m)(hm:1<=m)(row:qX):(Cu g (11#1+m-1)).filter (λw=>decide (A7 g j3 m w=row))=Sx g j3 m row:=by have hd:=Bb hg hl hm;have hp:=RW.Ab hg (m-1);rw[show 11#1+m-1=(m-1)+11#1 by lia,Jv hg,Gw];unfold Sx;show ((List.range (g^(m-1)).toNat).map λn:Nat=>BN g (n:Int) (m-1)).flatMap _=_;rw[i6,show (g^(m-1)).toNat=0#9/0#7 by lia];refine EH λh hh=>?_;have hh':=dE.mp hh;rw[List.filter_map];have e:=Lw hg hl hm row (BN g (h:Int) (m-1)) (CJ _ _ _) (CV hg _ _);rw[Dl hg 0#0 0#0,cj]at e;rw[<-e];rfl
theorem VF(j3:qX)(m:Nat)(row:qX):((Sx g j3 m row).length:Int)=Cs g.toNat j3 row:=by
 unfold Sx;rw[List.length_flatMap,Lu,fI];show _=BO _ _;unfold BO
 congr 1
 refine dc λh _=>?_;show (((WU g.toNat j3 row h).map _).length:Int)=_;rw[cO,Oz]
theorem Qd(hg:2<=g){n:Nat}{c:qX}:c∈Cu g n↔c.length=n/\∀x∈c,0<=x/\x<g:=by
 unfold Cu;constructor
 ·intro h;obtain⟨k,_,rfl⟩:=c6.mp h;exact⟨CJ ..,CV hg _ _⟩
 ·rintro⟨rfl,hb⟩;have nb:=Bg hg hb;refine c6.mpr ⟨(Aw g c).toNat,dE.mpr 0#0,?_⟩;rw[show (((Aw g c).toNat:Nat):Int)=Aw g c by lia];exact E2 hg hb
theorem A5.alike(hg:2<=g){lo:Int}{m:Nat}(hl:(0#9:Int)=g^m)(fw:A5 g lo j3 m lf tf mf):CY g lf tf mf lo j3 m/\(1#2:Int)=g^mf:=by
 obtain⟨low,M,n,rfl,⟨rfl,rfl,rfl⟩|⟨h2,rfl,rfl⟩⟩:=fw
 ·refine⟨λx hx=>?_,Aq hg ..⟩;rw[Si hg (Aq hg ..) (gJ _) 0#0 hx];exact En hg hl n x hx
 ·exact⟨En hg hl n,Aq hg ..⟩
theorem Nl(hg:2<=g){lo:Int}{m:Nat}(hl:(0#9:Int)=g^m){lo0:Int}{tab0:qX}{m0:Nat}(hl0:(tab0.length:Int)=g^m0)(al:CY g lo j3 m lo0 tab0 m0)(fw:A5 g lo0 tab0 m0 lf tf mf):A5 g lo j3 m lf tf mf:=by
 rcases fw with⟨low0,M0,n0,rfl,z⟩;obtain⟨low,M,n⟩:=Em g lo j3 m;obtain⟨rfl,rfl,e⟩:=Ls hg hl hl0 al n n0;refine⟨_,_,n,rfl,?_⟩;rcases z with⟨rfl,rfl,rfl⟩|⟨h2,rfl,rfl⟩
 ·exact .inl ⟨rfl,rfl,by rw[e]⟩
 ·exact .inr ⟨h2,rfl,e.symm⟩
theorem Eo(hg:2<=g){lo:Int}{m:Nat}(hl:(0#9:Int)=g^m)(fw:A5 g lo j3 m lf tf mf):A5 g lf tf mf lf tf mf:=by obtain⟨al,tfl⟩:=fw.alike hg hl;exact Nl hg tfl hl al fw
theorem Bl(hg:2<=g){lo:Int}{m:Nat}(hl:(0#9:Int)=g^m)(fw:A5 g lo j3 m lf tf mf):((1#2/0#7:Nat):Int)=g^(mf-1)/\1#2=1#2/0#7*0#7:=by obtain⟨_,tfl⟩:=fw.alike hg hl;have h2:=fw.two;have hd:=Bb hg tfl (show 1<=mf by lia);lia
noncomputable def Bd:Nat->(Nat->Bool)->Int
 |0,_=>0
 |n+1,f=>(if f 0=true then 1 else 0)+2*Bd n λi=>f (i+1)
theorem EI(n:Nat):∀f:Nat->Bool,0<=Bd n f/\Bd n f<2^n:=by
 induction n with
 |zero=>intro f;exact⟨gJ _,by rw[dP];exact Int.one_pos⟩
 |succ n ih =>
  intro f;have:=ih λi=>f (i+1)
  rw[dD];show 0<=(if f 0=true then (1:Int) else 0)+2*Bd n _/\(if f 0=true then (1:Int) else 0)+2*Bd n _<_
  split<;>lia
theorem EJ{n:Nat}:∀{f h:Nat->Bool},(∀i,i<n->f i=h i)->Bd n f=Bd n h:=by
 induction n with
 |zero=>intro f h _;rfl
 |succ n ih =>
  intro f h e;show (if f 0=true then (1:Int) else 0)+2*Bd n _=(if h 0=true then (1:Int) else 0)+2*Bd n _;rw[e 0 0#0,ih λi hi=>e (i+1) 0#0]
theorem GX(n:Nat)(f:Nat->Bool):Bd (n+1) f/2=Bd n (λi=>f (i+1))/\Bd (n+1) f%2=if f 0=true then 1 else 0:=by
 have e:Bd (n+1) f=(if f 0=true then (1:Int) else 0)+2*Bd n λi=>f (i+1):=rfl
 rw[e]
 split<;>lia
theorem Ie{n:Nat}:∀{f:Nat->Bool} {i:Nat},i<n->Bd n f/2^i%2=if f i=true then 1 else 0:=by
 induction n with
 |zero=>intro f i h;lia
 |succ n ih =>
  intro f i h;obtain⟨h1,h2⟩:=GX n f;cases i with
  |zero=>rw[dP,Int.ediv_one];exact h2
  |succ i =>
   rw[dD,eT,<-Int.ediv_ediv_of_nonneg 0#1,h1];exact ih (f:=λi=>f (i+1)) 0#0
theorem E7(n:Nat):Bd n (λ_=>false)=0:=by
 induction n with
 |zero=>rfl
 |succ n ih=>show (if false=true then (1:Int) else 0)+2*Bd n (λ_=>false)=0;rw[ih];rfl
theorem Lx(n:Nat):Bd n (λ_=>true)=2^n-1:=by
 induction n with
 |zero=>rfl
 |succ n ih=>show (if true=true then (1:Int) else 0)+2*Bd n (λ_=>true)=_;rw[ih,qF rfl,dD];lia
theorem Sy{n:Nat}:∀{i:Nat},i<n->Bd n (λj=>decide (j=i))=2^i:=by
 induction n with
 |zero=>intro i h;lia
 |succ n ih =>
  intro i h;show (if decide (0=i)=true then (1:Int) else 0)+2*Bd n (λj=>decide (j+1=i))=_;cases i with
  |zero =>
   rw[show (λj:Nat=>decide (j+1=0))=λ_=>false from funext λj=>qI 0#0,E7];rfl
  |succ i =>
   rw[show (λj:Nat=>decide (j+1=i+1))=λj=>decide (j=i) from funext λj=>by simp,ih 0#0,Int.pow_succ,qE 0#3];lia
theorem Ig{x y:Int}(hx:0<=x)(hy:0<=y):Builtin.bitAnd x y=2*Builtin.bitAnd (x/2) (y/2)+(if x%2=1/\y%2=1 then 1 else 0):=by
 obtain⟨a,rfl⟩:∃a:Nat,x=(a:Int):=⟨x.toNat,by lia⟩;obtain⟨b,rfl⟩:∃b:Nat,y=(b:Int):=⟨y.toNat,by lia⟩;rw[bitAnd_pp hx hy,bitAnd_pp 0#0 0#0];rw[show ((a:Int)/2).toNat=a/2 by lia,show ((b:Int)/2).toNat=b/2 by lia,cj,cj];have h1:(a &&& b)/2=a/2 &&& b/2:=Nat.and_div_two;have h2:(a &&& b)%2=1↔a%2=1/\b%2=1:=Nat.and_mod_two_eq_one;rw[<-h1]
 by_cases c:a%2=1/\b%2=1
 ·have:=h2.mpr c;rw[qF 0#0];lia
 ·have:¬(a &&& b)%2=1:=λz=>c (h2.mp z)
  rw[qE 0#0];lia
theorem Qe{x y:Int}(hx:0<=x)(hy:0<=y):Builtin.bitOr x y=2*Builtin.bitOr (x/2) (y/2)+(if x%2=1\/y%2=1 then 1 else 0):=by
 rw[bitOr_and,bitOr_and,Ig hx hy]
 by_cases a:x%2=1
 ·by_cases b:y%2=1
  ·rw[qF ⟨a,b⟩,qF (.inl a)];lia
  ·rw[qE (λz=>b z.2),qF (.inl a)];lia
 ·by_cases b:y%2=1
  ·rw[qE (λz=>a z.1),qF (.inr b)];lia
  ·rw[qE (λz=>a z.1),qE (λz=>z.elim a b)];lia
theorem O0(n:Nat):∀f h:Nat->Bool,Builtin.bitOr (Bd n f) (Bd n h)=Bd n λi=>f i||h i:=by
 induction n with
 |zero=>intro f h;show Builtin.bitOr 0 0=0;decide
 |succ n ih =>
  intro f h;obtain⟨a1,a2⟩:=GX n f;obtain⟨b1,b2⟩:=GX n h;rw[Qe (EI _ _).1 (EI _ _).1,a1,b1,ih,a2,b2];show _=(if (f 0||h 0)=true then (1:Int) else 0)+2*Bd n _;cases f 0<;>cases h 0<;>simp<;>lia
theorem VG{x:Int}(hx:0<=x):Builtin.bitAnd x 1=x%2:=by
 rw[Ig hx 0#1,show (1:Int)/2=0 from rfl,bitAnd_zero]
 by_cases a:x%2=1
 ·rw[qF ⟨a,rfl⟩];lia
 ·rw[qE (λz=>a z.1)];lia
noncomputable def FE(h:Nat)(ks:List Nat)(e:Nat):Bool:=ks.any λk=>k%h==e
theorem Qf(h:Nat)(ks:List Nat)(k e:Nat):FE h (ks++[k]) e=(FE h ks e||decide (e=k%h)):=by
 unfold FE;rw[List.any_append]
 congr 1
 rw[iK,List.any_nil,Bool.or_false]
 by_cases z:k%h=e
 ·rw[z,qH rfl];exact beq_self_eq_true e
 ·rw[qI (λy=>z y.symm)];exact beq_eq_false_iff_ne.mpr z
theorem Sz{h:Nat}(h1:1<=h)(ks:List Nat)(k:Nat):Builtin.bitOr (Bd h (FE h ks)) (2^(k%h))=Bd h (FE h (ks++[k])):=by rw[<-Sy (eW k h1),O0];exact EJ λi _=>(Qf h ks k i).symm
theorem Ly{k:Nat}{s:Int}:k∈Co G j3 i s↔∃j,j<G/\j3.getD (i*G+j) 0=s/\k=i*G+j:=by
 unfold Co;rw[c6];constructor
 ·rintro⟨j,hj,rfl⟩;have z:=dm.mp hj;exact⟨j,dE.mp z.1,qO z.2,rfl⟩
 ·rintro⟨j,hj,hs,rfl⟩;exact⟨j,dm.mpr ⟨dE.mpr hj,qH hs⟩,rfl⟩
noncomputable def DO(G:Nat)(j3:qX)(h:Nat)(x s:Int)(n e:Nat):Bool:=(List.range n).any λi=>decide (x/2^i%2=1)&&FE h (Co G j3 i s) e
theorem VH{h:Nat}{x s:Int}{n:Nat}(z:x/2^n%2=1):Builtin.bitOr (Bd h (DO G j3 h x s n)) (Bd h (FE h (Co G j3 n s)))=Bd h (DO G j3 h x s (n+1)):=by rw[O0];refine EJ λi _=>?_;unfold DO;rw[eR,List.any_append,iK,List.any_nil,Bool.or_false,qH z,Bool.true_and]
theorem S0{h:Nat}{x s:Int}{n:Nat}(z:¬x/2^n%2=1):Bd h (DO G j3 h x s n)=Bd h (DO G j3 h x s (n+1)):=by refine EJ λi _=>?_;unfold DO;rw[eR,List.any_append,iK,List.any_nil,Bool.or_false,qI z,28#8,Bool.or_false]
noncomputable def B6(G:Nat)(j3:qX)(h:Nat)(x s:Int):Int:=Bd h (DO G j3 h x s h)
structure RK(H:Hp)(p:qS)(ps:List qS)(ws:List (qX)):Prop where
 l:H p=some 9#1
 n:5#5=19#1
 e:∀(i:Nat) (q:qS) (w:qX),ps[i]?=some q->ws[i]?=some w->H q=some (.lst (w.map 2#1))
variable{ps:List qS}
theorem RK.same{ws:List (qX)}(s:AF H H')(h:RK H p ps ws):RK H' p ps ws:=⟨s _ _ h.l,h.n,λi q w h1 h2=>s _ _ (h.e i q w h1 h2)⟩
noncomputable def Ih(G:Nat)(j3:qX)(h i:Nat):qX:=(List.range G).map λs:Nat=>Bd h (FE h (Co G j3 i (s:Int)))
noncomputable def DP(G:Nat)(j3:qX)(h n:Nat):List (qX):=(List.range n).map (Ih G j3 h)
inductive S4(vs:List V)(H:Hp)(Q:VK)(z3_:XK):Prop
 |m(r f:qS)(g lo:Int)(j3:qX)(m:Nat)(ks:List Nat):vs=[.ref r,.ref f]->Aa H r g lo j3 m->H f=some (.lst ((FV ks).map 2#1))->Q (.int (Bd (0#9/0#7) (FE (0#9/0#7) ks))) H->S4 vs H Q z3_
inductive Jw(vs:List V)(H:Hp)(Q:VK)(z3_:XK):Prop
 |m(r:qS)(g lo:Int)(j3:qX)(m:Nat):vs=[.ref r]->Aa H r g lo j3 m->0#9/0#7<=9->(∀(p:qS) (ps:List qS) (H':Hp),AF H H'->RK H' p ps (DP g.toNat j3 (0#9/0#7) (0#9/0#7))->Q 1#9 H')->Jw vs H Q z3_
inductive Lz(vs:List V)(H:Hp)(Q:VK)(z3_:XK):Prop
 |m(p:qS)(ps:List qS)(G:Nat)(j3:qX)(h:Nat)(x:Int)(s:Nat):vs=[.ref p,.int x,.int ((s:Nat):Int)]->RK H p ps (DP G j3 h h)->0<=x->s<G->(∀H',AF H H'->Q (.int (B6 G j3 h x (s:Int))) H')->Lz vs H Q z3_
theorem BZ{es es2:List Expr}{t t2:TA}{p:Pos}{x1}(hl:QU X es2 t2)(hr:QU X es t):QU X (.Tuple es2 x1 p::es) (EM (Ra t2) t):=.of (AA (DZ hl.out) hr.out (by rfl))
noncomputable def S6:qX->TA
 |[]=>JQ
 |i::is=>EM (tC 9#3) (S6 is)
noncomputable def L5:List (qX)->TA
 |[]=>JQ
 |w::ws=>EM (Ra (S6 w)) (L5 ws)
theorem O1:∀{is:qX} {k:List V->Hp->Prop},k (is.map 2#1) H->S6 is σ H k
 |[],_,h=>h
 |i::is,k,h=>O1 (is:=is) (k:=λxs H2=>k (.int i::xs) H2) h
structure Ep(H:Hp)(ps:List qS)(ts:List (qX)):Prop where
 n:5#5=ts.length
 e:∀(i:Nat) (q:qS) (w:qX),ps[i]?=some q->ts[i]?=some w->H q=some (.tup (w.map 2#1))
theorem Ep.same{ts:List (qX)}(s:AF H H')(h:Ep H ps ts):Ep H' ps ts:=⟨h.n,λi q w h1 h2=>s _ _ (h.e i q w h1 h2)⟩
theorem O2:∀{ts:List (qX)} {H:Hp} {k:List V->Hp->Prop},(∀w∈ts,5#0<=100)->(∀ps H',AF H H'->Ep H' ps ts->k 3#1 H')->L5 ts σ H k
 |[],H,k,_,h=>h [] H (AF.refl _) ⟨rfl,λi q w hq=>qG hq 0#3⟩
 |w::ts,H,k,hl,h=>by
  refine O1 ⟨by rw[cO];exact dO (hl w (ce ..)) 0#1,λp hp=>?_⟩;refine O2 (λw' hw'=>hl w' (cZ _ hw')) λps H' e' hv=>h (p::ps) H' ((AF.new hp _).trans e') ⟨by rw[dU,dU,hv.n],λi q u hq hu=>?_⟩
  cases i with
  |zero =>
   cases hq;cases hu;exact e' _ _ AD
  |succ i=>exact hv.e i q u hq hu
theorem L6{ts:List (qX)}{Q:VK}(hl:∀w∈ts,5#0<=100)(hn:ts.length<=100)(h:∀ps H',AF H H'->Ep H' ps ts->∀p,H' p=none->Q 1#9 (AU H' p 9#1)):QD (L5 ts) σ H Q:=
 O2 hl λps H' e hv=>⟨by rw[cO,hv.n];exact dO hn 0#1,λp hp=>h ps H' e hv p hp⟩
theorem Xk{r:R2}{ta tb:TE}{g:TG}(h:ta σ H λx H1=>tb σ H1 λy H2=>r x y H2 λv H3=>g v σ H3 D.nx):JP 18#1 g D σ H:=h
theorem Xl{g:TG}(h:te σ H λx H1=>g x σ H1 D.nx):JP te g D σ H:=h
end L2
namespace L2
open PySem PySem.Spec PyProof.Rows
def GY(K:qW)(J:It)(tt:TT)(te:TE)(σf:List (Option V))(D:qS)(Q:VK)(H:Hp):=∃W:Nat->Nat->List V->Hp->Prop,(∃n,W n 0 [] (AU H D (.lst [])))/\∀n i j6 H2,W n i j6 H2 ->
 (J.stop i H2/\Q 2#7 H2)\/(J.go i H2/\∃N:List V->Hp->Prop,(∀l H',N l H'->∃n',n'<n/\W n' (i+1) l H')/\∀v H3,J.yld i H2 v H3->∃(a:qS) (v1 v2:V),v=.ref a/\Ai K H3 a [v1,v2]/\tt (some v1::some v2::σf) H3 λb H4 =>
  if b=true then te (some v1::some v2::σf) H4 λy H5=>H5 D=some 4#8/\25#0<sizeLine/\N (j6++[y]) (AU H5 D (.lst (j6++[y]))) else N j6 H4)
def Xm(K:qW)(wi:TI)(fv:List (Nat×Str))(tt:TT)(te:TE):TE:=λσ H Q=>wi σ H λJ H1=>∀D,H1 D=none->GY K J tt te (DA σ fv) D Q H1
end L2
namespace PySem
section
variable{prog:qU}{w:qV}{A:Around}{s:qT}{R:Result->qT->Prop}
theorem compLoop_own{elt tg iter:Expr}{ifs:List Expr}{scope:Scope}{pos:Pos}{it j6:qR}{env:Env}(I:Nat->qT->Prop)(turn:∀n s,I n s->wpAny 0#8 A (pyNext it) (λr s1=>match r with
   |none=>R (.ok .next) s1
   |some v=>wpAny 0#8 A (letOwnedTupleGo tg it v) (λ_ s1b=>wpAny 0#8 A (assign tg env v) (λ_ s2 =>
     wpAny 0#8 A (forIn ifs true λc r=>if r=true then do let ok <-isTrue c env (eval c env);pure (ForInStep.yield ok) else pure (ForInStep.yield r)) (λok s3 =>
      if ok=true then wpAny 0#8 A (eval elt env) (λx s4 =>
       wpAny 0#8 A (call (.builtin "list.append") [j6,x]) (λ_ s5=>∃m,m<n/\I m s5) (notedBy 0#8 A env λe s'=>R 24#8 s') s4) (notedBy 0#8 A env λe s'=>R 24#8 s') s3
      else ∃m,m<n/\I m s3) (notedBy 0#8 A env λe s'=>R 24#8 s') s2) (notedBy 0#8 A env λe s'=>R 24#8 s') s1b) (notedBy 0#8 A env λe s'=>R 24#8 s') s1) (notedBy 0#8 A env λe s'=>R 24#8 s') s)(n:Nat)(h:I n s):codeAny 0#8 A (.compLoop (.ListComp elt [⟨tg,iter,ifs,0⟩] scope pos) 0 it j6 env) R s:=by
 refine codeAny_loop rfl I (λn s hI=>?_) n h;show wpAny _ A ((compTurn (.ListComp elt [⟨tg,iter,ifs,0⟩] scope pos) 0 it j6 env).onRaise (λx=>do noteFrame x env;theTreesLotGoes x)) _ _ s;refine wpAny_noted ?_;rw[compTurn_list];refine qC (wpAny_standAt (qC (qN (turn n s hI) (λr s1 h1=>?_) λ_ _ h'=>h')));cases r with
 |none=>exact qD h1
 |some v =>
  refine qC (qN h1 (λ_ s1b h1b=>?_) λ_ _ h'=>h');refine qC (qN h1b (λ_ s2 h2=>qC (qN h2 (λok s3 h3=>?_) λ_ _ h'=>h')) λ_ _ h'=>h');cases ok with
  |false=>exact qD ⟨rfl,h3⟩
  |true =>
   exact qC (qC (qN h3 (λx s4 h4=>qC (qN h4 (λ_ s5 h5=>qD (qD ⟨rfl,h5⟩)) λ_ _ h'=>h')) λ_ _ h'=>h'))
end
end PySem
namespace L2
open PySem PySem.Spec PyProof.Rows
variable{C:qS}{E:qR->qT->Prop}{h1:Heap}
section
variable{X:Cx}{x x2:Str}{px px2 pt pos:Pos}{kt:Nat}{elt iter:Expr}{ifs:List Expr}{scope:Scope}{cl:List (Str×qS)}{fv:List (Nat×Str)}{wi:TI}{tt:TT}{te:TE}{ad:List (qS×Obj)}{σ:St}{H2:Hp}{s2:qT}{fp:List qS}{it:qS}{tn:Nat->Heap->Prop}{J:It}
theorem VI{D:qS}{t1:Nat}(I2:AT X ad σ H2 s2)(f2:∀b∈fp,FP X ad H2 b)(o2:∀b∈fp,∃o,s2.heap.get? b=some o/\∀v,13#1≠.cell v)(hD:3#4<=D)(hC:3#4<=C)(hDC:D≠C)(old:∀b o,s2.heap.get? b=some o->h1.get? b=some o)(hl:h1.PlainList D #[])(hn:h1.Ns C (λ_=>none))(hk:15#0=.function)(hcl:HI X.env cl)(hhas:((relabel scope 1#6).names.all λz=>!(z.2==.cell||z.2==.free)||(cl.lookup z.1).isSome)=true)(hfv:IK X scope cl fv):
  AT (EN X s2 H2 1#1 fp (x::x2::fv.map (·.2))) [] (none::none::DA σ fv) (AU H2 D (.lst [])) {s2 with heap:=h1,toks:=t1} where
 ok:=SE I2 f2 o2 hC hk hcl hhas
 os:=rfl
 bare:=I2.bare
 base:=Un.laid old hD (I2.hok.fresh hD)
 loc:=by
  refine⟨_,hn,λi y v h1' h2' _=>?_⟩;cases i with
  |zero=>cases h2'
  |succ i =>
   cases i with
   |zero=>cases h2'
   |succ i =>
   have h1':(fv.map (·.2))[i]?=some y:=h1';have h2':(DA σ fv)[i]?=some 13#6:=h2'
   obtain⟨q,hq,e1⟩:∃q,fv[i]?=some q/\q.2=y:=by rw[cT]at h1';exact c7.mp h1'
   subst e1;rcases hfv.at' q (cp hq) with⟨g1,g2,g3,g4⟩;unfold DA at h2';rw[cT,hq]at h2';have e2:(σ[q.1]?).join=some v:=Option.some.inj h2'
   have e3:σ[q.1]?=some 13#6:=by
    cases z:σ[q.1]? with
    |none=>rw[z]at e2;cases e2
    |some w=>rw[z]at e2;exact qQ some e2
   obtain⟨m,_,lk⟩:=I2.loc;have g2:=SC g2;obtain⟨u,ru,lu⟩:=lk q.1 q.2 v g1 e3 (.inr g2);refine⟨u,ru,.inr ⟨g2.imp (λz=>g3.trans z) (λz=>g3.trans z),?_⟩⟩;obtain⟨c,hc⟩:=fg.mp g4;refine⟨c,hc,?_⟩;rcases lu with⟨kk,_⟩|⟨_,c',e',⟨o,eo,d⟩⟩
   ·rcases g2 with z|z<;>(rw[show X.env.kindOf q.2=_ from z]at kk;cases kk)
   ·have e4:=hcl.at' hc;rw[e']at e4;cases e4;exact⟨o,old c o eo,d⟩
 cell:=λy c h=>by rcases I2.cell y c (hcl.at' h) with⟨v,o,eo,d⟩;exact⟨v,o,old c o eo,d⟩
 free:=by show AU H2 D _ C=none;rw[AI (Ne.symm hDC)];exact I2.hok.fresh hC
 freeC:=λy c h=>by rcases I2.cell y c (hcl.at' h) with⟨v,o,eo,d⟩;rw[AI (dH (cu (cg eo) hD))];exact I2.freeC y c (hcl.at' h)
 pin:=λp hp=>nomatch hp
 hok:=I2.hok.laid old hD (by obtain⟨n,e⟩:=hl;exact⟨Nat.zero_le _,[],n,.nil,by simpa using e⟩)
 len:=by simp[DA,EN]
theorem S7{RR:qR->qS->Result->qT->Prop}{Q:VK}(hc:23#4=true)(I2:AT X ad σ H2 s2)(T:Ht X.prog X.w X.K (.Tuple [.Name x px,.Name x2 px2] kt pt) J fp it tn)(st2:tn 0 s2.heap)(f2:∀b∈fp,FP X ad H2 b)(hcell:∀y∈11#7,y.2≠.cell)(hk:15#0=.function)(hx:scope.names.lookup x=some .local)(hx2:scope.names.lookup x2=some .local)(hcl:HI X.env cl)(hhas:((relabel scope 1#6).names.all λz=>!(z.2==.cell||z.2==.free)||(cl.lookup z.1).isSome)=true)(hfv:IK X scope cl fv)(hnd:(x::x2::fv.map (·.2)).Nodup)(hf:∀s H C fp,PF (EN X s H 1#1 fp (x::x2::fv.map (·.2))) ifs tt)(he:∀s H C fp,PE (EN X s H 1#1 fp (x::x2::fv.map (·.2))) elt te)(hw:∀D,H2 D=none->GY X.K J tt te (DA σ fv) D Q H2)(hRR:∀D C σ' H' s',3#4<=C->AT (EN X s2 H2 1#1 fp (x::x2::fv.map (·.2))) [] σ' H' s'->Q 2#7 H'->RR 2#7 C (.ok .next) s'):
  wpAny 1#0 X.A (newList []) (λj6 s3=>wpAny 1#0 X.A (newFunctionEnv scope X.env.globals cl [] X.env.qual none .none (some 1#6)) (λcenv s4 =>
   codeAny 1#0 X.A (.compStart (.ListComp elt [⟨.Tuple [.Name x px,.Name x2 px2] kt pt,iter,ifs,0⟩] scope pos) 0 6#8 j6 {cenv with scope:=relabel scope 1#6}) (RR j6 cenv.locals) s4) E s3) E s2:=by
 refine wpAny_newObj_type (wpAny_newFunctionEnv hcell (by intro y hy;simp at hy) (λh1 hns hsb=>?_) hk);dsimp only at hns hsb⊢;generalize hH:s2.heap.push {cls:=.type "list",dict:=none,data:=.seq ([]:List qR).toArray}=HH at hns hsb⊢;have eC:14#6=3#4+1:=by rw[<-hH,eS]
 have hDC:3#4≠14#6:=by rw[eC];exact dH (fR _)
 have hC:3#4<=14#6:=by rw[eC];exact iY _
 have old:∀b o,s2.heap.get? b=some o->h1.get? b=some o:=λb o e=>hsb.extBut b o (by rw[eC];exact dH (d5 16#1)) (cS _ (hH▸cS _ e))
 have hacc:h1.PlainList s2.heap.objs.size #[]:=⟨_,hsb.extBut _ _ hDC (cS _ (hH▸cy _ rfl))⟩;have o2:=T.obj _ _ st2;rcases hw s2.heap.objs.size (I2.hok.fresh (cU _)) with⟨W,⟨n0,w0⟩,turn⟩;generalize eD:3#4=D at *;generalize eCC:14#6=C at *;have Ib:=VI (x:=x) (x2:=x2) (t1:=s2.toks+([]:List (Str×qR)).length) I2 f2 o2 (by rw[eD];exact cU _) (by rw[eD];exact hC) hDC old hacc hns hk hcl hhas hfv;have st1:tn 0 h1:=T.keep _ _ _ st2 λb _ o e=>old b o e
 have nD:∀b∈fp,b≠D:=λb hb=>by obtain⟨o,e,_⟩:=o2 b hb;rw[<-eD];exact dH 16#1
 have fr1:∀b∈fp,AU H2 D (.lst []) b=none:=λb hb=>by rw[AI (nD b hb)];exact (f2 b hb).1
 have hxl:(relabel scope 1#6).names.lookup x=some .local:=lookup_relabel_local hx;have hxl2:(relabel scope 1#6).names.lookup x2=some .local:=lookup_relabel_local hx2
 have stat:∀{H':Hp},(∀b∈fp,H' b=none)->∀b∈fp,FP (EN X s2 H2 1#1 fp (x::x2::fv.map (·.2))) [] H' b:=λhn b hb=>by obtain⟨o,e,_⟩:=o2 b hb;exact⟨hn b hb,λz=>qG 16#1 (by rw[z,eD];exact Nat.not_lt.mpr hC),λz=>(dA.mp (I2.stkSub b z)).elim (f2 b hb).2.1 (f2 b hb).2.2.1,.inl hb,λy c h=>(f2 b hb).2.2.2.2.1 y c (hcl.at' h),λq hq=>nomatch hq⟩
 have loop:codeAny 1#0 X.A (.compLoop (.ListComp elt [⟨.Tuple [.Name x px,.Name x2 px2] kt pt,iter,ifs,0⟩] scope pos) 0 6#8 2#7 1#1) (RR 2#7 C) {s2 with heap:=h1,toks:=s2.toks+([]:List (Str×qR)).length}:=by
  refine compLoop_own (λn s'=>∃i j6 σb H',AT (EN X s2 H2 1#1 fp (x::x2::fv.map (·.2))) [] σb H' s'/\σb.tail.tail=DA σ fv/\tn i 14#2/\(∀b∈fp,H' b=none)/\W n i j6 H') ?_ n0 ⟨0,[],_,_,Ib,rfl,st1,fr1,w0⟩;intro n s3 hRq;rcases hRq with⟨i,j6,σ3,H3,I3,t3,st3,fr3,w3⟩;rcases turn n i j6 H3 w3 with⟨stop,qn⟩|⟨go,NN,hNN,step⟩
  ·refine BB (T.done (EN X s2 H2 1#1 fp (x::x2::fv.map (·.2))) rfl rfl rfl hc i [] s3 σ3 H3 _ I3 29#0 st3 stop) λr s4 q4=>?_;obtain⟨hr,I4⟩:=q4;subst hr;exact hRR D C σ3 H3 s4 hC I4 qn
  ·refine BB (T.item (EN X s2 H2 1#1 fp (x::x2::fv.map (·.2))) rfl rfl rfl hc i [] s3 σ3 H3 _ I3 29#0 st3 go) λr s4 q4=>?_;obtain⟨u,hr,h4⟩:=q4;subst hr;refine BB h4 λ_ s5 q5=>?_;rcases q5 with⟨v,H5,I5,r5,y5,st5,fr5⟩;have I5':=I5.pinned (stat fr5) (T.obj _ _ st5);have again:∀{σ7:St} {H7:Hp} {s7:qT},AT (EN X s2 H2 1#1 fp (x::x2::fv.map (·.2))) ([]++GF fp s5.heap) σ7 H7 s7->tn (i+1) s7.heap/\∀b∈fp,H7 b=none:=λ{σ7 H7 s7} I7=>by refine⟨T.keep _ _ _ st5 λb hb o e=>(I7.pin (b,o) (dW _ (dW _ (Cc hb e)))).1,λb hb=>?_⟩;obtain⟨o,e,d⟩:=T.obj _ _ st5 b hb;exact (I7.pin (b,o) (dW _ (dW _ (Cc hb e)))).2.1
   rcases step v _ y5 with⟨a5,v1,v2,rfl,hq5,step5⟩
   have sσ:(σ3.set 0 (some v1)).set 1 (some v2)=some v1::some v2::DA σ fv:=by
    have l3:=I3.len;rcases σ3 with _|⟨a,_|⟨b,r⟩⟩
    ·cases l3
    ·cases l3
    ·have z:r=DA σ fv:=t3;rw[z];rfl
   have hnd2:=dR.mp hnd;have g1:=HN (X:=EN X s2 H2 1#1 fp (x::x2::fv.map (λq:Nat×Str=>q.2))) (pos:=px) (i:=0) (x:=x) hnd rfl (.inl hxl) (.inr hxl);have g2:=HN (X:=EN X s2 H2 1#1 fp (x::x2::fv.map (λq:Nat×Str=>q.2))) (pos:=px2) (i:=1) (x:=x2) hnd rfl (.inl hxl2) (.inr hxl2);have g:=Hs (X:=EN X s2 H2 1#1 fp (x::x2::fv.map (λq:Nat×Str=>q.2))) (pos:=pt) (k:=kt) hc (CA g1 (CA g2 Fe));refine wpAny_noRaise (BB (g _ s5 σ3 H5 (.ref a5) u (λσ' H'=>σ'=some v1::some v2::DA σ fv/\H'=H5) I5' r5 ⟨a5,[v1,v2],rfl,hq5,rfl,v1,[v2],rfl,v2,[],rfl,rfl,sσ,rfl⟩) λ_ s6 q6=>?_);rcases q6 with⟨σ6,H6,I6,rfl,rfl⟩;refine wpAny_noRaise (BB (hf _ _ _ _ _ s6 _ _ _ I6 step5) λb s7 q7=>?_);obtain⟨H7,I7,q7⟩:=q7;cases b with
   |false =>
    rw[qE 0#1]at q7⊢;obtain⟨n',hn',w7⟩:=hNN _ _ q7;exact⟨n',hn',i+1,j6,_,H7,I7.unpinned,rfl,(again I7).1,(again I7).2,w7⟩
   |true =>
    rw[qF rfl]at q7⊢;refine wpAny_noRaise (BB (he _ _ _ _ _ s7 _ _ _ I7 q7) λyv s8 q8=>?_);rcases q8 with⟨y,H8,I8,r8,e8,l8,q8⟩;obtain⟨n',hn',w8⟩:=hNN _ _ q8;refine wpAny_noRaise (BB (GJ (X:=EN X s2 H2 1#1 fp (x::x2::fv.map (·.2))) _ s8 _ H8 2#7 [y] 2#7 [yv] (λ_ H'=>H'=AU H8 D (.lst (j6++[y]))) I8 rfl (.cons r8 .nil) ⟨D,j6,y,rfl,rfl,e8,l8,rfl⟩) λ_ s9 q9=>?_);rcases q9 with⟨_,H9,I9,_,rfl⟩;exact⟨n',hn',i+1,j6++[y],_,_,I9.unpinned,rfl,(again I9).1,(again I9).2,w8⟩
 exact codeAny_compStart_list loop (T.self X.A 0 _ _ _ st1 loop)
theorem S8(hc:23#4=true)(hi:PI X (.Tuple [.Name x px,.Name x2 px2] kt pt) iter wi)(hclos:closureFor scope 1#6=pure cl)(hcell:∀y∈11#7,y.2≠.cell)(hk:15#0=.function)(hnames:∀z∈11#7,z.2=.local->scope.names.lookup z.1=some .local)(hx:scope.names.lookup x=some .local)(hx2:scope.names.lookup x2=some .local)(hcl:HI X.env cl)(hhas:((relabel scope 1#6).names.all λz=>!(z.2==.cell||z.2==.free)||(cl.lookup z.1).isSome)=true)(hfv:IK X scope cl fv)(hnd:(x::x2::fv.map (·.2)).Nodup)(hf:∀s H C fp,PF (EN X s H 1#1 fp (x::x2::fv.map (·.2))) ifs tt)(he:∀s H C fp,PE (EN X s H 1#1 fp (x::x2::fv.map (·.2))) elt te)(hs:∀x,foldedSetIterable iter X.env x=pure x:=by intro _;rfl):PE X (.ListComp elt [⟨.Tuple [.Name x px,.Name x2 px2] kt pt,iter,ifs,0⟩] scope pos) (Xm X.K wi fv tt te):=by
 intro ad s σ H Q I h;rw[eval_ListComp];refine wpAny_comprehension_free (use:=none) rfl hs hclos hk hnames (BB (hi ad s σ H _ I h) λv s1 h1=>BB h1 λitv s2 h2=>?_);rcases h2 with⟨it,fp,tn,J,H2,e,I2,T,st2,f2,hw⟩;subst e;refine S7 (RR:=λj6 C=>compPost 1#0 X.A X.xe none 7#1 j6 C) hc I2 T st2 f2 hcell hk hx hx2 hcl hhas hfv hnd hf he hw λD C σ' H' s' hC Ib q=>?_;obtain⟨m,hn,_⟩:=Ib.loc;exact⟨m,hn,λh' sb=>⟨.ref D,H',AT.letGo I2 (IM I2 f2 Ib) hC Ib.free sb,rfl,q⟩⟩
end
end L2
namespace PySem
section
variable{prog:qU}{w:qV}{A:Around}{E:qR->qT->Prop}{s:qT}{it d:qS}{i ep:Nat}{od:Obj}{es:Array DictEntry}
theorem keys_item{Q:Option qR->qT->Prop}(hit:s.heap.IsKeyIter it d i es.size ep)(hod:s.heap.get? d=some od)(hdd:od.data=.dict es ep)(hlt:i<6#6)(hQ:∀h',h'.IsKeyIter it d (i+1) es.size ep->Heap.SameBut it s.heap h'->Q (some es[i].key) {s with heap:=h'}):wpAny 0#8 A 21#7 Q E s:=by
 obtain⟨o,ho,hc,hd⟩:=id hit;have T:=hit.typeIs;unfold pyNext;refine qC (wpAny_attempt (wpAny_callSpecial?_slot (name:=Str.ofString "__next__") T F.slot_dict_keyiterator_next (wpAny_call_entry F.slot_dict_keyiterator_next T F.entry_dict_keyiterator_next ?_ (F.args_dict_keyiterator_next_1 _))));refine qC (qD (qC (qC ?_)));refine qC (wpAny_typeNameOfWhole_keyiter T (qD (qC (wpAny_fieldsOf ho hd ?_))));rw[show (if Builtin.Dict_items.ownsTuple "dict_keyiterator"=true then 2 else 0)=0 from qE 0#1];show wpAny _ _ (if (Value.ref d==.none)=true then _ else _) _ _ s;rw[qE (show ¬((Value.ref d==.none)=true) from dB)];refine qC (qD (qC (wpAny_dictEntries hod hdd ?_)));rw[qE 0#3];refine qC (qD (qC (wpAny_dictEpoch hod hdd ?_)));rw[qE 0#3];refine qD ?_;simp only[show ¬((i:Int)<0) by lia,if_false,Int.toNat_natCast,Array.getElem?_eq_getElem hlt];refine qC (qC (wpAny_typeNameOfWhole_keyiter T (qD (qC (wpAny_isOneOf_keyiter T ?_)))));show wpAny _ _ (setField 6#8 1 (rawInt ((i:Int)+1)) >>= _) _ _ s;have hit':(s.heap.update it (Obj.mapFields (·.setIfInBounds 1 (rawInt ((i:Int)+1))))).IsKeyIter it d (i+1) es.size ep:=⟨_,Heap.get?_update_self _ ho (Obj.isFreed_of_fields (Obj.data_mapFields hd _)),(Obj.cls_mapFields ..).trans hc,by rw[Obj.data_mapFields hd];simp[rawInt]⟩;refine qC (wpAny_setField ho hd 0#3 (qC (qP (qC (wpAny_isOneOf_keyiter (s:={s with heap:=s.heap.update it (Obj.mapFields (·.setIfInBounds 1 (rawInt ((i:Int)+1))))}) hit'.typeIs ?_)))));show wpAny _ _ (pure es[i].key) _ _ _;exact qD (qD ⟨_,rfl,qD (hQ _ hit' (Heap.SameBut.update ..))⟩)
theorem keys_end{Q:Option qR->qT->Prop}(hh:10#9=none)(hit:s.heap.IsKeyIter it d i es.size ep)(hod:s.heap.get? d=some od)(hdd:od.data=.dict es ep)(hge:6#6<=i)(hQ:∀h',Heap.ExtBut it s.heap h'->Q none {s with heap:=h'}):wpAny 0#8 A 21#7 Q E s:=by
 obtain⟨o,ho,hc,hd⟩:=id hit;have T:=hit.typeIs;unfold pyNext;refine qC (wpAny_attempt (wpAny_callSpecial?_slot (name:=Str.ofString "__next__") T F.slot_dict_keyiterator_next (wpAny_call_entry F.slot_dict_keyiterator_next T F.entry_dict_keyiterator_next ?_ (F.args_dict_keyiterator_next_1 _))));refine qC (qD (qC (qC ?_)));refine qC (wpAny_typeNameOfWhole_keyiter T (qD (qC (wpAny_fieldsOf ho hd ?_))));rw[show (if Builtin.Dict_items.ownsTuple "dict_keyiterator"=true then 2 else 0)=0 from qE 0#1];show wpAny _ _ (if (Value.ref d==.none)=true then _ else _) _ _ s;rw[qE (show ¬((Value.ref d==.none)=true) from dB)];refine qC (qD (qC (wpAny_dictEntries hod hdd ?_)));rw[qE 0#3];refine qC (qD (qC (wpAny_dictEpoch hod hdd ?_)));rw[qE 0#3];refine qD ?_;simp only[show ¬((i:Int)<0) by lia,if_false,Int.toNat_natCast,Array.getElem?_eq_none hge];refine qC (qC (wpAny_typeNameOfWhole_keyiter T (qD ?_)));show wpAny _ _ (setField 6#8 0 .none >>= _) _ _ s;refine qC (wpAny_setField ho hd 0#3 ?_);show wpAny _ _ (newExc (.type "StopIteration") [] >>= _) _ _ _;refine qC ?_;simp only[newExc,newTuple];refine qC (wpAny_newObj_type (qC (m:=firstArgMember _ _) (wpAny_of_eq (a:=11#3) (by first|rfl|(simp only[firstArgMember];rfl)) (wpAny_newObj_type ?_ (by size_fits)))) (by size_fits));unfold raiseNew;refine qC (wpAny_handled ?_);rw[show A.in1.handled=none from hh];refine qC (qD (wpAny_throw ?_));exact qC (wpAny_isInstance (T:="StopIteration") (b:=true) ⟨_,cy _ rfl,rfl⟩ isSubtype_stop (qD (hQ _ (((Heap.SameBut.update ..).extBut.push _).push _))))
theorem keys_iter{Q:qR->qT->Prop}(hm:(d==sysModules)=false)(hT:s.TypeIs 2#3 "dict")(hod:s.heap.get? d=some od)(hdd:od.data=.dict es ep)(hQ:Q 10#1 {s with heap:=s.heap.push {cls:=.type "dict_keyiterator",data:=.fields #[.ref d,.int 0 0,.int es.size 0,.int ep 0]}}):wpAny 0#8 A (pyIter 2#3) Q E s:=by
 refine wpAny_pyIter_slot hT F.slot_dict_iter (wpAny_call_entry F.slot_dict_iter hT F.entry_dict_iter ?_ (F.args_dict_iter_1 _));unfold Builtin.«dict.__iter__»;refine qC ?_;unfold Builtin.Dict.dictSlotNone;refine qC (wpAny_notOrdered_dict hT ?_);show wpAny _ _ (pure (Value.ref d)) _ _ s;refine qD ?_;show wpAny _ _ (Builtin.Dict.showsAll d >>= _) _ _ s;unfold Builtin.Dict.showsAll;rw[qE (by rw[hm];exact dB)];refine qC (qD (qC (wpAny_dictEntries hod hdd (qC (wpAny_dictEpoch hod hdd ?_)))));exact qC (wpAny_newObj_type (qD ⟨_,rfl,"dict_keyiterator",_,⟨_,Heap.get?_push_size _ rfl,rfl⟩,F.slot_dict_keyiterator_next.lookup,by simpa [rawInt] using hQ⟩))
end
end PySem
namespace L2
open PySem PySem.Spec PyProof.Rows
variable{E Q:qR->qT->Prop}{H H':Hp}{X:Cx}{a:qS}{h h' h1:Heap}{i t':Nat}{kvs:List (List BP×V)}{o:Obj}{ad:List (qS×Obj)}{s:qT}{tg:Expr}{tl:TE}{u:qR}{xs:List V}{y:V}{α β:Type}{σ:St}
noncomputable def S9(d:qS)(o:Obj)(kvs:List (BP×V)):It:=
 ⟨λi H=>H d=some 18#6/\i<2#2,λi H x H'=>H'=H/\∃(k:BP) (v:V),x=kV k/\kvs[i]?=some (k,v),λi H=>H d=some 18#6/\2#2<=i⟩
theorem BG{F:α->β->Prop}{l₁:List α}{l₂:List β}{x:α}(p:Paired F l₁ l₂)(e:l₁[i]?=some x):∃y,l₂[i]?=some y/\F x y:=by
 induction p generalizing i with
 |nil=>rw[List.getElem?_nil]at e;cases e
 |cons r _ ih =>
  cases i with
  |zero =>
   rw[List.getElem?_cons_zero]at e;cases e;exact⟨_,rfl,r⟩
  |succ i =>
   rw[iP]at e;obtain⟨u,h1,h2⟩:=ih e;exact⟨u,by rw[iP];exact h1,h2⟩
variable{d:qS}{ep:Nat}
theorem AT.freeze{u:HO}(I:AT X ad σ H s)(e:H d=some u)(nt:∀ys,u≠.tup ys)(nf:∀o v,u≠.frz o v)(nb:∀ps,u≠.tbl ps)(no:∀x,u≠.own x)(ho:s.heap.get? d=some o):AT X ad σ (AU H d 18#5) s:=
 have up:∀{b:qS} {v:HO},H b=some v->v≠u->AU H d 18#5 b=some v:=λ{b v} z n=>by rw[AI λy=>n (by rw[y,e]at z;exact (Option.some.inj z).symm)];exact z
 have un:∀{b:qS},H b=none->AU H d 18#5 b=none:=λ{b} z=>by rw[AI λy=>by rw[y,e]at z;cases z];exact z
 {I with
  base:=⟨I.base.keep,I.base.slot,λb ob q n hx=>un (I.base.free b ob q n hx),I.base.there,λb xs q=>up (I.base.tups b xs q) λz=>nt _ z.symm,λb ob v q=>up (I.base.frzs b ob v q) λz=>nf _ _ z.symm,λb ps q=>by obtain⟨m,z⟩:=I.base.tbls b ps q;exact⟨m,up z λy=>nb _ y.symm⟩⟩
  free:=un 28#7
  freeC:=λx c q=>un (I.freeC x c q)
  pin:=λp hp=>⟨(I.pin p hp).1,un (I.pin p hp).2.1,(I.pin p hp).2.2⟩
  hok:=λb v q=>by
   have st:∀{b:qS} {v:HO},H b=some v->Aj X.prog X.w (AU H d 18#5) s.heap b v:=λ{b v} q=>(I.hok b v q).stay (λ_ _ _ z=>z) (λc z=>up z λy=>no _ y.symm) λc xs z=>up z λy=>nt _ y.symm
   by_cases hb:b=d
   ·subst hb;rw[AD]at q;cases q;exact⟨ho,st e⟩
   ·rw[AI hb]at q;exact st q}
theorem TB{u:HO}(e:H d=some u):AU H d u=H:=funext λb=>by
 by_cases z:b=d
 ·subst z;rw[AD,e]
 ·rw[AI z]
theorem WV{P:qU}{w:qV}{k:BP}(h:(Am P w).is k u=true):An (kV k) u:=by
 rcases BX h with⟨i,t,e1,e2⟩|⟨x,t,e1,e2⟩
 ·subst e1 e2;exact⟨_,rfl⟩
 ·subst e1 e2;exact⟨_,rfl⟩
theorem Nm{P:qU}{w:qV}{K:qW}{it:qS}{kvs:List (BP×V)}{es:Array DictEntry}(ho:13#1=.dict es ep)(hl:6#6=2#2):Ht P w K tg (S9 d o kvs) [it] it (λi h=>h.IsKeyIter it d i es.size ep) where
 mem:=by simp
 obj:=λi h st b hb=>by
  have e:b=it:=by simpa using hb
  subst e;rcases st with⟨o,e,c,d⟩;exact⟨o,e,λv z=>by rw[d]at z;cases z⟩
 keep:=λi h h' st k=>st.at λo e=>k it 0#3 o e
 item:=by
  rintro X hP hw hK hc i ad s σ H E I hf st ⟨hg,hi⟩;subst hP hw hK;rcases hf it (by simp) with⟨f0,f1,f2,f3,f4,f5⟩;obtain⟨g0,g1⟩:=(show Aj X.prog X.w H s.heap d 18#6 from I.hok d _ hg);rcases (show Aj X.prog X.w H s.heap d (.dK kvs) from g1) with⟨_,_,vs,r,o2,es2,ep2,e2,_,d2,_,prs,_⟩;rw[g0]at e2;cases e2;rw[ho]at d2;cases d2;have hie:i<6#6:=by lia
  obtain⟨p,hp⟩:∃p,kvs[i]?=some p:=⟨kvs[i],by simp[hi]⟩;rcases BG r hp with⟨q,hq,r1,r3⟩;have he:=(prs.get? (e:=es[i]) (k:=q.1) (v:=q.2) (by simp[hie]) hq).1;rw[<-r1]at he;refine keys_item st g0 ho hie λh' st' sb=>?_;have I1:AT X ad σ H {s with heap:=h'}:=I.turned (t':=7#8) (λb o hb e=>(sb.2 b hb).trans e) f0 f1 f3 f4 f5;rcases id st' with⟨oo,e,c,dd⟩;exact⟨_,rfl,Jh (s:={s with heap:=h'}) e c dd 0#1 ⟨kV p.1,H,I1,WV he,⟨rfl,p.1,p.2,rfl,hp⟩,st',λb hb=>(hf b hb).1⟩⟩
 done:=by rintro X hP hw hK hc i ad s σ H E I hf st ⟨hg,hi⟩;subst hP hw hK;rcases hf it (by simp) with⟨f0,f1,f2,f3,f4,f5⟩;obtain⟨g0,g1⟩:=(show Aj X.prog X.w H s.heap d 18#6 from I.hok d _ hg);exact keys_end 5#9 st g0 ho 0#0 λh' eb=>⟨rfl,I.turned (t':=7#8) (λb o hb e=>eb b o hb e) f0 f1 f3 f4 f5⟩
 self:=λ_ _ _ _ _ st h=>wpAny_pyIter_keyiter st h
def Xn(tl:TE):TI:=λσ H R=>tl σ H λx H1=>∃(d:qS) (kvs:List (BP×V)),x=.ref d/\Rd H1 d 6#3/\∀o,R (S9 d o kvs) (AU H1 d 18#6)
theorem TC{l:Expr}(hl:PE X l tl):PI X tg l (Xn tl):=by
 intro ad s σ H R I h;refine BB (hl ad s σ H _ I h) λv s1 z9=>?_;obtain⟨x,H1,I1,r1,q1⟩:=z9;obtain⟨d,kvs,e,hq,q⟩:=q1;subst e;cases r1;obtain⟨z,hm,vs,r,o,es,ep,ho,hx,hd,ks,prs,nd⟩:=(show Aj X.prog X.w H1 s1.heap d 6#3 from hq.ok I1.hok)
 have I2:AT X ad σ (AU H1 d 18#6) s1:=by
  rcases hq with e|⟨o',e⟩
  ·exact I1.freeze e (λ_ z=>nomatch z) (λ_ _ z=>nomatch z) (λ_ z=>nomatch z) (λ_ z=>nomatch z) ho
  ·obtain⟨g0,_⟩:=(show Aj X.prog X.w H1 s1.heap d (.frz o' 6#3) from I1.hok d _ e);rw[ho]at g0;cases g0;rw[TB e];exact I1
 have hsz:6#6=2#2:=by have a:=prs.length;have b:=Paired.length r;simp at a;lia
 refine keys_iter hm ⟨o,ho,hx.1⟩ ho hd ⟨1#7,[1#7],_,_,_,rfl,I2.kept (t':=23#3) λb o e=>cS _ e,Nm hd hsz,⟨_,cy _ rfl,rfl,rfl⟩,λb hb=>?_,q o⟩;have e:b=1#7:=by simpa using hb
 subst e;exact I2.fpOk (cU _) (I2.hok.fresh (cU _))
abbrev O3:=List BP×qS×V
noncomputable def Ii(p:O3):List BP×V:=(p.1,p.2.2)
def Er(p:O3)(q:List BP×qS×qR):Prop:=p.1=q.1/\p.2.1=q.2.1/\An p.2.2 q.2.2
def Uc(P:qU)(w:qV)(d:qS)(bs:List O3)(h:Heap):Prop:=bs.length<=sizeLine/\(d==sysModules)=false/\∃xs:List (List BP×qS×qR),Paired Er bs xs /\
 ∃o es ep,h.get? d=some o/\o.ExactDict/\13#1=.dict es ep/\19#2=xs.map (entryOfKey 23#5)/\(xs.map (·.1)).Nodup
noncomputable def Ud(P:qU)(w:qV)(d:qS)(bs:List O3):HO:=.ext (Uc P w d bs)
def TD(K:qW)(H:Hp)(bs:List O3):=∀p∈bs,Ai K H p.2.1 (p.1.map kV)
def DW(P:qU)(w:qV)(K:qW)(H:Hp)(d:qS)(kvs:List (List BP×V)):=∃bs,H d=some (Ud P w d bs)/\bs.map Ii=kvs/\TD K H bs
def DR(P:qU)(w:qV)(K:qW)(H:Hp)(d:qS)(u:HO)(kvs:List (List BP×V)):=∃bs,H d=some u/\(u=Ud P w d bs\/∃o,u=.frz o (Ud P w d bs))/\bs.map Ii=kvs/\TD K H bs
section
variable{P:qU}{w:qV}{K:qW}{u:HO}
theorem Ai.same'(e:AF H H')(q:Ai K H a xs):Ai K H' a xs:=q.imp (λz=>z.imp (e _ _) λ⟨o,z⟩=>⟨o,e _ _ z⟩) id
theorem DR.same(e:AF H H')(r:DR P w K H d u kvs):DR P w K H' d u kvs:=by obtain⟨bs,h1,h2,h3,h4⟩:=r;exact⟨bs,e _ _ h1,h2,h3,λp hp=>(h4 p hp).same' e⟩
theorem DW.same(e:AF H H')(r:DW P w K H d kvs):DW P w K H' d kvs:=by obtain⟨bs,h1,h3,h4⟩:=r;exact⟨bs,e _ _ h1,h3,λp hp=>(h4 p hp).same' e⟩
theorem DW.r(r:DW P w K H d kvs):∃u,DR P w K H d u kvs:=by obtain⟨bs,h1,h3,h4⟩:=r;exact⟨_,bs,h1,.inl rfl,h3,h4⟩
theorem Er.val{bs:List O3}{xs:List (List BP×qS×qR)}(r:Paired Er bs xs)(k:List BP):FN (BV (bs.map Ii) k) ((atKey xs k).map (·.2)):=by
 induction r with
 |nil=>exact 8#6
 | @cons p q ps qs hh t ih =>
  obtain⟨h1,_,h2⟩:=hh
  by_cases e:p.1=k
  ·have e':q.1=k:=h1.symm.trans e;have b:atKey (q::qs) k=some q.2:=by simp[atKey,List.find?_cons,e']
   rw[dN,Dq (show (Ii p).1=k from e),b];exact h2
  ·have e':¬q.1=k:=λz=>e 21#8
   have b:atKey (q::qs) k=atKey qs k:=by simp[atKey,List.find?_cons,e']
   rw[dN,Cp (show ¬(Ii p).1=k from e),b];exact ih
end
section
variable{b:qS}{u:HO}{k:List BP}
theorem C0(I:AT X ad σ H s)(q:Ai X.K H b 6#5):(tupleKind 5#6).is s.heap k b:=by obtain⟨its,rv,p,hz⟩:=I.tuple q;obtain⟨o,h1,h2,n,h3⟩:=p;exact⟨o,7#0,n,h1,h2,h3,by simpa using GU rv⟩
theorem DR.at(I:AT X ad σ H s)(r:DR X.prog X.w X.K H d u kvs):∃bs xs,bs.map Ii=kvs/\TD X.K H bs/\Paired Er bs xs/\bs.length<=sizeLine/\(d==sysModules)=false/\s.heap.DictOfH 10#6 d xs:=by
 rcases r with⟨bs,h1,h2,h3,h4⟩
 have ok:Uc X.prog X.w d bs 23#2:=by
  rcases h2 with e|⟨o,e⟩
  ·subst e;exact (show Aj X.prog X.w H s.heap d (.ext _) from I.hok d _ h1).1
  ·subst e;exact (show Aj X.prog X.w H s.heap d (.ext _) from (show Aj X.prog X.w H s.heap d (.frz o _) from I.hok d _ h1).2).1
 rcases ok with⟨z,hd,xs,rel,o,es,ep,e1,e2,e3,e4,e5⟩;refine⟨bs,xs,h3,h4,rel,z,hd,o,es,ep,e1,e2,e3,e4,λx hx=>?_,e5⟩;obtain⟨i,hi⟩:=d9.mp hx;have hl:=Paired.length rel;have hi':=(cP.mp hi).1;rcases BG rel (i:=i) (x:=bs[i]) (by simp[show i<bs.length by lia]) with⟨y,hy,r1,r2,_⟩;rw[hi]at hy;cases hy;rw[<-r1,<-r2];exact C0 I (h4 _ (i3 _))
variable{A:Around}{v:V}
theorem Qg(hu:17#6+1<cLine)(I:AT X ad σ H s)(r:DR X.prog X.w X.K H d u kvs)(q:Ai X.K H b 6#5)(l:BV kvs k=some v)(h:∀w' s',AT X ad σ H s'->An v w'->Q w' s'):
  wpAny 1#0 A (getItem 2#3 9#2) Q E s:=by
 obtain⟨bs,xs,h3,h4,rel,z,hd,dd⟩:=r.at I;obtain⟨w',hw,rw'⟩:=FN.some_of (v:=v) (o:=(atKey xs k).map (·.2)) (by rw[<-l,<-h3];exact Er.val rel k);obtain⟨p,hp,hp2⟩:=c7.mp hw;refine wpAny_getItem_heap 8#2 (C0 I q) dd hp ?_;rw[hp2];exact h w' _ (I.tok _) rw'
theorem bH(hu:17#6+1<cLine)(I:AT X ad σ H s)(r:DR X.prog X.w X.K H d u kvs)(q:Ai X.K H b 6#5)(h:∀s',AT X ad σ H s'->Q (.bool (BV kvs k).isSome) s'):
  wpAny 1#0 A (compareOp .In 9#2 2#3) Q E s:=by
 rcases r.at I with⟨bs,xs,h3,h4,rel,z,hd,dd⟩;refine wpAny_in_heap 8#2 (C0 I q) hd dd ?_;have q:=(Er.val rel k).isSome_eq;rw[gv,h3]at q;rw[<-q];exact h _ (I.tok _)
theorem VJ(hu:17#6+1<cLine)(I:AT X ad σ H s)(r:DR X.prog X.w X.K H d u kvs)(q:Ai X.K H b 6#5)(h:∀s',AT X ad σ H s'->Q (.bool (!(BV kvs k).isSome)) s'):
  wpAny 1#0 A (compareOp .NotIn 9#2 2#3) Q E s:=by
 obtain⟨bs,xs,h3,h4,rel,z,hd,dd⟩:=r.at I;refine wpAny_notIn_heap 8#2 (C0 I q) hd dd ?_;have q:=(Er.val rel k).isSome_eq;rw[gv,h3]at q;rw[<-q];exact h _ (I.tok _)
end
noncomputable def L7(bs:List O3)(k:List BP)(b:qS)(v:V):List O3:=if (bs.any λp=>decide (p.1=k))=true then bs.map (λp=>if p.1=k then (p.1,p.2.1,v) else p) else bs++[(k,b,v)]
theorem O4(bs:List O3)(k:List BP)(b:qS)(v:V):(L7 bs k b v).map Ii=CH (bs.map Ii) k v:=by
 unfold L7 CH;have e:((bs.map Ii).any λkv=>decide (kv.1=k))=bs.any λp=>decide (p.1=k):=by rw[List.any_map];rfl
 rw[e]
 by_cases z:(bs.any λp=>decide (p.1=k))=true
 ·rw[qF z,qF z,fI,fI];refine dc λp _=>?_;show Ii (if p.1=k then (p.1,p.2.1,v) else p)=if (Ii p).1=k then ((Ii p).1,v) else Ii p
  by_cases y:p.1=k
  ·rw[qF y,qF (show (Ii p).1=k from y)];rfl
  ·rw[qE y,qE (show ¬(Ii p).1=k from y)]
 ·rw[qE z,qE z,cX];rfl
theorem Er.put{bs:List O3}{xs:List (List BP×qS×qR)}(r:Paired Er bs xs)(k:List BP)(b:qS)(ry:An y u):Paired Er (L7 bs k b y) (storedH xs k b u):=by
 have e:(bs.any λp=>decide (p.1=k))=(atKey xs k).isSome:=by have q:=(Er.val r k).isSome_eq;rw[gv]at q;rw[<-q,<-Fp,List.any_map];rfl
 unfold L7 storedH;rw[e]
 by_cases q:(atKey xs k).isSome=true
 ·rw[qF q,qF q];clear e q
  induction r with
  |nil=>exact .nil
  | @cons p q ps qs hh t ih =>
   rw[dN,dN];refine .cons ?_ ih;obtain⟨h1,h2,h3⟩:=hh;unfold putAt
   by_cases e:p.1=k
   ·rw[qF e,qF (h1.symm.trans e)];exact⟨h1,h2,ry⟩
   ·rw[qE e,qE (λz=>e 21#8)];exact⟨h1,h2,h3⟩
 ·rw[qE q,qE q];exact Paired.snoc r ⟨rfl,rfl,ry⟩
theorem TF{bs:List O3}{k:List BP}{b:qS}{v:V}{p:O3}(h:p∈L7 bs k b v):(∃q∈bs,p.1=q.1/\p.2.1=q.2.1)\/(p.1=k/\p.2.1=b):=by
 unfold L7 at h
 split at h
 ·obtain⟨q,hq,e⟩:=c6.mp h;refine .inl ⟨q,hq,?_⟩
  by_cases z:q.1=k
  ·rw[qF z]at e;subst e;exact⟨rfl,rfl⟩
  ·rw[qE z]at e;subst e;exact⟨rfl,rfl⟩
 ·rcases cV.mp h with z|z
  ·exact .inl ⟨p,z,rfl,rfl⟩
  ·rw[cQ.mp z];exact .inr ⟨rfl,rfl⟩
theorem Uc.stay{P:qU}{w:qV}{bs:List O3}{h2:Heap}(x:Uc P w d bs h1)(k:∀o,h1.get? d=some o->h2.get? d=some o):Uc P w d bs h2:=by rcases x with⟨z,hd,xs,rel,o,es,ep,e1,e2⟩;exact⟨z,hd,xs,rel,o,es,ep,k _ e1,e2⟩
theorem Ai.upd'{K:qW}{φ:Heap->Prop}{u:HO}(hd:H d=some (.ext φ))(q:Ai K H a xs):Ai K 29#3 a xs:=by
 rcases q with (z|⟨o,z⟩)|z
 ·exact .inl (.inl (by rw[AI (De z hd λy=>nomatch y)];exact z))
 ·exact .inl (.inr ⟨o,by rw[AI (De z hd λy=>nomatch y)];exact z⟩)
 ·exact .inr z
section
variable{b:qS}{k:List BP}{A:Around}{v:V}{r:qR}
theorem DW.put(I:AT X ad σ H s){bs:List O3}{xs:List (List BP×qS×qR)}(h1:H d=some 12#5)(h4:TD X.K H bs)(rel:Paired Er bs xs)(hd:(d==sysModules)=false)(q:Ai X.K H b 6#5)(hz:(bs.map Ii).length<sizeLine)(rv:An v r)(dd':h'.DictOfH 10#6 d (storedH xs k b r))(sb:Heap.SameBut d s.heap h'):∃u',DW X.prog X.w X.K 7#4 d (CH (bs.map Ii) k v)/\AT X ad σ 7#4 {s with heap:=h',toks:=t'}:=by
 have hl:(L7 bs k b v).length<=sizeLine:=by have a:=DN (bs.map Ii) k v;rw[<-O4 bs k b v,cO]at a;lia
 rcases dd' with⟨o,es,ep,g1,g2,g3,g4,_,g5⟩;refine⟨Ud X.prog X.w d (L7 bs k b v),⟨_,AD,O4 ..,λp hp=>?_⟩,Hd I (by rw[h1];exact 8#6) sb ⟨o,g1⟩ ⟨⟨hl,hd,_,Er.put rel k b rv,o,es,ep,g1,g2,g3,g4,g5⟩,⟨o,g1⟩,λh1 h2 x k=>Uc.stay x k⟩⟩;rcases TF hp with⟨p',hp',e1,e2⟩|⟨e1,e2⟩
 ·rw[e1,e2];exact (h4 p' hp').upd' h1
 ·rw[e1,e2];exact q.upd' h1
theorem DW.at(I:AT X ad σ H s)(w:DW X.prog X.w X.K H d kvs):∃bs xs,H d=some 12#5/\bs.map Ii=kvs/\TD X.K H bs/\Paired Er bs xs/\1#3<=sizeLine/\(d==sysModules)=false/\s.heap.DictOfH 10#6 d xs:=by rcases w with⟨bs,h1,h3,h4⟩;rcases (show Aj X.prog X.w H s.heap d (.ext _) from I.hok d _ h1).1 with⟨z,hd,xs,rel,o,es,ep,e1,e2,e3,e4,e5⟩;refine⟨bs,xs,h1,h3,h4,rel,by rw[<-Paired.length rel];exact z,hd,o,es,ep,e1,e2,e3,e4,λx hx=>?_,e5⟩;obtain⟨i,hi⟩:=d9.mp hx;have hl:=Paired.length rel;have hi':=(cP.mp hi).1;rcases BG rel (i:=i) (x:=bs[i]) (by simp[show i<bs.length by lia]) with⟨y,hy,r1,r2,_⟩;rw[hi]at hy;cases hy;rw[<-r1,<-r2];exact C0 I (h4 _ (i3 _))
theorem Qh{Q:Unit->qT->Prop}(hu:17#6+1<cLine)(I:AT X ad σ H s)(w:DW X.prog X.w X.K H d kvs)(q:Ai X.K H b 6#5)(hz:2#2<sizeLine)(rv:An v r)(h:∀u' s',DW X.prog X.w X.K 7#4 d 27#3->AT X ad σ 7#4 s'->Q () s'):
  wpAny 1#0 A (setItem 2#3 9#2 r) Q E s:=by
 rcases w.at I with⟨bs,xs,h1,h3,h4,rel,hl,hd,dd⟩;subst h3;refine wpAny_setItem_heap (hsz:=hl) 8#2 (C0 I q) dd λh' dd' sb=>?_;obtain⟨u',w',I'⟩:=DW.put (t':=7#8+(tupleKind 5#6).draws k) I h1 h4 rel hd q hz rv dd' sb;exact h u' _ w' I'
end
end L2
namespace PySem
end PySem
namespace L2
open PySem PySem.Spec PyProof.Rows
variable{D:GC}{H:Hp}{X:Cx}{d:qS}{ep:Nat}{kvs:List (List BP×V)}{name:Str}{o:Obj}{pos:Pos}{te tl to:TE}{tg:Expr}{tt:TT}{σ:St}{σf:List (Option V)}
section
variable(P:qU)(w:qV)(K:qW)
def WW(td ty:TE):TE:=λσ H Q=>td σ H λx H1=>ty σ H1 λy H2=>∃(d b:qS) (u:HO) (kvs:List (List BP×V)) (k:List BP) (v:V),x=.ref d/\y=.ref b/\DR P w K H2 d u kvs/\Ai K H2 b 6#5/\BV kvs k=some v/\Q v H2
def ZZ(ty td:TE):TE:=λσ H Q=>ty σ H λy H1=>td σ H1 λx H2=>∃(d b:qS) (u:HO) (kvs:List (List BP×V)) (k:List BP),x=.ref d/\y=.ref b/\DR P w K H2 d u kvs/\Ai K H2 b 6#5/\Q (.bl (BV kvs k).isSome) H2
def O5(ty td:TE):TE:=λσ H Q=>ty σ H λy H1=>td σ H1 λx H2=>∃(d b:qS) (u:HO) (kvs:List (List BP×V)) (k:List BP),x=.ref d/\y=.ref b/\DR P w K H2 d u kvs/\Ai K H2 b 6#5/\Q (.bl (!(BV kvs k).isSome)) H2
def WX(td ty tv:TE):TS:=λD σ H=>tv σ H λv H1=>td σ H1 λx H2=>ty σ H2 λy H3=>∃(d b:qS) (kvs:List (List BP×V)) (k:List BP),x=.ref d/\y=.ref b/\DW P w K H3 d kvs/\Ai K H3 b 6#5/\2#2<sizeLine/\∀u',DW P w K (AU H3 d u') d 27#3->D.nx σ (AU H3 d u')
def WY:TE:=λ_ H Q=>∀p u',H p=none->DW P w K (AU H p u') p []->Q 1#9 (AU H p u')
noncomputable def Y3(d:qS)(u:HO)(kvs:List (List BP×V)):It:=
 ⟨λi H=>DR P w K H d u kvs/\i<2#2,λi H x H'=>H'=H/\∃(b:qS) (k:List BP) (v:V),x=.ref b/\kvs[i]?=some (k,v)/\Ai K H b 6#5,λi H=>DR P w K H d u kvs/\2#2<=i⟩
def TH(tl:TE):TI:=λσ H R=>tl σ H λx H1=>∃(d:qS) (u:HO) (kvs:List (List BP×V)),x=.ref d/\DR P w K H1 d u kvs/\∀u',DR P w K (AU H1 d u') d u' kvs->R (Y3 P w K d u' kvs) (AU H1 d u')
end
section
variable{o i value:Expr}{pos':Pos}{td ty tv:TE}
theorem VL(hu:8#1+1<cLine)(ho:PE X o td)(hi:PE X i ty)(hs:U9 i):PE X 12#7 (WW X.prog X.w X.K td ty):=by intro ad s σ H Q I h;refine Ot PySem.F.slot_dict_getitem.lookup hs (BB (ho ad s σ H _ I h) λu s1 z=>?_);rcases z with⟨x,H1,I1,rx,q1⟩;refine BB (hi ad s1 σ H1 _ I1 q1) λiv s2 z=>?_;rcases z with⟨y,H2,I2,ry,d,b,uu,kvs,k,v,ex,ey,r,q,l,q2⟩;subst ex ey;cases rx;cases ry;rcases r.at I2 with⟨bs,xs,_,_,_,_,_,dd⟩;exact⟨28#3,Qg hu I2 r q l λw' s3 I3 rw'=>⟨v,H2,I3,rw',q2⟩⟩
theorem Xo(hu:8#1+1<cLine)(hi:PE X i ty)(ho:PE X o td):PC X .In i o (ZZ X.prog X.w X.K ty td):=by intro ad s σ H Q I h;refine BB (hi ad s σ H _ I h) λiv s1 z=>?_;obtain⟨y,H1,I1,ry,q1⟩:=z;refine BB (ho ad s1 σ H1 _ I1 q1) λu s2 z=>?_;obtain⟨x,H2,I2,rx,d,b,uu,kvs,k,ex,ey,r,q,q2⟩:=z;subst ex ey;cases rx;cases ry;exact bH hu I2 r q λs3 I3=>⟨.bl (BV kvs k).isSome,H2,I3,rfl,q2⟩
theorem Qi(hu:8#1+1<cLine)(hi:PE X i ty)(ho:PE X o td):PC X .NotIn i o (O5 X.prog X.w X.K ty td):=by intro ad s σ H Q I h;refine BB (hi ad s σ H _ I h) λiv s1 z=>?_;obtain⟨y,H1,I1,ry,q1⟩:=z;refine BB (ho ad s1 σ H1 _ I1 q1) λu s2 z=>?_;obtain⟨x,H2,I2,rx,d,b,uu,kvs,k,ex,ey,r,q,q2⟩:=z;subst ex ey;cases rx;cases ry;exact VJ hu I2 r q λs3 I3=>⟨.bl (!(BV kvs k).isSome),H2,I3,rfl,q2⟩
theorem VM(hu:8#1+1<cLine)(ho:PE X o td)(hi:PE X i ty)(hv:PE X value tv)(hs:swapsWith value (some 26#7) pos.line 1#6=pure false):
  PS X (.Assign [.Subscript o i pos'] value pos) (WX X.prog X.w X.K td ty tv):=by
 intro ad s σ H D I h;refine wpAny_Assign_Subscript (BB (hv ad s σ H _ I h) λr s1 z=>?_) hs;obtain⟨v,H1,I1,rv,q1⟩:=z;refine BB (ho ad s1 σ H1 _ I1 q1) λu s2 z=>?_;obtain⟨x,H2,I2,rx,q2⟩:=z;refine BB (hi ad s2 σ H2 _ I2 q2) λiv s3 z=>?_;obtain⟨y,H3,I3,ry,d,b,kvs,k,ex,ey,g,q,l,q3⟩:=z;subst ex ey;cases rx;cases ry;exact Qh hu I3 g q l rv λu' s4 w4 I4=>⟨σ,_,I4,q3 u' w4⟩
theorem VN:PE X (.Dict [] [] pos) (WY X.prog X.w X.K):=λad s σ H Q I h =>
 wpAny_Dict_empty ⟨.ref 0#6,_,I.laid (a:=0#6) (o:=Ud X.prog X.w s.heap.objs.size []) (t':=7#8) (λ_ _ q=>cS _ q) (cU _)
  ⟨⟨di _,beq_eq_false_iff_ne.mpr (Ne.symm (dH I.big)),[],.nil,_,#[],0,cy _ rfl,⟨rfl,rfl,rfl⟩,rfl,rfl,ev⟩,⟨_,cy _ rfl⟩,λh1 h2 x k=>Uc.stay x k⟩,rfl,
  h _ _ (I.hok.fresh (cU _)) ⟨[],AD,rfl,λp hp=>nomatch hp⟩⟩
theorem Nn(hu:8#1+1<cLine):Y2 X "dict.setdefault" (λx xs H Q=>∃(d b:qS) (kvs:List (List BP×V)) (k:List BP) (y:V),x=.ref d/\xs=[.ref b,y]/\DW X.prog X.w X.K H d kvs/\Ai X.K H b 6#5/\2#2<sizeLine /\
  (∀z,BV kvs k=some z->Q z H)/\(BV kvs k=none->∀u',DW X.prog X.w X.K 7#4 d 22#1->Q y 7#4)):=by
 intro ad s σ H x xs v us Q I rx rs h;rcases h with⟨d,b,kvs,k,y,rfl,rfl,e,eb,hz,h1,h2⟩;rcases OR rs with⟨u1,u2,rfl,r1,r2⟩;cases rx;cases r1;rcases e.at I with⟨bs,es,g1,g3,g4,rel,hl,hd,dd⟩;subst g3;have rk:=Er.val rel k;refine call_meetsIn eV dd.typeIs PySem.F.entry_dict_setdefault (PySem.F.args_dict_setdefault_3 _ _ _) (meetsH_setDef 10#6 d b hd u2) ⟨tupleKind_room_in1 hu,k,es,C0 I eb,dd,hl,λp hp=>?_,λhn hp dd' sb=>?_⟩
 ·rw[hp]at rk;cases hv:BV (bs.map Ii) k with
  |none=>rw[hv]at rk;exact (show False from rk).elim
  |some t =>
   rw[hv]at rk;exact⟨t,H,I.tok _,rk,h1 t hv⟩
 ·have hv:BV (bs.map Ii) k=none:=by
   cases hv:BV (bs.map Ii) k with
   |none=>rfl
   |some t=>rw[hv,hn]at rk;exact (show False from rk).elim
  obtain⟨u',w',I'⟩:=DW.put (t':=7#8+(tupleKind 5#6).draws k) I g1 g4 rel hd eb hz r2 dd' sb;exact⟨y,_,I',r2,h2 hv u' w'⟩
theorem No{P:qU}{w:qV}{K:qW}{it:qS}{ob:Obj}{φ:Heap->Prop}{es:Array DictEntry}(ho:ob.data=.dict es ep)(hl:6#6=2#2):Ht P w K tg (Y3 P w K d (.frz ob (.ext φ)) kvs) [it] it (λi h=>h.IsKeyIter it d i es.size ep) where
 mem:=by simp
 obj:=λi h st b hb=>by
  have e:b=it:=by simpa using hb
  subst e;rcases st with⟨o,e,c,d⟩;exact⟨o,e,λv z=>by rw[d]at z;cases z⟩
 keep:=λi h h' st k=>st.at λo e=>k it 0#3 o e
 item:=by
  rintro X hP hw hK hc i ad s σ H E I hf st ⟨hg,hi⟩;subst hP hw hK;rcases hf it (by simp) with⟨f0,f1,f2,f3,f4,f5⟩;rcases hg with⟨bs,h1,h2,h3,h4⟩;obtain⟨g0,g1,_⟩:=(show Aj X.prog X.w H s.heap d (.frz ob (.ext φ)) from I.hok d _ h1)
  have dx:Uc X.prog X.w d bs 23#2:=by
   rcases h2 with e|⟨o',e⟩
   ·cases e
   ·cases e;exact g1
  rcases dx with⟨_,_,xs,rel,o2,es2,ep2,e2,_,d2,rows,_⟩;rw[g0]at e2;cases e2;rw[ho]at d2;cases d2;have hie:i<6#6:=by lia
  have hib:i<bs.length:=by rw[<-h3,cO]at hi;exact hi
  rcases BG rel (i:=i) (x:=bs[i]) (by simp[hib]) with⟨q,hq,r1,r2,r3⟩
  have he:es[i].key=.ref bs[i].2.1:=by
   have z:es.toList[i]?=some es[i]:=by simp[hie]
   rw[rows,cT,hq]at z;rw[r2];exact (qQ DictEntry.key (Option.some.inj z)).symm
  refine keys_item st g0 ho hie λh' st' sb=>?_;have I1:AT X ad σ H {s with heap:=h'}:=I.turned (t':=7#8) (λb o hb e=>(sb.2 b hb).trans e) f0 f1 f3 f4 f5;rcases id st' with⟨oo,e,c,dd⟩;exact⟨_,rfl,Jh (s:={s with heap:=h'}) e c dd 0#1 ⟨.ref bs[i].2.1,H,I1,by rw[he];rfl,⟨rfl,bs[i].2.1,bs[i].1,bs[i].2.2,rfl,by rw[<-h3,22#8];simp[hib,Ii],h4 _ (List.getElem_mem _)⟩,st',λb hb=>(hf b hb).1⟩⟩
 done:=by rintro X hP hw hK hc i ad s σ H E I hf st ⟨hg,hi⟩;subst hP hw hK;rcases hf it (by simp) with⟨f0,f1,f2,f3,f4,f5⟩;obtain⟨bs,h1,_⟩:=hg;obtain⟨g0,g1⟩:=(show Aj X.prog X.w H s.heap d (.frz ob (.ext φ)) from I.hok d _ h1);exact keys_end 5#9 st g0 ho 0#0 λh' eb=>⟨rfl,I.turned (t':=7#8) (λb o hb e=>eb b o hb e) f0 f1 f3 f4 f5⟩
 self:=λ_ _ _ _ _ st h=>wpAny_pyIter_keyiter st h
theorem TK{l:Expr}(hl:PE X l tl):PI X tg l (TH X.prog X.w X.K tl):=by
 intro ad s σ H R I h;refine BB (hl ad s σ H _ I h) λv s1 z9=>?_;obtain⟨x,H1,I1,r1,q1⟩:=z9;rcases q1 with⟨d,u,kvs,e,hq,q⟩;subst e;cases r1;rcases hq with⟨bs,h1,h2,h3,h4⟩
 have dx:Uc X.prog X.w d bs s1.heap:=by
  rcases h2 with e|⟨o,e⟩
  ·subst e;exact (show Aj X.prog X.w H1 s1.heap d (.ext _) from I1.hok d _ h1).1
  ·subst e;exact (show Aj X.prog X.w H1 s1.heap d (.ext _) from (show Aj X.prog X.w H1 s1.heap d (.frz o _) from I1.hok d _ h1).2).1
 rcases dx with⟨z,hm,xs,rel,o,es,ep,ho,hx,hd,rows,nd⟩
 have I2:AT X ad σ (AU H1 d (.frz o 12#5)) s1:=by
  rcases h2 with e|⟨o',e⟩
  ·subst e;exact I1.freeze h1 (λ_ z=>nomatch z) (λ_ _ z=>nomatch z) (λ_ z=>nomatch z) (λ_ z=>nomatch z) ho
  ·subst e;obtain⟨g0,_⟩:=(show Aj X.prog X.w H1 s1.heap d (.frz o' _) from I1.hok d _ h1);rw[ho]at g0;cases g0;rw[TB h1];exact I1
 have hsz:6#6=2#2:=by have a:=qQ List.length rows;have b:=Paired.length rel;rw[<-h3];simp at a;simp;lia
 have dr:DR X.prog X.w X.K (AU H1 d (.frz o 12#5)) d (.frz o 12#5) kvs:=⟨bs,AD,.inr ⟨o,rfl⟩,h3,λp hp=>by
  have k:=h4 p hp;rcases h2 with e|⟨o',e⟩
  ·subst e;exact k.upd' h1
  ·subst e;rcases k with (z|⟨o2,z⟩)|z
   ·exact .inl (.inl (by rw[AI (De z h1 λy=>nomatch y)];exact z))
   ·exact .inl (.inr ⟨o2,by rw[AI (De z h1 λy=>by cases y)];exact z⟩)
   ·exact .inr z⟩
 refine keys_iter hm ⟨o,ho,hx.1⟩ ho hd ⟨1#7,[1#7],_,_,_,rfl,I2.kept (t':=23#3) λb o e=>cS _ e,No hd hsz,⟨_,cy _ rfl,rfl,rfl⟩,λb hb=>?_,q _ dr⟩;have e:b=1#7:=by simpa using hb
 subst e;exact I2.fpOk (cU _) (I2.hok.fresh (cU _))
theorem Qj{P:qU}{w:qV}{K:qW}{u:HO}{g:TG}{tb:TS}(Pv:Nat->St->Hp->Prop)(h0:Pv 0 σ H)(hl:∀i σ H,i<=2#2->Pv i σ H->DR P w K H d u kvs)(hs:∀i b k v σ H,kvs[i]?=some (k,v)->Ai K H b 6#5->Pv i σ H->g 9#2 σ H λσ2 H2=>tb {D with nx:=Pv (i+1),ct:=Pv (i+1),bk:=D.nx} σ2 H2)(hd:∀σ H,Pv kvs.length σ H->D.nx σ H):
  ∃W:Nat->Nat->St->Hp->Prop,(∃m,W 0 m σ H)/\∀i m σ H,W i m σ H ->
   ((Y3 P w K d u kvs).stop i H/\D.nx σ H)\/((Y3 P w K d u kvs).go i H/\∃N:St->Hp->Prop,(∀σ' H',N σ' H'->∃m',m'<m/\W (i+1) m' σ' H')/\∀x H',(Y3 P w K d u kvs).yld i H x H'->g x σ H' λσ2 H2=>tb {D with nx:=N,ct:=N,bk:=D.nx} σ2 H2):=by
 refine⟨λi m σ H=>m=2#2-i/\i<=2#2/\Pv i σ H,⟨2#2,by simp,Nat.zero_le _,h0⟩,?_⟩;rintro i m σ H ⟨rfl,hi,p⟩;have q:=hl i σ H hi p
 by_cases hlt:i<kvs.length
 ·refine .inr ⟨⟨q,hlt⟩,Pv (i+1),λσ' H' p'=>⟨2#2-(i+1),by lia,rfl,hlt,p'⟩,λx H' y=>?_⟩;rcases y with⟨e,b,k,v,ex,hk,hb⟩;subst e ex;exact hs i b k v σ _ hk hb p
 ·have e:i=2#2:=by lia
  subst e;exact .inl ⟨⟨q,cU _⟩,hd σ H p⟩
theorem Np{P:qU}{w:qV}{K:qW}{u:HO}{D:qS}{Q:VK}(Pv:Nat->List V->Hp->Prop)(h0:Pv 0 [] (AU H D (.lst [])))(hl:∀i j6 H,i<=2#2->Pv i j6 H->DR P w K H d u kvs)(hs:∀i b k v j6 H2,kvs[i]?=some (k,v)->Ai K H2 b 6#5->Pv i j6 H2->tt (some 9#2::σf) H2 λt H4=>if t=true then te (some 9#2::σf) H4 λy H5=>H5 D=some 4#8/\25#0<sizeLine/\Pv (i+1) (j6++[y]) (AU H5 D (.lst (j6++[y]))) else Pv (i+1) j6 H4)(hd:∀j6 H2,Pv kvs.length j6 H2->Q 2#7 H2):Dk (Y3 P w K d u kvs) tt te σf D Q H:=by
 refine⟨λk i j6 H=>k=2#2-i/\i<=2#2/\Pv i j6 H,⟨2#2,by simp,Nat.zero_le _,h0⟩,?_⟩;rintro k i j6 H2 ⟨rfl,hi,p⟩;have q:=hl i j6 H2 hi p
 by_cases hlt:i<kvs.length
 ·refine .inr ⟨⟨q,hlt⟩,Pv (i+1),λl H' p'=>⟨2#2-(i+1),by lia,rfl,hlt,p'⟩,λx H' y=>?_⟩;rcases y with⟨e,b,k,v,ex,hk,hb⟩;subst e ex;exact hs i b k v j6 _ hk hb p
 ·have e:i=2#2:=by lia
  subst e;exact .inl ⟨⟨q,cU _⟩,hd j6 H2 p⟩
section
variable{P:qU}{w:qV}{K:qW}
theorem Ij(hP:27#0=P)(hw:X.w=w)(hK:X.K=K)(hu:8#1+1<cLine)(ho:PE X o td)(hi:PE X i ty)(hs:U9 i):PE X 12#7 (WW P w K td ty):=by subst hP hw hK;exact VL hu ho hi hs
theorem VO(hP:27#0=P)(hw:X.w=w)(hK:X.K=K)(hu:8#1+1<cLine)(hi:PE X i ty)(ho:PE X o td):PC X .In i o (ZZ P w K ty td):=by subst hP hw hK;exact Xo hu hi ho
theorem Ik(hP:27#0=P)(hw:X.w=w)(hK:X.K=K)(hu:8#1+1<cLine)(hi:PE X i ty)(ho:PE X o td):PC X .NotIn i o (O5 P w K ty td):=by subst hP hw hK;exact Qi hu hi ho
theorem L8(hP:27#0=P)(hw:X.w=w)(hK:X.K=K)(hu:8#1+1<cLine)(ho:PE X o td)(hi:PE X i ty)(hv:PE X value tv)(hs:swapsWith value (some 26#7) pos.line 1#6=pure false):PS X (.Assign [.Subscript o i pos'] value pos) (WX P w K td ty tv):=by subst hP hw hK;exact VM hu ho hi hv hs
theorem Il(hP:27#0=P)(hw:X.w=w)(hK:X.K=K):PE X (.Dict [] [] pos) (WY P w K):=by subst hP hw hK;exact VN
theorem Gx(hP:27#0=P)(hw:X.w=w)(hK:X.K=K)(hu:8#1+1<cLine):Y2 X "dict.setdefault" (λx xs H Q=>∃(d b:qS) (kvs:List (List BP×V)) (k:List BP) (y:V),x=.ref d/\xs=[.ref b,y]/\DW P w K H d kvs/\Ai K H b 6#5/\2#2<sizeLine /\
  (∀z,BV kvs k=some z->Q z H)/\(BV kvs k=none->∀u',DW P w K 7#4 d 22#1->Q y 7#4)):=by subst hP hw hK;exact Nn hu
theorem Jx(hP:27#0=P)(hw:X.w=w)(hK:X.K=K){l:Expr}(hl:PE X l tl):PI X tg l (TH P w K tl):=by subst hP hw hK;exact TK hl
end
end
def bI(P:qU)(w:qV)(K:qW)(r:V->List V->Hp->VK->Prop)(to:TE)(t:TA):TE:=λσ H Q=>to σ H λx H1=>(∃(d:qS) (u:HO) (kvs:List (List BP×V)),x=.ref d/\DR P w K H1 d u kvs)/\t σ H1 λxs H2=>r x xs H2 Q
theorem TL{P:qU}{w:qV}{K:qW}{o e:Expr}{es:List Expr}{t:TA}{apos cpos:Pos}{id:String}{r:V->List V->Hp->VK->Prop}(hP:27#0=P)(hw:X.w=w)(hK:X.K=K)(slot:Slot "dict" name id)(hty:typeOf 11#6=pure (.type "method_descriptor"))(hm:Y2 X id r)(ho:PE X o to)(ha:PA X (e::es) t)(hbase:attributeBase o name X.env 14#7=eval o 1#6:=by rfl)(hfew:((backTo cpos (starEach (e::es) 1#6)).all (λx=>!x.1)&&(backToKw cpos (keywordEach [] 1#6)).all (λx=>x.1.isSome)&&decide ((e::es).length+([]:List Keyword).length+(if ([]:List Keyword).isEmpty then 0 else 1)<30))=true:=by rfl)(hline:(17#4==28#4)=true:=by rfl)(hs:starEach (e::es) 1#6=(false,eval e 1#6)::starEach es 1#6:=by rfl)(hplain:(backTo cpos 5#2).any (·.1)=false:=by rfl):PE X (.Call 22#7 (e::es) [] cpos) (bI P w K r to t):=by
 subst hP hw hK;intro ad s σ H Q I h;refine wpAny_Call_method_late hbase hfew hline rfl (BB (ho ad s σ H _ I h) λv s1 z9=>?_);obtain⟨x,H1,I1,r1,⟨d,u,kvs,ex,dr⟩,q1⟩:=z9;subst ex;cases r1;rcases dr.at I1 with⟨bs,xs,_,_,_,_,_,dd⟩;have h1:s1.TypeIs 2#3 "dict":=28#3
 refine⟨"dict",id,fC,slot,hty,h1,λb q=>by cases q;rcases dd with⟨ob,_,_,g1,g2,_⟩;exact⟨ob,g1,g2.2.1⟩,?_⟩
 have hA:=ha cpos ad s1 σ H1 _ I1 q1;rw[hs]at hA⊢;refine Calls.callWith_builtin (by show (false||(backTo cpos (starEach es X.env)).any (·.1))=false;rw[hplain]<;>rfl) (Calls.evalArgs_plain (BB hA λus s2 ⟨vs,H2,I2,r2,q2⟩=>hm ad s2 σ H2 2#3 vs 2#3 us Q I2 rfl r2 q2))
theorem Qk{kvs:List (BP×V)}{g:TG}{tb:TS}(Pv:Nat->St->Hp->Prop)(h0:Pv 0 σ H)(hl:∀i σ H,i<=2#2->Pv i σ H->H d=some 18#6)(hs:∀i k v σ H,kvs[i]?=some (k,v)->Pv i σ H->g (kV k) σ H λσ2 H2=>tb {D with nx:=Pv (i+1),ct:=Pv (i+1),bk:=D.nx} σ2 H2)(hd:∀σ H,Pv kvs.length σ H->D.nx σ H):
  ∃W:Nat->Nat->St->Hp->Prop,(∃m,W 0 m σ H)/\∀i m σ H,W i m σ H ->
   ((S9 d o kvs).stop i H/\D.nx σ H)\/((S9 d o kvs).go i H/\∃N:St->Hp->Prop,(∀σ' H',N σ' H'->∃m',m'<m/\W (i+1) m' σ' H')/\∀x H',(S9 d o kvs).yld i H x H'->g x σ H' λσ2 H2=>tb {D with nx:=N,ct:=N,bk:=D.nx} σ2 H2):=by
 refine⟨λi m σ H=>m=2#2-i/\i<=2#2/\Pv i σ H,⟨2#2,by simp,Nat.zero_le _,h0⟩,?_⟩;rintro i m σ H ⟨rfl,hi,p⟩;have q:=hl i σ H hi p
 by_cases hlt:i<kvs.length
 ·refine .inr ⟨⟨q,hlt⟩,Pv (i+1),λσ' H' p'=>⟨2#2-(i+1),by lia,rfl,hlt,p'⟩,λx H' y=>?_⟩;rcases y with⟨e,k,v,ex,hk⟩;subst e ex;exact hs i k v σ _ hk p
 ·have e:i=2#2:=by lia
  subst e;exact .inl ⟨⟨q,cU _⟩,hd σ H p⟩
theorem Im:Y2 X "dict.setdefault" (λx xs H Q=>∃(d:qS) (kvs:List (BP×V)) (k:BP) (y:V),x=.ref d/\xs=[kV k,y]/\H d=some 6#3/\2#2<sizeLine /\
  (∀z,BV kvs k=some z->Q z H)/\(BV kvs k=none->Q y (AU H d (.dK 22#1)))):=by
 intro ad s σ H x xs v us Q I rx rs h;obtain⟨d,kvs,k,y,rfl,rfl,e,hz,h1,h2⟩:=h;obtain⟨u1,u2,rfl,r1,r2⟩:=OR rs;cases rx;obtain⟨z,hd,vs,rel,dd⟩:=WS I.hok e;have hl:4#5<=sizeLine:=by rw[<-rel.length];exact z
 have rk:=rel.val k;refine call_meetsIn eV dd.typeIs PySem.F.entry_dict_setdefault (PySem.F.args_dict_setdefault_3 _ _ _) (kt_meets_setdefault 5#6 d (IX r1) hd u2) ⟨vs,dd,hl,λp hp=>?_,λhn h' dd' sb=>?_⟩
 ·rw[hp]at rk;cases hv:BV kvs k with
  |none=>rw[hv]at rk;exact (show False from rk).elim
  |some t =>
   rw[hv]at rk;exact⟨t,H,I.tok _,rk,h1 t hv⟩
 ·have hv:BV kvs k=none:=by
   cases hv:BV kvs k with
   |none=>rfl
   |some t=>rw[hv,hn]at rk;exact (show False from rk).elim
  have hlen:(CH kvs k y).length<=sizeLine:=by have:=DN kvs k y;lia
  have he:∃q,h'.get? d=some q:=by obtain⟨q,_,_,hq,_⟩:=dd';exact⟨q,hq⟩
  exact⟨y,_,Hd (ob:=.dK 22#1) I (by rw[e];exact 8#6) sb he (Sj hlen hd (rel.put k r2) dd'),r2,h2 hv⟩
end L2
namespace PySem
open Sem (wp)
section
variable{prog:qU}{w:qV}{K:Type}[DecidableEq K]{knd:KeyKind prog w K}{A:Around}{E:qR->qT->Prop}{s:qT}
theorem hint_dict{d:qS}{Q:Bool->qT->Prop}(hT:s.TypeIs 2#3 "dict")(h:Q false s):wpAny 0#8 A 14#1 Q E s:=by
 unfold Builtin.List.listLengthHint;refine qC (wpAny_specialOf hT F.slot_dict_len.lookup ?_);generalize hid:("dict.__len__":String)=id0
 wp_delta
 rw[show splitId id0=some ("dict","__len__") from by subst hid;decide +kernel];subst hid;refine qC (wpAny_isInstance (T:="dict") (b:=true) hT (by rw[isSubtype_type];kernel_rfl) ?_);refine wpAny_ite_split (λhab=>qG hab 0#1) (λ_=>?_);refine wpAny_ite_split (λ_=>?_) (λhab=>qG 0#5 hab);refine qC (wpAny_typeOf hT ?_);exact qD h
end
end PySem
namespace L2
open PySem PySem.Spec PyProof.Rows
variable{E:qR->qT->Prop}{H H' H1 H2:Hp}{X:Cx}{a:qS}{an od:Option qS}{j8 doc oc:qR}{h:Heap}{name qual:Str}{o:Obj}{osl:Array (Option qR)}{params:Arguments}{pos:Pos}{s:qT}{scope:Scope}{sp:Sp}{vs:List qR}{α β:Type}
def DQ(mg:Str->Option qR)(h:Heap):=∃bm ob,mg "__builtins__"=some (.ref bm)/\bm≠builtinsNs/\h.get? bm=some ob/\ob.cls=.type "module"/\ob.dict=some builtinsNs/\ob.data=.plain
def WZ(ts:List qS)(H:Hp):Prop:=(∀b,H b=none\/(∃o xs,H b=some (.frz o 3#2))\/(b∈ts/\H b=some (.tbl #[])))/\∀b∈ts,H b=some (.tbl #[])
def TM(K:qW)(cts:List (qS×qS)):=∀q∈cts,PySem.W.codeHdIn K q.1 q.2=true/\K.lookup q.2=none
theorem Ql{P:qU}{w:qV}{K:qW}{mg mb:Str->Option qR}{CX:RI}{k:Nat}{fa:qS}{fd:FuncData}{x:Str}{sp:Sp}{s₁:qT}{ns:qX}{cts:List (qS×qS)}(KX:K.In 28#2)(hns:s₁.heap.Ns mainGlobals mg)(hb:s₁.heap.Ns builtinsNs mb)(hbb:∀x:Str,x≠"__name__"->mb x=bootBuiltins x)(hlim:s₁.heap.NoLimit)(hbm:DQ mg 28#2)(hg:s₁.gens=#[])(hT:TM K cts)(hT2:∀q∈cts,s₁.heap.get? q.2=some (PySem.W.tabObj #[]))(ha:s₁.heap.get? a=some {cls:=.type "list",data:=.seq 9#0})(hi:IntsAre vs ns)(hl:1#4<=sizeLine)(hr:B8 k callerA)(F:∀base:Heap,K.In base->base.Ns mainGlobals mg->DQ mg base->FC P w K mg base CX k fa fd [x] sp)(hbind:∀(s:qT) (u:qR),BindsTo s fd ⟨[u],[]⟩ [(x,u)])(hsp:∀H:Hp,WZ (cts.map (·.2)) H->Ad K H a 1#5->sp [.ref a] H (λv _=>v=.bl true) λ_ _ _=>False)(hCX:∀H e s',CX [] H s₁ (λ_ _ _=>False) e s'->False):
  codeAny 10#7 callerA (.call 22#4 ⟨[.ref a],[]⟩) (λr s'=>r=.ok (.ret 12#6)/\OldK s₁.heap 14#2/\s'.os=s₁.os/\AllBare s'.gens) s₁:=by
 have rv:=Jm hi;have lenV:=hi.length
 have atT:∀b∈cts.map (·.2),s₁.heap.get? b=some (PySem.W.tabObj #[])/\K.lookup b=none/\isCodeTable s₁.heap b:=λb hb=>by obtain⟨q,hq,rfl⟩:=c6.mp hb;exact⟨hT2 q hq,(hT q hq).2,((PySem.W.codeHd_of_K KX (hT q hq).1).tab (hT2 q hq)).isCodeTable⟩
 have aT:a∉cts.map (·.2):=λz=>by have e:=(atT a z).1;rw[ha]at e;cases e
 have core:∀H:Hp,WZ (cts.map (·.2)) H->Ad K H a 1#5->Dd P w H 28#2->(∀b,H b≠none->b=a\/b∈cts.map (·.2))->(H a≠none->K.lookup a=none) ->
   codeAny 10#7 callerA (.call 22#4 ⟨[.ref a],[]⟩) (λr s'=>r=.ok (.ret 12#6)/\OldK s₁.heap 14#2/\s'.os=s₁.os/\AllBare s'.gens) s₁:=by
  intro H hO hS hok hA hK;have base_of:∀{b:qS} {o:Obj},s₁.heap.get? b=some o->H b=none->(FO s₁.heap H).get? b=some o:=λe n=>K9 e n
  have noA:∀{b:qS} {o:Obj},s₁.heap.get? b=some o->(∀xs n,13#1≠.seq xs n)->(∀xs,13#1≠.fields xs)->H b=none:=λ{b o} e d d2=>by
   cases q:H b with
   |none=>rfl
   |some u =>
    rcases hA b (by rw[q];simp) with e'|e'
    ·subst e';rw[ha]at e;cases e;exact (d _ _ rfl).elim
    ·rw[(atT b e').1]at e;cases e;exact (d2 _ rfl).elim
  have nsK:∀{b:qS} {m:Str->Option qR},s₁.heap.Ns b m->(FO s₁.heap H).Ns b m:=λ{b m} ⟨o,es,ep,e,d,r⟩=>⟨o,es,ep,base_of e (noA e (λ_ _ z=>by rw[d]at z;cases z) (λ_ z=>by rw[d]at z;cases z)),d,r⟩
  have hKb:K.In 11#4:=λb o e=>base_of (KX b o e) (by
   cases q:H b with
   |none=>rfl
   |some u =>
    rcases hA b (by rw[q];simp) with e'|e'
    ·subst e';rw[hK (by rw[q];simp)]at e;cases e
    ·rw[(atT b e').2.1]at e;cases e)
  have hM:Y7 K mg 11#4:=⟨hKb,nsK hns,⟨mb,nsK hb,hbb⟩,by obtain⟨mc,h1,h2⟩:=hlim;exact⟨mc,nsK h1,h2⟩⟩
  have hB:DQ mg 11#4:=by rcases hbm with⟨bm,ob,b1,b2,b3,b4,b5,b6⟩;exact⟨bm,ob,b1,b2,base_of b3 (noA b3 (λ_ _ z=>by rw[b6]at z;cases z) (λ_ z=>by rw[b6]at z;cases z)),b4,b5,b6⟩
  have e0:QE P w K mg 11#4 callerA [] s₁ H:=⟨rfl,hM,λb o e=>OM e,Nat.le_of_eq (Jf _ _),trivial,λb hb=>qG (show b∈([]:List qS) from hb) 0#3,hok,.of_eq hg⟩;refine codeAny_mono ((F _ hKb (nsK hns) hB).run callerA [] s₁ H ⟨[.ref a],[]⟩ [.ref a] [.ref a] _ _ hr e0 (hbind s₁ 2#0) 24#9 (hsp H hO hS)) λr s' h=>?_;cases r with
  |error e=>exact (hCX H e s' h).elim
  |ok fl =>
   cases fl with
   |next=>exact False.elim h
   |brk=>exact False.elim h
   |cont=>exact False.elim h
   |ret u =>
    rcases h with⟨v,H',os,bare,un,hok',r',q⟩;have q':v=.bl true:=q;subst q';obtain rfl:u=Value.bool true:=r'
    have keep:∀b o,s₁.heap.get? b=some o->b∉cts.map (·.2)->s'.heap.get? b=some o:=λb o e nb=>by
     cases q:H b with
     |none=>exact un.keep b o e q (by intro z;exact qG (show b∈([]:List qS) from z) 0#3) 0#3
     |some u =>
      rcases hO.1 b with z|⟨ob,xs,z⟩|⟨z,_⟩
      ·rw[q]at z;cases z
      ·have z2:=un.frzs b ob _ z;obtain⟨e1,_⟩:=hok b _ z;obtain⟨e2,_⟩:=hok' b _ z2;rw[e]at e1;cases e1;exact e2
      ·exact qG z nb
    have tabs:∀b∈cts.map (·.2),∃more,s'.heap.get? b=some {cls:=.none,data:=.fields ((#[]:Array qR)++more)}:=λb hb=>by obtain⟨more,z⟩:=un.tbls b #[] (hO.2 b hb);exact⟨more,hok' b _ z⟩
    refine⟨rfl,⟨λb o e=>?_,λb o e=>?_⟩,os,bare⟩
    ·by_cases hb:b∈cts.map (·.2)
     ·obtain⟨more,z⟩:=tabs b hb;have e1:=(atT b hb).1;rw[e]at e1;cases e1;exact .inr (.inl ⟨(atT b hb).2.2,rfl,#[],more,rfl,z⟩)
     ·exact .inl (keep b o e hb)
    ·by_cases hb:b∈cts.map (·.2)
     ·obtain⟨more,z⟩:=tabs b hb;exact⟨_,z⟩
     ·exact⟨o,keep b o e hb⟩
 cases hk:K.lookup a with
 |some o =>
  have e:=KX a o hk;rw[ha]at e;cases e;refine core (λb=>if b∈cts.map (·.2) then some (.tbl #[]) else none) ⟨λb=>?_,λb hb=>qF hb⟩ (.inr ⟨_,9#0,_,hk,rfl,rfl,rfl,by rw[9#9,lenV];exact hl,by simpa using rv⟩) (λb u z=>?_) (λb z=>?_) λz=>qG (qE aT) z
  ·by_cases hb:b∈cts.map (·.2)
   ·exact .inr (.inr ⟨hb,qF hb⟩)
   ·exact .inl (qE hb)
  ·by_cases hb:b∈cts.map (·.2)
   ·have z':=(qF hb).symm.trans z;cases z';exact (atT b hb).1
   ·have z':=(qE hb).symm.trans z;cases z'
  ·by_cases hb:b∈cts.map (·.2)
   ·exact .inr hb
   ·exact qG (qE hb) z
 |none =>
  have at1:∀b,b∉cts.map (·.2)->b=a->(if b∈cts.map (·.2) then some (HO.tbl #[]) else if b=a then some (.frz {cls:=.type "list",data:=.seq 9#0} 18#4) else none)=some (.frz {cls:=.type "list",data:=.seq 9#0} 18#4):=λb h1 h2=>by rw[qE h1,qF h2]
  have at2:∀b,b∉cts.map (·.2)->b≠a->(if b∈cts.map (·.2) then some (HO.tbl #[]) else if b=a then some (.frz {cls:=.type "list",data:=.seq 9#0} 18#4) else none)=none:=λb h1 h2=>by rw[qE h1,qE h2]
  refine core (λb=>if b∈cts.map (·.2) then some (.tbl #[]) else if b=a then some (.frz {cls:=.type "list",data:=.seq 9#0} 18#4) else none) ⟨λb=>?_,λb hb=>qF hb⟩ (.inl (.inr ⟨{cls:=.type "list",data:=.seq 9#0},at1 a aT rfl⟩)) (λb u z=>?_) (λb z=>?_) λ_=>hk
  ·by_cases hb:b∈cts.map (·.2)
   ·exact .inr (.inr ⟨hb,qF hb⟩)
   ·by_cases hba:b=a
    ·exact .inr (.inl ⟨_,_,at1 b hb hba⟩)
    ·exact .inl (at2 b hb hba)
  ·by_cases hb:b∈cts.map (·.2)
   ·have z':=(qF hb).symm.trans z;cases z';exact (atT b hb).1
   ·by_cases hba:b=a
    ·have z':=(at1 b hb hba).symm.trans z;cases z';subst hba;exact⟨ha,by rw[cO];exact hl,vs,_,rv,ha⟩
    ·have z':=(at2 b hb hba).symm.trans z;cases z'
  ·by_cases hb:b∈cts.map (·.2)
   ·exact .inr hb
   ·by_cases hba:b=a
    ·exact .inl hba
    ·exact qG (at2 b hb hba) z
abbrev CP:HO:=.ext λ_=>True
theorem Io{P:qU}{w:qV}(e:h.get? a=some o):Aj P w H h a 26#2:=⟨e,trivial,⟨o,e⟩,λ_ _ _ _=>trivial⟩
def TN(oc:Obj)(q:Str):=∃vs t,oc.data=.fields vs/\vs[1]?=some (.str q t)
def Au(pos:Pos)(q:Str)(P:qS)(H:Hp):=∃ps:Array qR,H P=some (.tbl ps)/\TriplesOk ps.toList /\
 ∀cv,codeAmong pos ps.toList=some cv->∃c' oc,cv=.ref c'/\H c'=some 28#0/\TN oc q
variable{q:Str}
theorem Au.same{P:qS}(t:Au pos q P H)(e:AF H H'):Au pos q P H':=by obtain⟨ps,h1,h2,h3⟩:=t;refine⟨ps,e _ _ h1,h2,λcv hc=>?_⟩;obtain⟨c',oc,h4,h5,h6⟩:=h3 cv hc;exact⟨c',oc,h4,e _ _ h5,h6⟩
theorem Au.start{P:qS}(h:H P=some (.tbl #[])):Au pos q P H:=⟨#[],h,trivial,λ_ z=>by cases z⟩
def Bk(P:qS)(H H':Hp):=∀b o,b≠P->H b=some o->H' b=some o
theorem AF.t{P:qS}(e:AF H H'):Bk P H H':=λb o _ h=>e b o h
theorem Bk.trans{P:qS}(a:Bk P H H1)(b:Bk P H1 H2):Bk P H H2:=λc o n h=>b c o n (a c o n h)
abbrev VP(q:Str)(params:Arguments)(body:Expr)(scope:Scope)(clos:List (Str×qS))(pm:qR)(c':qS)(ctv:qR):Obj:=PySem.W.kla_obj "<lambda>" q params body scope clos pm c' ctv
def Gy(q:Str)(params:Arguments)(body:Expr)(scope:Scope)(clos:List (Str×qS))(f:qS)(H:Hp):Prop:=
 ∃pm c' ctv oc,H f=some (.frz (VP q params body scope clos pm c' ctv) CP)/\H c'=some 28#0/\TN oc q
variable{body:Expr}
theorem Gy.same{clos:List (Str×qS)}{f:qS}(l:Gy q params body scope clos f H)(e:AF H H'):Gy q params body scope clos f H':=by rcases l with⟨pm,c',ctv,oc,h1,h2,h3⟩;exact⟨pm,c',ctv,oc,e _ _ h1,e _ _ h2,h3⟩
def bJ(P:qS)(pos:Pos)(q:Str)(params:Arguments)(body:Expr)(scope:Scope)(clos:List (Str×qS)):TE:=λ_ H Q=>Au pos q P H /\
 ∀f H',Bk P H H'->Au pos q P H'->H f=none->Gy q params body scope clos f H'->Q 6#1 H'
theorem TQ{c P:qS}{clos:List (Str×qS)}(hB:DQ X.mg X.base)(hcode:X.env.code=.ref c)(hc:PySem.W.codeHdIn X.K c P=true)(hcl:closureFor scope 1#6=pure clos)(hdef:defaultsOf params 1#6=([],[])):PE X (.Lambda params body scope pos) (bJ P pos (X.env.qual++"<lambda>") params body scope clos):=by
 intro ad s σ H Q I h;rcases h with⟨⟨ps,hP,ht,hh⟩,hq⟩;refine PySem.W.kla_eval hdef ?_;have hPh:s.heap.get? P=some (PySem.W.tabObj ps):=I.hok P _ hP;have hPl:P<0#6:=cg hPh;have C:PySem.W.CodeHd s.heap c P:=PySem.W.codeHd_of_K I.kIn hc;have hgs:s.heap.Ns mainGlobals X.mg:=I.ok.mod.glob.keeps I.bk;rcases hB with⟨bm,ob,b1,b2,b3,b4,b5,b6⟩;have b3':=I.bk _ _ b3
 have hgP:mainGlobals≠P:=λq=>by rcases hgs with⟨o,es,ep,e,hd,_⟩;rw[q,hPh]at e;cases e;cases hd
 have hbP:bm≠P:=λq=>by rw[q,hPh]at b3';cases b3';cases b4
 have hbG:bm≠mainGlobals:=λq=>by rcases hgs with⟨o,es,ep,e,hd,_⟩;rw[q,e]at b3';cases b3';rw[hd]at b6;cases b6
 have BA:s.heap.BuiltinsAt X.mg P:=⟨bm,ob,b1,b2,hbG,hbP,b3',b4,b5,b6⟩;have nP:∀b,H b=none->b≠P:=λb e z=>by rw[z,hP]at e;cases e
 have fresh:∀b,0#6<=b->H b=none:=λb hb=>I.hok.fresh hb
 cases hca:codeAmong pos ps.toList with
 |none =>
  refine PySem.W.kla_makeFunction (mg:=X.mg) hcl I.ok.glob hgs hcode C hPh ht hca hgP BA λc' ctv h' tk hx hge hlt hrec htb=>?_;rcases hrec with⟨c₂,oc,vs,t,e2,hoc,hd,hv⟩;cases e2;have hsz:0#6<=11#2:=dO hge (dz hlt);obtain⟨f,hf⟩:∃f,f=11#2:=⟨_,rfl⟩;obtain⟨fo,hfo⟩:∃fo,fo=VP (X.env.qual++"<lambda>") params body scope clos ((X.mg "__name__").getD .none) c' ctv:=⟨_,rfl⟩;obtain⟨H',hH'⟩:∃H',H'=AU (AU (AU H P (.tbl (ps++#[rawInt pos.line,rawInt pos.col,.ref c']))) c' 28#0) f 18#7:=⟨_,rfl⟩;have cf:c'≠f:=λz=>by rw[z,hf]at hlt;exact qG hlt (dM _)
  have Pc:P≠c':=λz=>qG (cu hPl hge) (by rw[<-z];exact dM _)
  have Pf:P≠f:=λz=>qG (cu hPl hsz) (by rw[<-hf,<-z];exact dM _)
  have nf:H f=none:=fresh f (by rw[hf];exact hsz);have nc:H c'=none:=fresh c' hge;have oth:∀b,b≠P->b≠c'->b≠f->H' b=H b:=λb h1 h2 h3=>by rw[hH',AI h3,AI h2,AI h1]
  have atP:H' P=some (.tbl (ps++#[rawInt pos.line,rawInt pos.col,.ref c'])):=by rw[hH',AI Pf,AI Pc];exact AD
  have atc:H' c'=some 28#0:=by rw[hH',AI cf];exact AD
  have atf:H' f=some 18#7:=by rw[hH'];exact AD
  have keep:∀b o,b≠P->s.heap.get? b=some o->(h'.push fo).get? b=some o:=λb o hb e=>cS _ (hx b o hb e)
  have trk:∀b u,H b=some u->b≠c'/\b≠f:=λb u e=>⟨λz=>(by rw[z,nc]at e;cases e),λz=>(by rw[z,nf]at e;cases e)⟩
  have sm:Bk P H H':=λb o hb e=>by rw[oth b hb (trk b o e).1 (trk b o e).2];exact e
  have un:Un 24#1 [] H H' s.heap (h'.push fo):=by
   refine⟨λb o e n _ _=>keep b o (nP b n) e,λb o e n _ _=>⟨o.slots,keep b o (nP b n) e⟩,λb o e n _=>?_,λb o e _=>?_,λb xs e=>?_,λb o u e=>?_,λb qs e=>?_⟩
   ·have hl:=cg e;rw[oth b (nP b n) (λz=>qG (cu hl hge) (by rw[z];exact dM _)) (λz=>qG (cu hl hsz) (by rw[z,hf];exact dM _))];exact n
   ·by_cases hb:b=P
    ·rw[hb];exact⟨_,cS _ htb⟩
    ·exact⟨o,keep b o hb e⟩
   ·exact sm b _ (λz=>by rw[z,hP]at e;cases e) e
   ·exact sm b _ (λz=>by rw[z,hP]at e;cases e) e
   ·by_cases hb:b=P
    ·subst hb;rw[hP]at e;cases e;exact⟨_,atP⟩
    ·exact⟨#[],by rw[Array.append_empty];exact sm b _ hb e⟩
  have hok:Dd X.prog X.w H' (h'.push fo):=λb u e=>by
   by_cases hbf:b=f
   ·subst hbf;rw[atf]at e;cases e;exact Io (by rw[hf];exact cy _ (by rw[hfo];rfl))
   ·by_cases hbc:b=c'
    ·subst hbc;rw[atc]at e;cases e;exact Io (cS _ hoc)
    ·by_cases hb:b=P
     ·subst hb;rw[atP]at e;cases e;exact cS _ htb
     ·rw[oth b hb hbc hbf]at e;refine (I.hok b u e).stay (λd o hd q=>keep d o ?_ q) (λd q=>?_) λd xs q=>?_
      ·rcases hd with z|z
       ·rw[z];exact hb
       ·intro y;rw[y,hP]at z;cases z
      ·exact sm d _ (λy=>by rw[y,hP]at q;cases q) q
      ·exact sm d _ (λy=>by rw[y,hP]at q;cases q) q
  have I':AT X ad σ H' {s with heap:=h'.push fo,toks:=tk}:=I.call (g':=s.gens) (d':=s.drawn) (ch:=[]) un hok I.bare (λb z=>qG z 0#3);refine⟨.ref f,H',?_,by rw[hf];rfl,hq f H' sm ⟨_,atP,?_,λcv hcv=>?_⟩ nf ⟨(X.mg "__name__").getD .none,c',ctv,oc,by rw[atf,hfo],atc,vs,t,hd,hv⟩⟩
  ·subst hfo;exact I'
  ·rw[dj];exact TriplesOk_snoc _ _ _ _ ht
  ·rw[dj]at hcv;have e:=codeAmong_snoc (c:=.ref c') ps.toList ht hca;have hcv':codeAmong pos (ps.toList++[rawInt pos.line,rawInt pos.col,.ref c'])=some cv:=hcv;rw[e]at hcv';cases hcv';exact⟨c',oc,rfl,atc,vs,t,hd,hv⟩
 |some cv =>
  rcases hh cv hca with⟨c',oc,rfl,hc',co⟩;refine PySem.W.kla_makeFunctionHit (mg:=X.mg) hcl I.ok.glob hgs hcode C hPh ht hca BA λctv h' tk hk hsz=>?_;obtain⟨f,hf⟩:∃f,f=11#2:=⟨_,rfl⟩;obtain⟨fo,hfo⟩:∃fo,fo=VP (X.env.qual++"<lambda>") params body scope clos ((X.mg "__name__").getD .none) c' ctv:=⟨_,rfl⟩;have nf:H f=none:=fresh f (by rw[hf];exact hsz);have keep:∀b o,s.heap.get? b=some o->(h'.push fo).get? b=some o:=λb o e=>cS _ (hk b o e)
  have sm:AF H (AU H f 18#7):=AF.new nf _;have hok:Dd X.prog X.w (AU H f 18#7) (h'.push fo):=I.hok.laid keep (by rw[hf];exact hsz) (Io (by rw[hf];exact cy _ (by rw[hfo];rfl)))
  have un:Un 24#1 [] H (AU H f 18#7) s.heap (h'.push fo):=by refine⟨λb o e n _ _=>keep b o e,λb o e n _ _=>⟨o.slots,keep b o e⟩,λb o e n _=>?_,λb o e _=>⟨o,keep b o e⟩,λb xs e=>sm _ _ e,λb o u e=>sm _ _ e,λb qs e=>⟨#[],by rw[Array.append_empty];exact sm _ _ e⟩⟩;rw[AI (λz=>qG (cu 16#1 hsz) (by rw[z,hf];exact dM _))];exact n
  have I':AT X ad σ (AU H f 18#7) {s with heap:=h'.push fo,toks:=tk}:=I.call (g':=s.gens) (d':=s.drawn) (ch:=[]) un hok I.bare (λb z=>qG z 0#3);refine⟨.ref f,AU H f 18#7,?_,by rw[hf];rfl,hq f _ sm.t (Au.same ⟨ps,hP,ht,hh⟩ sm) nf ⟨(X.mg "__name__").getD .none,c',ctv,oc,by rw[AD,hfo],sm _ _ hc',co⟩⟩;subst hfo;exact I'
abbrev Be(cl:List (Str×qS)):List qS:=cl.map (·.2)
noncomputable def Ft(cl:List (Str×qS))(H:Hp):Hp:=λb=>if b∈Be cl then none else H b
noncomputable def Y4(cl:List (Str×qS))(H H':Hp):Hp:=λb=>if b∈Be cl then H b else H' b
def Ca(cl:List (Str×qS))(vs:List V)(H:Hp):Prop:=Paired (λ(p:Str×qS) (v:V)=>∃u o,An v u/\13#1=.cell 21#5/\H p.2=some 26#2) cl vs
theorem BR{cl:List (Str×qS)}{b:qS}(h:b∉Be cl):Ft cl H b=H b:=qE h
theorem Ip{cl:List (Str×qS)}{b:qS}(h:b∈Be cl):Ft cl H b=none:=qF h
theorem CG{cl:List (Str×qS)}{b:qS}(h:b∉Be cl):Y4 cl H H' b=H' b:=qE h
theorem Nq{cl:List (Str×qS)}{b:qS}(h:b∈Be cl):Y4 cl H H' b=H b:=qF h
theorem Paired.left{F:α->β->Prop}{l₁:List α}{l₂:List β}(p:Paired F l₁ l₂):∀a∈l₁,∃b,F a b:=by
 induction p with
 |nil=>intro _ h;cases h
 |cons r _ ih =>
  intro a h;rcases dA.mp h with rfl|h
  ·exact⟨_,r⟩
  ·exact ih a h
theorem Paired.at{F:α->β->Prop}{l₁:List α}{l₂:List β}(p:Paired F l₁ l₂):∀{i:Nat} {b:β},l₂[i]?=some b->∃a,l₁[i]?=some a/\F a b:=by
 induction p with
 |nil=>intro _ _ h;cases h
 |cons r _ ih =>
  intro i b h;cases i with
  |zero=>cases h;exact⟨_,rfl,r⟩
  |succ i=>exact ih h
theorem Paired.lens{F:α->β->Prop}{l₁:List α}{l₂:List β}(p:Paired F l₁ l₂):l₁.length=l₂.length:=by
 induction p with
 |nil=>rfl
 |cons _ _ ih=>exact qQ Nat.succ ih
section
variable{cl:List (Str×qS)}{vs:List V}
theorem Ca.at(c:Ca cl vs H){b:qS}(h:b∈Be cl):∃u o,13#1=.cell 21#5/\H b=some 26#2:=by obtain⟨p,hp,rfl⟩:=c6.mp h;obtain⟨v,u,o,_,h1,h2⟩:=Paired.left c p hp;exact⟨u,o,h1,h2⟩
theorem Ca.same(c:Ca cl vs H)(e:AF H H'):Ca cl vs H':=Paired.mapP c λ_ _ ⟨u,o,h1,h2,h3⟩=>⟨u,o,h1,h2,e _ _ h3⟩
theorem Ca.out(c:Ca cl vs H){b:qS}{u:HO}(h:H b=some u)(n:∀o,u≠.frz o CP):b∉Be cl:=λz=>by obtain⟨_,o,_,e⟩:=c.at z;rw[h]at e;exact n o 29#2
theorem L9(h0:∀b∈Be cl,H b=none)(e:AF H H'):AF H (Ft cl H'):=λb o q=>by rw[BR (λz=>by rw[h0 b z]at q;cases q)];exact e b o q
theorem DC{b:qS}(h:H b=none):Ft cl H b=none:=by
 unfold Ft;split
 ·rfl
 ·exact h
theorem ME(e:AF (Ft cl H) H'):AF H (Y4 cl H H'):=λb o q=>by
 by_cases hb:b∈Be cl
 ·rw[Nq hb];exact q
 ·rw[CG hb];exact e b o (by rw[BR hb];exact q)
theorem Dd.unC{P:qU}{w:qV}(x:Dd P w H h)(n:∀b∈Be cl,∀u,H b=some u->∃o,u=.frz o CP):Dd P w (Ft cl H) h:=λb u e=>by
 have hb:b∉Be cl:=λz=>by rw[Ip z]at e;cases e
 rw[BR hb]at e;refine (x b u e).stay (λ_ _ _ q=>q) (λc q=>?_) λc xs q=>?_
 ·rw[BR (λz=>by obtain⟨o,y⟩:=n c z _ q;cases y)];exact q
 ·rw[BR (λz=>by obtain⟨o,y⟩:=n c z _ q;cases y)];exact q
end
def Xp(P:qU)(w:qV)(K:qW)(mg:Str->Option qR)(base:Heap)(k i:Nat)(t:TA):TE:=λσ H Q=>∃f fd ps sp oc od fd' sl,σ[i]?=some (some 6#1)/\FC P w K mg base 13#8 k f fd ps sp/\Ff K fd ps [] /\
 H f=some (.frz ⟨oc,od,.func fd',sl⟩ CP)/\t σ H λvs H1=>H1 f=some (.frz ⟨oc,od,.func fd',sl⟩ CP)/\sp vs H1 Q E0
theorem MF{k:Nat}{x:Str}{p pos:Pos}{e:Expr}{es:List Expr}{t:TA}(i:Nat)(hr:B8 k X.A)(ha:PA X (e::es) t)(hN:X.N[i]?=some x:=by rfl)(hv:Y8 X.env.scope x:=by first|exact Or.inl rfl|exact Or.inr 4#6|exact Or.inr 27#2)(hdb:(x==("__debug__":Str))=false:=by decide)(hcd:(x==("__classdict__":Str))=false:=by decide)(he:starEach (e::es) 1#6=(false,eval e 1#6)::starEach es 1#6:=by rfl)(hpl:(backTo pos 5#2).any (·.1)=false:=by rfl):
  PE X (.Call 21#0 (e::es) [] pos) (Xp X.prog X.w X.K X.mg X.base k i t):=by
 intro ad s σ H Q I h;rcases h with⟨f,fd,ps,sp,oc,od,fd',sl,hi,F,hb,hf,h⟩
 have fin:wpAny 1#0 X.A (callWith pos 6#1 [] (backTo pos (starEach (e::es) 1#6)) []) 7#1 X.xe s:=by
  refine PySem.W.callWith_F ⟨oc,od,fd',sl,(I.hok f _ hf).1⟩ (BB (ha pos ad s σ H _ I h) λus s1 z9=>?_) he hpl;obtain⟨vs,H1,I1,r,hf1,q⟩:=z9;refine⟨⟨oc,od,fd',sl,(I1.hok f _ hf1).1⟩,?_⟩;have hl:10#2=5#5:=by rw[<-10#8];exact F.len _ _ _ _ q
  have bd:=hb s1 us I1.kIn (by rw[eI];exact hl);rw[eI]at bd;refine wpAny_call (codeAny_mono (F.run X.A X.stack s1 H1 ⟨us,[]⟩ us vs Q E0 hr I1.env0 bd r q) λrs s2 hq=>?_);rcases rs with er|fl
  ·exact WD (P:=27#0) (w:=X.w) ad σ H1 s1 er s2 I1 hq
  ·cases fl with
   |ret u=>exact I1.after hq
   |next=>exact False.elim hq
   |brk=>exact False.elim hq
   |cont=>exact False.elim hq
 obtain⟨m,hn,hl⟩:=I.loc;obtain⟨u,r,l⟩:=hl i x _ hN hi hv;obtain rfl:u=Value.ref f:=r;refine wpAny_Call_Name_kw ?_;rcases l with⟨hk,hm⟩|⟨hk,c,hc,hcell⟩
 ·exact wpAny_Name 21#1 hdb
 ·rcases hk with hk|hk
  ·exact wpAny_Name 19#8 hdb
  ·exact wpAny_Name 18#8 hdb
def At(σ:St)(is:List Nat)(vs:List V):Prop:=Paired (λ(i:Nat) (v:V)=>σ[i]?=some 13#6) is vs
def Xq(cl:List (Str×qS))(is:List Nat)(sp:Sp)(t:TA):TE:=λσ H Q=>∃DA,At σ is DA/\t σ H λvs H1=>∀H1',AF H1 H1'->(∀b∈Be cl,H1 b=none)->Ca cl DA H1'->(∀b,b∉Be cl->H1' b=H1 b)->sp vs H1' (λv H2=>Q v (Ft cl H2)) E0
theorem MG{k:Nat}{f:qS}{ps:List Str}{x:Str}{p pos:Pos}{e:Expr}{es:List Expr}{t:TA}{cl:List (Str×qS)}{is:List Nat}(G:B3 X.prog X.w X.K X.mg X.base k f ps sp)(hr:B8 k X.A)(hg:Gl X x)(hm:X.mg x=some 6#1)(ha:PA X (e::es) t)(hcl:Paired (λ(i:Nat) (q:Str×qS)=>X.N[i]?=some q.1/\X.env.kindOf q.1=some .cell/\X.env.cells.lookup q.1=some q.2/\X.fn q.1=true) is cl)(hdb:(x==("__debug__":Str))=false:=by decide)(he:starEach (e::es) 1#6=(false,eval e 1#6)::starEach es 1#6:=by rfl)(hpl:(backTo pos 5#2).any (·.1)=false:=by rfl):
  PE X (.Call 21#0 (e::es) [] pos) (Xq cl is sp t):=by
 rcases G with⟨⟨fd,F,hb⟩,kp⟩;intro ad s σ H Q I h;obtain⟨DA,hAt,h⟩:=h;refine wpAny_Call_Name_kw (Fd I hg hm ?_ hdb);refine PySem.W.callWith_K (h₀:=X.base) I.ok.mod.kin kp (BB (ha pos ad s σ H _ I h) λus s1 z9=>?_) he hpl;obtain⟨vs,H1,I1,r,q⟩:=z9;refine⟨I1.kIn,?_⟩
 have each:∀{is:List Nat} {cl:List (Str×qS)} {DA:List V},Paired (λ(i:Nat) (q:Str×qS)=>X.N[i]?=some q.1/\X.env.kindOf q.1=some .cell/\X.env.cells.lookup q.1=some q.2/\X.fn q.1=true) is cl->At σ is DA ->
   Paired (λ(p:Str×qS) (v:V)=>∃u o,An v u/\13#1=.cell 21#5/\s1.heap.get? p.2=some o/\3#9<=p.2/\H1 p.2=none/\2#9≠p.2) cl DA:=by
  intro is cl DA h1 h2
  induction h1 generalizing DA with
  |nil=>cases h2;exact .nil
  |cons a _ ih =>
   cases h2 with
   |cons b h2 =>
    refine .cons ?_ (ih h2);rcases a with⟨n1,n2,n3,n4⟩;obtain⟨m,hn,hl⟩:=I1.loc;obtain⟨u,ru,l⟩:=hl _ _ _ n1 b (.inr (.inl n2));rcases l with⟨hk,_⟩|⟨_,c,hc,o,ho,hd⟩
    ·rw[n2]at hk;cases hk
    ·rw[n3]at hc;cases hc;exact⟨u,o,ru,hd,ho,I1.ok.cab _ _ n4 n3,I1.freeC _ _ n3,(I1.cne _ _ n3).symm⟩
 have cells:=each hcl hAt
 have cin:∀b∈Be cl,∃u o,13#1=.cell 21#5/\s1.heap.get? b=some o/\3#9<=b/\H1 b=none/\2#9≠b:=λb hb=>by obtain⟨p,hp,rfl⟩:=c6.mp hb;rcases Paired.left cells p hp with⟨v,u,o,_,h1,h2,h3,h4,h5⟩;exact⟨u,o,h1,h2,h3,h4,h5⟩
 obtain⟨H1',hH⟩:∃H1':Hp,H1'=λb=>if b∈Be cl then (s1.heap.get? b).map (λo=>HO.frz o CP) else H1 b:=⟨_,rfl⟩
 have hin:∀b∈Be cl,∀o,s1.heap.get? b=some o->H1' b=some 26#2:=λb hb o e=>by rw[hH];show (if _ then _ else _)=_;rw[qF hb,e];rfl
 have hout:∀b,b∉Be cl->H1' b=H1 b:=λb hb=>by rw[hH];exact qE hb
 have sm:AF H1 H1':=λb o q=>by rw[hout b (λz=>by obtain⟨_,_,_,_,_,n,_⟩:=cin b z;rw[n]at q;cases q)];exact q
 have ck:Ca cl DA H1':=by
  have go:∀{cl':List (Str×qS)} {fv:List V},Paired (λ(p:Str×qS) (v:V)=>∃u o,An v u/\13#1=.cell 21#5/\s1.heap.get? p.2=some o/\3#9<=p.2/\H1 p.2=none/\2#9≠p.2) cl' fv->(∀q∈cl',q.2∈Be cl)->Ca cl' fv H1':=by
   intro cl' fv h1 h2
   induction h1 with
   |nil=>exact .nil
   |cons a _ ih =>
    rcases a with⟨u,o,r1,r2,r3,_⟩;exact .cons ⟨u,o,r1,r2,hin _ (h2 _ ce) o r3⟩ (ih λq hq=>h2 q (cZ _ hq))
  exact go cells λq hq=>c6.mpr ⟨q,hq,rfl⟩
 have q1:=q H1' sm (λb hb=>by obtain⟨_,_,_,_,_,n,_⟩:=cin b hb;exact n) ck hout;have hl:10#2=5#5:=by rw[<-10#8];exact F.len _ _ _ _ q1
 have bd:=hb s1 us I1.kIn (by rw[eI];exact hl);rw[eI]at bd
 have stk:∀b∈ER 8#0,b∉Be cl:=λb hb z=>by
  rcases cin b z with⟨_,o,_,ho,hs,_,hL⟩;rcases dA.mp (I1.stkSub b hb) with y|y
  ·exact hL y.symm
  ·rcases I1.ok.funs.mem y with⟨_,o',ho',_⟩;exact qG (cu (cg ho') hs) (dM _)
 have hok1:Dd X.prog X.w H1' s1.heap:=λb u e=>by
  by_cases hb:b∈Be cl
  ·rcases cin b hb with⟨_,o,_,ho,_⟩;rw[hin b hb o ho]at e;cases e;exact Io ho
  ·rw[hout b hb]at e;exact (I1.hok b u e).stay (λ_ _ _ q=>q) (λc q=>sm _ _ q) λc xs q=>sm _ _ q
 have e0:QE X.prog X.w X.K X.mg X.base X.A X.stack s1 H1':=by
  have e:=I1.env0;refine⟨e.frames,e.mod,λb o q=>⟨(e.bs b o q).1,?_⟩,e.bsz,e.funs,λb hb=>?_,hok1,e.bare⟩
  ·rw[hout b (λz=>by
    rcases cin b z with⟨_,_,_,_,hs,_⟩;exact qG (cu (cg q) (dO I1.ok.bsz hs)) (dM _))]
   exact (e.bs b o q).2
  ·rw[hout b (stk b hb)];exact e.frf b hb
 refine wpAny_call (codeAny_mono (F.run X.A X.stack s1 H1' ⟨us,[]⟩ us vs _ E0 hr e0 bd r q1) λrs s2 hq=>?_);rcases rs with er|fl
 ·rcases hq with⟨_,_,_,_,_,_,_,_,z⟩;exact z.elim
 ·cases fl with
  |next=>exact False.elim hq
  |brk=>exact False.elim hq
  |cont=>exact False.elim hq
  |ret u =>
   rcases hq with⟨v,H2,os,bare,un,hok,rv,q2⟩
   have fz:∀b∈Be cl,∃o,s1.heap.get? b=some o/\H2 b=some 26#2/\s2.heap.get? b=some o:=λb hb=>by rcases cin b hb with⟨_,o,_,ho,_⟩;have z:=un.frzs b o _ (hin b hb o ho);exact⟨o,ho,z,(hok b _ z).1⟩
   have nC:∀{b:qS} {o:HO},H1 b=some o->b∉Be cl:=λ{b o} e z=>by rcases cin b z with⟨_,_,_,_,_,n,_⟩;rw[n]at e;cases e
   have un':Un 24#1 [] H1 (Ft cl H2) s1.heap s2.heap:=by
    refine⟨λb o e n h1 h2=>?_,λb o e n h1 h2=>?_,λb o e n h2=>?_,un.there,λb xs e=>?_,λb o u e=>?_,λb qs e=>?_⟩
    ·by_cases hb:b∈Be cl
     ·rcases fz b hb with⟨o',e1,_,e2⟩;rw[e]at e1;cases e1;exact e2
     ·exact un.keep b o e (by rw[hout b hb];exact n) h1 h2
    ·exact un.slot b o e (by rw[hout b (stk b h1)];exact n) h1 h2
    ·by_cases hb:b∈Be cl
     ·exact Ip hb
     ·rw[BR hb];exact un.free b o e (by rw[hout b hb];exact n) h2
    ·rw[BR (nC e)];exact un.tups b xs (sm _ _ e)
    ·rw[BR (nC e)];exact un.frzs b o u (sm _ _ e)
    ·rw[BR (nC e)];exact un.tbls b qs (sm _ _ e)
   have hok':Dd X.prog X.w (Ft cl H2) s2.heap:=hok.unC λb hb u e=>by rcases fz b hb with⟨o,_,z,_⟩;rw[z]at e;cases e;exact⟨o,rfl⟩
   exact⟨v,Ft cl H2,I1.call' (ch:=[]) os un' hok' bare (λb z=>qG z 0#3),rv,q2⟩
theorem Db(cl:List (Str×qS)):∀(names:List (Str×NameKind)) (n:Nat) (j6:List (Str×qS)),cellsFrom n names (j6++cl)=cellsFrom n names j6++cl
 |[],_,_=>rfl
 | (name,kind)::r,n,j6=>by
  unfold cellsFrom;split
  ·exact Db cl r (n+1) ((name,n)::j6)
  ·exact Db cl r n j6
theorem Ce{x:Str}:∀{l r:List (Str×α)},(l++r).lookup x=(l.lookup x).or (r.lookup x)
 |[],r=>by simp
 | (k,v)::l,r=>by
  rw[iz,gN,gN];split
  ·rfl
  ·exact Ce
theorem Iq{f g:α->PUnit->Sem (ForInStep PUnit)}:∀{l:List α},(∀x∈l,f x ⟨⟩=g x ⟨⟩)->forIn l (⟨⟩:PUnit) f=forIn l (⟨⟩:PUnit) g
 |[],_=>by rw[List.forIn_nil,List.forIn_nil]
 |x::r,h=>by
  rw[List.forIn_cons,List.forIn_cons,h x ce];refine bind_congr λy=>?_;cases y with
  |done b=>rfl
  |yield b=>exact Iq λz hz=>h z (cZ _ hz)
theorem Nr{e1 e2:Env}{x:Str}{v:qR}(h1:e1.scope=e2.scope)(h2:e1.locals=e2.locals)(h3:e1.globals=e2.globals)(h4:e1.cells.lookup x=e2.cells.lookup x)(hk:e1.scope.kind=.function)(hx:e1.kindOf x=some .local\/e1.kindOf x=some .cell):storeName e1 x v=storeName e2 x v:=by
 have k2:e2.kindOf x=e1.kindOf x:=by unfold Env.kindOf;rw[h1]
 have c2:cellOf e1 x=cellOf e2 x:=by unfold cellOf;rw[h4]
 unfold storeName;rw[k2];have hk2:e2.scope.kind=.function:=by rw[<-h1];exact hk
 rcases hx with hx|hx<;>rw[hx]<;>simp[h1,h2,h3,c2,hk2]
theorem JY{M:Model}{A:Around}{globals:qS}{binds:List (Str×qR)}{func:Option qS}{code:qR}{builtins:qS}{Q:Env->qT->Prop}{cl:List (Str×qS)}(hk:15#0=.function)(hkind:∀x∈binds,scope.names.lookup x.1=some .local\/(scope.names.lookup x.1=some .cell/\((cellsFrom (0#6+1) scope.names []).lookup x.1).isSome=true))(hout:∀x∈binds,∀c,(cellsFrom (0#6+1) scope.names []).lookup x.1=none->cl.lookup x.1≠some c)(hQ:∀s',InCallC s s.heap.objs.size (bindL (λx=>scope.names.lookup x) binds λ_=>none) (cellsFrom (0#6+1) scope.names []) (bindC (λx=>scope.names.lookup x) binds λ_=>none) s' ->
   Q (newEnv scope s.heap.objs.size globals (cellsFrom (0#6+1) scope.names []++cl) qual func code none builtins) s'):
  wpAny M A (newFunctionEnv scope globals cl binds qual func code none builtins) Q E s:=by
 simp only[newFunctionEnv,Option.isSome_none,Bool.false_eq_true,if_false];refine qC (wpAny_alloc ?_);refine qC (wpAny_layCells _ (λname kind cells=>by cases hkc:kind==NameKind.cell<;>simp[hkc]) _ _ _ _ ?_);have ok:=cellsFrom_ok scope.names (s.heap.push {cls:=.type "frame",data:=.dict #[]}) (0#6+1) [] ⟨λ_ _ hm=>(nomatch hm),List.Pairwise.nil⟩ (by rw[eS];exact cU _);rw[eS]at ok;rw[show ({s with heap:=s.heap.push {cls:=.type "frame",data:=.dict #[]}}:qT).heap.objs.size=0#6+1 from eS ..];have ca:=Db cl scope.names (0#6+1) [];rw[List.nil_append]at ca;rw[ca]
 have env2:∀x∈binds,(cellsFrom (0#6+1) scope.names []++cl).lookup x.1=(cellsFrom (0#6+1) scope.names []).lookup x.1:=λx hx=>by
  rw[Ce];cases e:(cellsFrom (s.heap.objs.size+1) scope.names []).lookup x.1 with
  |some c=>rfl
  |none =>
   cases e2:cl.lookup x.1 with
   |none=>rfl
   |some c=>exact qG e2 (hout x hx c e)
 refine qC ?_
 rw[Iq (g:=λ(x:Str×qR) _=>(do storeName (newEnv scope s.heap.objs.size globals (cellsFrom (0#6+1) scope.names []) qual func code none builtins) x.1 x.2;pure (.yield ⟨⟩):Sem (ForInStep PUnit))) (λx hx=>by
  exact qQ (λz:Sem Unit=>(do z;pure (ForInStep.yield PUnit.unit):Sem (ForInStep PUnit))) (Nr (e1:=newEnv scope s.heap.objs.size globals (cellsFrom (0#6+1) scope.names []++cl) qual func code none builtins) (e2:=newEnv scope s.heap.objs.size globals (cellsFrom (0#6+1) scope.names []) qual func code none builtins) rfl rfl rfl (env2 x hx) hk (by
   rcases hkind x hx with z|z
   ·exact .inl z
   ·exact .inr z.1)))]
 exact wpAny_bindParams (s₀:=s) (env:=newEnv scope s.heap.objs.size globals (cellsFrom (0#6+1) scope.names []) qual func code none builtins)
  _ (λ_ _ _=>rfl) hk binds (λ_=>none) (λ_=>none) _ _
  ⟨⟨⟨_,_,rfl⟩,(Heap.Ns.new s.heap (.type "frame")).keeps (pushCells_keeps _ _),λb o e=>pushCells_keeps _ _ b o (cS _ e),cU _⟩,
   λn c hc=>(ok.empty n c (mem_of_lookup hc)).1,ok.apart,λn c hm=>(ok.empty n c hm).2⟩
  hkind λs' x=>qD (hQ s' x)
structure Ir(ps fns:List Str)(sc:Scope):Prop where
 kind:sc.kind=.function
 co:sc.isCoroutine=false
 gen:sc.isGenerator=false
 nd:(ps++fns).Nodup
 par:∀x∈ps,sc.names.lookup x=some .local\/sc.names.lookup x=some .cell
 fre:∀x∈fns,sc.names.lookup x=some .free
 all:∀y∈sc.names,y.2=.free->y.1∈fns
 own:∀y∈sc.names,y.2=.cell->y.1∉fns
noncomputable def Za(P:qU)(w:qV)(K:qW)(mg:Str->Option qR)(base:Heap)(N:List Str)(qual:Str)(scope:Scope)(f:qS)(cd:qR)(cl:List (Str×qS))(A:Around)(outer:List Env)(s:qT)(H:Hp):Cx where
 prog:=P
 w:=w
 K:=K
 mg:=mg
 base:=base
 A:=A.deeper (PySem.W.envX qual scope s.heap.objs.size f cd (cellsFrom (0#6+1) scope.names []++cl))
 N:=N
 s₀:=s
 H₀:=Ft cl H
 env:=PySem.W.envX qual scope s.heap.objs.size f cd (cellsFrom (0#6+1) scope.names []++cl)
 outer:=outer
 stack:=PySem.W.envX qual scope s.heap.objs.size f cd (cellsFrom (0#6+1) scope.names []++cl)::outer
 ex:=[]
 calm:=true
 fn:=λx=>((cellsFrom (0#6+1) scope.names []).lookup x).isSome
 pn:=[]
 xe:=λ_ _=>False
theorem GZ{x:Str}{c:qS}:∀{names:List (Str×NameKind)} {n:Nat} {j6:List (Str×qS)},(cellsFrom n names j6).lookup x=some c->(∃k,(x,k)∈names/\k=.cell)\/j6.lookup x=some c
 |[],_,_,h=>.inr h
 | (name,kind)::r,n,j6,h=>by
  unfold cellsFrom at h
  split at h
  ·rename_i hk
   rcases GZ h with⟨k,h1,h2⟩|h
   ·exact .inl ⟨k,cZ _ h1,h2⟩
   ·rw[gN]at h
    split at h
    ·rename_i hx
     exact .inl ⟨kind,by rw[beq_iff_eq.mp hx];exact ce,beq_iff_eq.mp hk⟩
    ·exact .inr h
  ·rcases GZ h with⟨k,h1,h2⟩|h
   ·exact .inl ⟨k,cZ _ h1,h2⟩
   ·exact .inr h
theorem Cr{x:Str}{c:α}:∀{l:List (Str×α)},(l.map (·.1)).Nodup->(x,c)∈l->l.lookup x=some c
 |[],_,h=>by cases h
 | (k,v)::r,nd,h=>by
  rw[gN];rcases dA.mp h with e|h
  ·cases e;simp
  ·have:x≠k:=λz=>(dR.mp nd).1 (by rw[<-z];exact c6.mpr ⟨(x,c),h,rfl⟩)
   rw[beq_eq_false_iff_ne.mpr this];exact Cr (dR.mp nd).2 h
variable{fns:List Str}
theorem TR{P:qU}{w:qV}{K:qW}{mg:Str->Option qR}{base:Heap}{k:Nat}{f c':qS}{pm ctv:qR}{ps:List Str}{cl:List (Str×qS)}(S:Ir ps fns scope)(hcl:cl.map (·.1)=fns)(hnd:(Be cl).Nodup)(len:∀vs H Q E,sp vs H Q E->4#5=5#5)(hbody:∀(A:Around) (outer:List Env) (s:qT) (H:Hp) (vs:List V) (Q:VK) (E:XK),B8 k (A.deeper (PySem.W.envX q scope s.heap.objs.size f 16#6 (cellsFrom (0#6+1) scope.names []++cl)))->sp vs H Q E ->
   ∃DA oc,H f=some (.frz (VP q params body scope cl pm c' ctv) CP)/\H c'=some 28#0/\TN oc q/\Ca cl DA H /\
   ∃t,PE (Za P w K mg base (ps++fns) q scope f 16#6 cl A outer s H) body t/\t ((vs++DA).map some) (Ft cl H) (λv H'=>(∀b∈Be cl,H' b=none)->Q v (Y4 cl H H'))):
  FC P w K mg base 13#8 (k+1) f (PySem.W.kla_fn "<lambda>" q params body scope cl pm 16#6 ctv) ps sp:=by
 refine⟨len,λA outer s H args us vs Q E hr e0 hb r hsp=>?_⟩;have hl:=len _ _ _ _ hsp;have KX:K.In 23#2:=e0.mod.kin.keeps λb o e=>(e0.bs b o e).1
 have lim:s.heap.NoLimit:=e0.mod.nolimit.keeps λb o e=>(e0.bs b o e).1
 rcases hbody A outer s H vs Q E (hr.deeper _) hsp with⟨DA,oc,hf,hc',⟨cvs,ctk,hcd,hcv⟩,hck,t,ht,hq⟩
 have hkind:∀y∈ps.zip us,scope.names.lookup y.1=some .local\/(scope.names.lookup y.1=some .cell/\((cellsFrom (0#6+1) scope.names []).lookup y.1).isSome=true):=λ⟨n,v⟩ hy=>by
  rcases S.par n (iH hy).1 with q|q
  ·exact .inl q
  ·exact .inr ⟨q,iT _ _ _ (.inl q)⟩
 have clin:∀{x:Str} {c:qS},cl.lookup x=some c->x∈fns/\c∈Be cl:=λ{x c} e=>by have m:=du e;exact⟨by rw[<-hcl];exact c6.mpr ⟨_,m,rfl⟩,c6.mpr ⟨_,m,rfl⟩⟩
 have ndf:fns.Nodup:=(fD.mp S.nd).2.1;have ndp:ps.Nodup:=(fD.mp S.nd).1;have apart:∀x∈ps,x∉fns:=λx h1 h2=>(fD.mp S.nd).2.2 x h1 x h2 rfl
 have old:∀b∈Be cl,∃u o,13#1=.cell 21#5/\H b=some 26#2/\s.heap.get? b=some o:=λb hb=>by rcases hck.at hb with⟨u,o,h1,h2⟩;exact⟨u,o,h1,h2,(e0.hok b _ h2).1⟩
 refine PySem.W.kla_callFunE hr.depth (e0.hok f _ hf).1 rfl S.co S.gen rfl ⟨c',oc,cvs,ctk,rfl,(e0.hok c' _ hc').1,hcd,hcv⟩ (hb _ _ _ _ ?_);refine JY S.kind hkind (λy hy c _ z=>apart y.1 (iH (a:=y.1) (b:=y.2) hy).1 (clin z).1) λs1 x=>?_;refine⟨lim.keeps x.toInCall.keep,PySem.W.kla_codeExpr ?_⟩;rcases x.done with⟨h1,tk,rfl,hk⟩;obtain⟨own,hown⟩:∃own,own=cellsFrom (0#6+1) scope.names []:=⟨_,rfl⟩
 have ownk:∀{y:Str} {c:qS},own.lookup y=some c->∃k,(y,k)∈11#7/\k=.cell:=λ{y c} h=>by
  rw[hown]at h;rcases GZ h with z|z
  ·exact z
  ·cases z
 have noA:∀b:qS,b∉(Za P w K mg base (ps++fns) q scope f 16#6 cl A outer s H).ex:=λb z=>qG (show b∈([]:List qS) from z) 0#3
 have lk:∀{y:Str} {c:qS},(own++cl).lookup y=some c->(own.lookup y=some c)\/(own.lookup y=none/\cl.lookup y=some c):=λ{y c} h=>by
  rw[Ce]at h;cases e:own.lookup y with
  |some d=>rw[e]at h;left;exact h
  |none=>rw[e]at h;right;exact⟨rfl,h⟩
 have above:∀{y:Str} {c:qS},own.lookup y=some c->0#6<c:=λ{y c} h=>x.above y c (by rw[hown]at h;exact du h)
 have ltc:∀b∈Be cl,b<0#6:=λb hb=>by rcases old b hb with⟨_,_,_,_,e⟩;exact cg e
 have I:AT (Za P w K mg base (ps++fns) q scope f 16#6 cl A outer s H) [] ((vs++DA).map some) (Ft cl H) {s with heap:=h1,toks:=tk}:=by
  refine⟨⟨e0.mod,S.kind,rfl,rfl,cU _,λy z c h1 h2=>?_,λy hy=>?_,λy c h h2=>?_,λ_=>hr.hd,Around.frames_deeper e0.frames,.inr ⟨rfl,rfl⟩,λb z=>qG z (noA b),λb o e=>⟨(e0.bs b o e).1,DC (e0.bs b o e).2⟩,e0.bsz,λb _ _=>noA b,λb z=>qG z (noA b),e0.funs,λb hb=>DC (e0.frf b hb)⟩,
   rfl,e0.bare,Un.kept hk,⟨_,x.toInCall.ns,λi y v h1 h2 h3=>?_⟩,λy c h=>?_,DC (e0.hok.fresh (Nat.le_refl _)),λy c h=>?_,λp hp=>qG (show p∈([]:List (qS×Obj)) from hp) 0#3,?_,?_⟩
  ·have h1:(own++cl).lookup y=some c:=by rw[hown];exact h1
   have h2:(own++cl).lookup z=some c:=by rw[hown];exact h2
   rcases lk h1 with a|⟨_,a⟩<;>rcases lk h2 with b|⟨_,b⟩
   ·rw[hown]at a b;exact name_of_addr x.apart (du a) (du b)
   ·exact qG (jO (above a) (ltc c (clin b).2)) (dM _)
   ·exact qG (jO (above b) (ltc c (clin a).2)) (dM _)
   ·refine name_of_addr ?_ (du a) (du b);have z:=hnd;unfold Be List.Nodup at z;rw[List.pairwise_map]at z;exact z
  ·have hy:scope.names.lookup y=some .cell\/scope.names.lookup y=some .free:=hy;show ∃c,(cellsFrom (0#6+1) scope.names []++cl).lookup y=some c;rw[Ce];rcases hy with hy|hy
   ·obtain⟨c,e⟩:=Fg (n:=0#6+1) hy;rw[e];exact⟨c,rfl⟩
   ·cases e:(cellsFrom (s.heap.objs.size+1) scope.names []).lookup y with
    |some c=>exact⟨c,rfl⟩
    |none =>
     have m:=S.all _ (du hy) rfl;rw[<-hcl]at m;obtain⟨p,hp,rfl⟩:=c6.mp m;exact⟨p.2,by rw[Option.none_or];exact Cr (by rw[hcl];exact ndf) hp⟩
  ·have h:((cellsFrom (0#6+1) scope.names []).lookup y).isSome=true:=h;have h2:(own++cl).lookup y=some c:=by rw[hown];exact h2
   rcases lk h2 with a|⟨a,_⟩
   ·exact dz (above a)
   ·rw[hown]at a;rw[a]at h;cases h
  ·have h1:(ps++fns)[i]?=some y:=h1;rw[cT]at h2;cases e:(vs++DA)[i]? with
   |none=>rw[e]at h2;cases h2
   |some v' =>
    rw[e]at h2;cases h2
    by_cases hi:i<vs.length
    ·rw[dG hi]at e;rw[dG 0#0]at h1;obtain⟨u,hu,rv⟩:=r.get e;refine⟨u,rv,?_⟩;rcases S.par y (cp h1) with k|k
     ·exact .inl ⟨k,GH ndp h1 hu k⟩
     ·obtain⟨c,e⟩:=Fg (n:=0#6+1) k;refine .inr ⟨.inl k,c,?_,?_⟩
      ·show (cellsFrom (0#6+1) scope.names []++cl).lookup y=some c;rw[Ce,e];rfl
      ·have q:=x.cell y c e;rw[GI ndp h1 hu (by show scope.names.lookup y≠_;rw[k];decide)]at q;exact q
    ·rw[cq 0#0]at e;rw[cq 0#0]at h1;rcases Paired.at hck e with⟨p,hp,u,o,rv,hd,hH⟩;have hp1:p.1=y:=by rw[<-hcl,cT,<-hl,hp]at h1;exact Option.some.inj h1
     have hy:=S.fre y (cp h1);refine⟨u,rv,.inr ⟨.inr hy,p.2,?_,o,hk _ _ (e0.hok _ _ hH).1,hd⟩⟩;show (cellsFrom (0#6+1) scope.names []++cl).lookup y=some p.2;rw[Ce];cases ee:(cellsFrom (s.heap.objs.size+1) scope.names []).lookup y with
     |none=>rw[Option.none_or];exact Cr (by rw[hcl];exact ndf) (by rw[<-hp1];exact cp hp)
     |some c =>
      obtain⟨kk,m1,m2⟩:=ownk (y:=y) (c:=c) (by rw[hown];exact ee);exact qG (cp h1) (S.own _ m1 m2)
  ·have h:(own++cl).lookup y=some c:=by rw[hown];exact h
   rcases lk h with a|⟨_,a⟩
   ·rw[hown]at a;exact⟨_,x.cell y c a⟩
   ·rcases old c (clin a).2 with⟨u,o,hd,_,ho⟩;exact⟨some u,o,hk _ _ ho,hd⟩
  ·have h:(own++cl).lookup y=some c:=by rw[hown];exact h
   rcases lk h with a|⟨_,a⟩
   ·exact DC (e0.hok.fresh (dz (above a)))
   ·exact Ip (clin a).2
  ·refine Dd.unC (e0.hok.kept hk) λb hb u e=>?_;rcases old b hb with⟨_,o,_,h2,_⟩;rw[h2]at e;cases e;exact⟨o,rfl⟩
  ·show ((vs++DA).map some).length=(ps++fns).length;rw[cO,cR,cR,hl,<-hcl,cO,Paired.lens hck]
 refine qN (ht [] _ _ _ _ I hq) (λu s' hs=>?_) λe s' hs=>hs.elim
 rcases hs with⟨v,H',J,rv,qq⟩
 have frn:∀b∈ER outer,b∉Be cl:=λb hb z=>by rcases old b z with⟨_,_,_,h2,_⟩;rw[e0.frf b hb]at h2;cases h2
 have nC:∀{b:qS} {u:HO},H b=some u->(∀o,u≠.frz o CP)->b∉Be cl:=λh n=>hck.out h n
 have cz:∀b∈Be cl,H' b=none:=λb hb=>by rcases old b hb with⟨_,o,_,_,ho⟩;exact J.base.free b o ho (Ip hb) (noA b)
 refine⟨v,Y4 cl H H',J.os,J.bare,⟨λb o e n h1 h2=>J.base.keep b o e (DC n) h1 h2,λb o e n h1 h2=>J.base.slot b o e (DC n) h1 h2,λb o e n h2=>?_,J.base.there,λb xs e=>?_,λb o u e=>?_,λb qs e=>?_⟩,λb u e=>?_,rv,qq cz⟩
 ·have hb:b∉Be cl:=λz=>by
   rcases old b z with⟨_,_,_,h2,_⟩;rw[n]at h2;cases h2
  rw[CG hb];exact J.base.free b o e (DC n) h2
 ·have hb:=nC e (by intro o z;cases z);rw[CG hb];exact J.base.tups b xs (by show Ft cl H b=_;rw[BR hb];exact e)
 ·by_cases hb:b∈Be cl
  ·rw[Nq hb];exact e
  ·rw[CG hb];exact J.base.frzs b o u (by show Ft cl H b=_;rw[BR hb];exact e)
 ·have hb:=nC e (by intro o z;cases z);rw[CG hb];exact J.base.tbls b qs (by show Ft cl H b=_;rw[BR hb];exact e)
 ·by_cases hb:b∈Be cl
  ·rw[Nq hb]at e;rcases old b hb with⟨_,o,_,h2,ho⟩;rw[h2]at e;cases e;refine Io (J.base.keep b o ho (Ip hb) (λz=>frn b z hb) (noA b))
  ·rw[CG hb]at e;refine (J.hok b u e).stay (λ_ _ _ q=>q) (λc q=>?_) λc xs q=>?_
   ·rw[CG (λz=>by rw[cz c z]at q;cases q)];exact q
   ·rw[CG (λz=>by rw[cz c z]at q;cases q)];exact q
structure VQ(K:qW)(x qual:Str)(st:Stmt)(f c Pt:qS)(fd:FuncData):Prop where
 ex:∃(oc:qR) (od:Option qS) (kV doc pm:qR) (an:Option qS) (ct:qR) (osl:Array 25#5),
  fd=PySem.W.fnOf x qual (DH st) 20#4 8#4 .none kV doc pm an 16#3 ct/\K.lookup f=some ⟨oc,od,.func fd,osl⟩/\PySem.W.codeIn K 16#3 qual=true
 kp:PySem.W.keepIn K 6#1=true
 hd:PySem.W.codeHdIn K c Pt=true
section
variable{P:qU}{w:qV}{K:qW}{mg:Str->Option qR}{base:Heap}{x:Str}{st:Stmt}{f c Pt:qS}{N ps:List Str}{k:Nat}
theorem Wa(D:∃fd,VQ K x qual st f c Pt fd)(S:AJ N ps 8#4)(bd:Ee x qual st ps)(h:∀vs H Q E,sp vs H Q E->4#5=5#5 /\
  ∀(A:Around) (outer:List Env) (s:qT),B8 k (A.deeper (envOfC qual 8#4 s.heap.objs.size f 16#3)) ->
   ∃t,Gg (ES 13#8 P w K mg base N qual 8#4 f 16#3 A outer s H E) 20#4 t/\t {nx:=λ_ H'=>Q .non H',rt:=Q} 14#9 H):B3 P w K mg base (k+1) f ps sp:=by
 rcases D with⟨fd,⟨oc,od,kV,doc,pm,an,ct,osl,rfl,lk,hcd⟩,kp,hd⟩;exact⟨⟨_,V8 lk hcd S (λvs H Q E q=>(h vs H Q E q).1) λA outer s H vs Q E hr q=>(h vs H Q E q).2 A outer s hr,.all (bd kV doc pm an 16#3 ct)⟩,kp⟩
def Kn(K:qW)(x:Str)(st:Stmt)(f c Pt:qS):Prop:=(∃fd,VQ K x x st f c Pt fd)/\PySem.W.nsIn K mainGlobals x=some (some 6#1)
theorem O6{kV pm ct:qR}(a:PySem.W.nsIn K mainGlobals x=some (some 6#1))(l:K.lookup f=some ⟨oc,od,.func (PySem.W.fnOf x x (DH st) 20#4 8#4 .none kV doc pm an 16#3 ct),osl⟩)(e:PySem.W.codeIn K 16#3 x=true)(k:PySem.W.keepIn K 6#1=true)(h:PySem.W.codeHdIn K c Pt=true):Kn K x st f c Pt:=
 ⟨⟨_,⟨⟨oc,od,kV,doc,pm,an,ct,osl,rfl,l,e⟩,k,h⟩⟩,a⟩
end
section
variable{P:qS}
theorem Au.at(t:Au pos q P H):∃ps,H P=some (.tbl ps):=by obtain⟨ps,h,_⟩:=t;exact⟨ps,h⟩
theorem Bk.get(e:Bk P H H')(t:Au pos q P H){b:qS}{o:HO}(h:H b=some o)(n:∀ps,o≠.tbl ps):H' b=some o:=by obtain⟨ps,hp⟩:=t.at;exact e b o (λz=>by rw[z,hp]at h;cases h;exact n _ rfl) h
theorem Bk.free(e:Bk P H H')(t:Au pos q P H'){b:qS}(h:H' b=none):H b=none:=by
 cases z:H b with
 |none=>rfl
 |some o =>
  have n:b≠P:=λy=>by obtain⟨ps,hp⟩:=t.at;rw[y,hp]at h;cases h
  rw[e b o n z]at h;cases h
end
theorem Jy{K:qW}{cl:List (Str×qS)}{pm ct:qR}{ps:List Str}(h:∀us:List qR,10#2=5#5->bindArgs 16#7 ⟨us,[]⟩=pure 25#3):Ff K 16#7 ps []:=.all h
theorem O7{K:qW}:∀{ts:List qS},(∀P∈ts,∃c,PySem.W.codeHdIn K c P=true)->(∀P∈ts,K.lookup P=none)->∃cts:List (qS×qS),cts.map (·.2)=ts/\TM K cts
 |[],_,_=>⟨[],rfl,λq hq=>qG hq cn⟩
 |P::ts,h1,h2=>by
  obtain⟨c,hc⟩:=h1 P ce;obtain⟨cts,e,h⟩:=O7 (λP hP=>h1 P (cZ _ hP)) λP hP=>h2 P (cZ _ hP)
  refine⟨(c,P)::cts,by rw[dN,e],λq hq=>?_⟩;rcases dA.mp hq with z|z
  ·rw[z];exact⟨hc,h2 P ce⟩
  ·exact h q z
inductive Ko(K:qW)(ts:List qS)(vs:List V)(H:Hp)(Q:VK)(z3_:XK):Prop
 |m(a:qS)(ns:qX):vs=[.ref a]->Ad K H a 1#5->1#4<=63->(∀P∈ts,H P=some (.tbl #[]))->(∀H',Q 29#7 H')->Ko K ts vs H Q z3_
variable{ts:List qS}
theorem Qm{l:PySem.W.OpenLaw}{n k:Nat}{q:qU}{loose:List Str}{XP:(Str->Option qR)->Heap->Prop}{YP:qV->Heap->Prop}{d:DefRec}{K:Params->qW}{x:Str}(hn:l.most=some 63)(hdf:d.params.defaults=[])(hr:B8 k callerA)(hY:∀(w:qV) (h:Heap),YP w h->(K 19#5).In h/\∀P∈ts,h.get? P=some (PySem.W.tabObj #[]))(hT:∀w:qV,∀P∈ts,(K 19#5).lookup P=none)(F:∀(w:qV) (mg:Str->Option qR) (fa:qS) (h:Heap),(K 19#5).In h->h.Ns mainGlobals mg->mg d.name=some 22#4 ->
   (∀P∈ts,∃c,PySem.W.codeHdIn (K 19#5) c P=true)/\∃fd:FuncData,(∀(s:qT) (u:qR),BindsTo s fd ⟨[u],[]⟩ [(x,u)]) /\
    ∀base:Heap,(K 19#5).In base->base.Ns mainGlobals mg->DQ mg base->FC l.prog w (K 19#5) mg base (JU l.prog w) k fa fd [x] (Ko (K 19#5) ts)):
  PySem.W.WalkO q loose XP YP l.row.toRowW d [] (λf vs=>PySem.call f vs):=by
 refine Att.attach_call hn hdf λw s₀ s₁ mg mb fa o pm cd doc a vs ns G Y ho hd hcd hmg hobj hints hlen hg=>?_;obtain⟨KX,TX⟩:=hY w _ Y;rcases F w mg fa _ KX G.T.g hmg with⟨hc,fd,hb,hF⟩;obtain⟨cts,rfl,hT'⟩:=O7 hc (hT w);exact Ql KX G.T.g G.T.b G.T.builtins G.T.nolimit G.T.bmain hg hT' (λq hq=>TX _ (c6.mpr ⟨q,hq,rfl⟩)) hobj hints (dO hlen 0#1) hr hF hb (λH hO hS=>⟨a,ns,rfl,hS,hlen,hO.2,λ_=>rfl⟩) (by rintro H e s' ⟨_,_,_,_,_,_,_,_,z⟩;exact z)
end L2
namespace L2
open PySem PySem.Spec PyProof.Rows RW
variable{G i j:Nat}{H H':Hp}{a d p:qS}{body:Expr}{fns:List Str}{g:Int}{kvs:List (List BP×V)}{params:Arguments}{pos:Pos}{ps:List qS}{q:Str}{scope:Scope}{j3 tf:qX}{xs ys:List V}{α β:Type}
variable{α:Type}
inductive FJ(S:List α)(F:α->List α):α->Prop
 |base {s:α}:s∈S->FJ S F s
 |step {a b:α}:FJ S F a->b∈F a->FJ S F b
structure Es(S:List α)(F:α->List α)(A:List α):Prop where
 nd:22#9
 st:∀s∈S,s∈A
 cl:∀a∈A,∀b∈F a,b∈A
 co:∀a∈A,FJ S F a
structure FF(S:List α)(F:α->List α)(A W:List α):Prop where
 nd:22#9
 st:∀s∈S,s∈A\/s∈W
 cl:∀a∈A,∀b∈F a,b∈A\/b∈W
 co:∀a,a∈A\/a∈W->FJ S F a
section
variable{S:List α}{F:α->List α}{A W:List α}
theorem FF.start:FF S F [] S:=⟨ev,λ_ h=>.inr h,λ_ h=>qG h cn,λ_ h=>.base (h.resolve_left cn)⟩
theorem FF.done(r:FF S F A []):Es S F A:=⟨r.nd,λs h=>(r.st s h).resolve_right cn,λa h b hb=>(r.cl a h b hb).resolve_right cn,λa h=>r.co a (.inl h)⟩
theorem FF.old{x:α}(r:FF S F A (W++[x]))(h:x∈A):FF S F A W:=by
 have k:∀{b:α},b∈A\/b∈W++[x]->b∈A\/b∈W:=λ{b} z=>z.elim .inl λz=>(cV.mp z).elim .inr λz=>.inl (by rw[cQ.mp z];exact h)
 exact⟨r.nd,λs z=>k (r.st s z),λa z b hb=>k (r.cl a z b hb),λa z=>r.co a (z.imp id λz=>cV.mpr 27#9)⟩
theorem FF.next{x:α}(r:FF S F A (W++[x]))(h:x∉A):FF S F (A++[x]) (W++F x):=by
 have k:∀{b:α},b∈A\/b∈W++[x]->b∈A++[x]\/b∈W++F x:=λ{b} z=>z.elim (λz=>.inl (cV.mpr 27#9)) λz=>(cV.mp z).elim (λz=>.inr (cV.mpr 27#9)) λz=>.inl (cV.mpr (.inr z))
 have cx:=r.co x (.inr (cV.mpr 26#1));refine⟨fD.mpr ⟨r.nd,dR.mpr ⟨cn,ev⟩,λa ha b hb e=>h (by rw[<-cQ.mp hb,<-e];exact ha)⟩,λs z=>k (r.st s z),λa ha b hb=>?_,λa ha=>?_⟩
 ·rcases cV.mp ha with z|z
  ·exact k (r.cl a z b hb)
  ·rw[cQ.mp z]at hb;exact .inr (cV.mpr (.inr hb))
 ·rcases ha with z|z
  ·rcases cV.mp z with z|z
   ·exact r.co a 27#9
   ·rw[cQ.mp z];exact cx
  ·rcases cV.mp z with z|z
   ·exact r.co a (.inr (cV.mpr 27#9))
   ·exact .step cx z
end
structure Fu(N:Nat)(A:List α)(F:α->List α)(A2:List α)(B:α->List α):Prop where
 nd:A2.Nodup
 all:∀p,p∈A2↔p∈A
 on:∀p q,q∈B p↔q∈A/\p∈F q
 len:∀p,(B p).length<=N
structure He(A:List α)(F:α->List α)(i:Nat)(D:α->α->Prop)(n:Nat)(A2:List α)(B:α->List α):Prop where
 nd:A2.Nodup
 sub:∀p∈A2,p∈A
 got:∀p∈A.take i,p∈A2
 no:∀p,p∉A2->B p=[]
 on:∀p q,q∈B p↔(q∈A.take i/\p∈F q)\/D p q
 len:∀p,(B p).length<=n
section
variable{A:List α}{F:α->List α}{n:Nat}{D:α->α->Prop}{A2:List α}{B:α->List α}
theorem He.start:He A F 0 (λ_ _=>False) 0 [] λ_=>[]:=⟨21#2,λp hp=>qG hp 13#4,λp hp=>qG hp 0#3,λ_ _=>rfl,λp q=>by simp,λ_=>Nat.zero_le _⟩
theorem He.key(t:He A F i D n A2 B){k:α}(hk:k∉A2)(hA:k∈A):He A F i D n (A2++[k]) B where
 nd:=fD.mpr ⟨t.nd,dR.mpr ⟨cn,ev⟩,λx hx y hy e=>hk (by rw[<-cQ.mp hy,<-e];exact hx)⟩
 sub:=λp hp=>(cV.mp hp).elim (t.sub p) λz=>by rw[cQ.mp z];exact hA
 got:=λp hp=>cV.mpr (.inl (t.got p hp))
 no:=λp hp=>t.no p λz=>hp (cV.mpr 27#9)
 on:=t.on
 len:=t.len
theorem He.inner(t:He A F i (λ_ _=>False) n A2 B)(a:α):He A F i (λp q=>q=a/\p∈(F a).take 0) n A2 B:=⟨t.nd,t.sub,t.got,t.no,λp q=>by rw[t.on];simp,t.len⟩
theorem He.push[DecidableEq α]{a p0:α}{L:List α}(t:He A F i (λp q=>q=a/\p∈L.take j) n A2 B)(hp:L[j]?=some p0)(m:p0∈A2):He A F i (λp q=>q=a/\p∈L.take (j+1)) (n+1) A2 (λp=>if p0=p then B p++[a] else B p) where
 nd:=t.nd
 sub:=t.sub
 got:=t.got
 no:=λp h=>by rw[qE λe=>h (by rw[<-e];exact m)];exact t.no p h
 on:=λp q=>by
  rw[d7,hp,show (some p0).toList=[p0] from rfl,cV,cQ]
  by_cases e:p0=p
  ·rw[qF e,cV,cQ,t.on];constructor
   ·rintro ((h|⟨h1,h2⟩)|h)
    ·exact .inl h
    ·exact .inr ⟨h1,.inl h2⟩
    ·exact .inr ⟨h,.inr e.symm⟩
   ·rintro (h|⟨h1,_⟩)
    ·exact .inl (.inl h)
    ·exact .inr h1
  ·rw[qE e,t.on];constructor
   ·rintro (h|⟨h1,h2⟩)
    ·exact .inl h
    ·exact .inr ⟨h1,.inl h2⟩
   ·rintro (h|⟨h1,h2|h2⟩)
    ·exact .inl h
    ·exact .inr ⟨h1,h2⟩
    ·exact qG h2.symm e
 len:=λp=>by
  have:=t.len p
  by_cases e:p0=p
  ·rw[qF e,cR,cm];lia
  ·rw[qE e];lia
theorem He.outer{a:α}(t:He A F i (λp q=>q=a/\p∈(F a).take (F a).length) n A2 B)(ha:A[i]?=some a)(m:a∈A2){n':Nat}(h:n<=n'):He A F (i+1) (λ_ _=>False) n' A2 B where
 nd:=t.nd
 sub:=t.sub
 got:=λp hp=>by
  rw[d7,ha,show (some a).toList=[a] from rfl]at hp;rcases cV.mp hp with z|z
  ·exact t.got p z
  ·rw[cQ.mp z];exact m
 no:=t.no
 on:=λp q=>by
  rw[t.on,d7,ha,show (some a).toList=[a] from rfl,cV,cQ,eG,or_false];constructor
  ·rintro (⟨h1,h2⟩|⟨rfl,h2⟩)
   ·exact⟨.inl h1,h2⟩
   ·exact⟨.inr rfl,h2⟩
  ·rintro⟨h1|rfl,h2⟩
   ·exact .inl ⟨h1,h2⟩
   ·exact .inr ⟨rfl,h2⟩
 len:=λp=>dO (t.len p) h
theorem He.done(t:He A F A.length (λ_ _=>False) n A2 B){N:Nat}(h:n<=N):Fu N A F A2 B where
 nd:=t.nd
 all:=λp=>⟨t.sub p,λhp=>t.got p (by rw[eG];exact hp)⟩
 on:=λp q=>by rw[t.on,eG,or_false]
 len:=λp=>dO (t.len p) h
end
structure ET(A:List α)(F:α->List α)(E:List α)(M:List α)(f:α->Nat):Prop where
 nd:M.Nodup
 sub:∀p∈M,p∈A\/p∈E
 ends:∀p∈E,p∈M/\f p=0
 zero:∀p∈M,f p=0->p∈E
 down:∀p∈M,∀n,f p=n+1->p∈A/\∃q∈F p,q∈M/\f q=n
 up:∀p∈A,∀q∈F p,q∈M->p∈M/\f p<=f q+1
structure Iu(A:List α)(F:α->List α)(E:List α)(M:List α)(f:α->Nat)(n:Nat)(L R:List α):Prop where
 nd:M.Nodup
 sub:∀p∈M,p∈A\/p∈E
 subL:∀p,p∈L\/p∈R->p∈A\/p∈E
 ends:∀p∈E,(p∈M/\f p=0)\/(n=0/\p∈L)
 zero:∀p∈M,f p=0->p∈E
 down:∀p∈M,∀m,f p=m+1->p∈A/\∃q∈F p,q∈M/\f q=m
 le:∀p∈M,f p<=n
 next:∀p∈L,p∈M\/(n=0/\p∈E)\/∃m,n=m+1/\p∈A/\∃q∈F p,q∈M/\f q=m
 more:∀p∈R,p∈A/\∃q∈F p,q∈M/\f q=n
 up:∀p∈A,∀q∈F p,q∈M->(p∈M/\f p<=f q+1)\/(f q+1=n/\p∈L)\/(f q=n/\p∈R)
section
variable{A:List α}{F:α->List α}{E M:List α}{f:α->Nat}{n:Nat}{L R:List α}
theorem Iu.start:Iu A F E [] f 0 E [] where
 nd:=ev
 sub:=λp hp=>qG hp cn
 subL:=λp hp=>.inr (hp.resolve_right cn)
 ends:=λp hp=>.inr ⟨rfl,hp⟩
 zero:=λp hp=>qG hp cn
 down:=λp hp=>qG hp cn
 le:=λp hp=>qG hp cn
 next:=λp hp=>.inr (.inl ⟨rfl,hp⟩)
 more:=λp hp=>qG hp cn
 up:=λp _ q _ hq=>qG hq cn
theorem Iu.skip{x:α}(w:Iu A F E M f n (x::L) R)(h:x∈M):Iu A F E M f n L R where
 nd:=w.nd
 sub:=w.sub
 subL:=λp hp=>w.subL p (hp.imp (cZ _) id)
 ends:=λp hp=>by
  rcases w.ends p hp with z|⟨z,y⟩
  ·exact .inl z
  ·rcases dA.mp y with y|y
   ·exact .inl ⟨by rw[y];exact h,by have:=w.le x h;rw[y];lia⟩
   ·exact .inr ⟨z,y⟩
 zero:=w.zero
 down:=w.down
 le:=w.le
 next:=λp hp=>w.next p (cZ _ hp)
 more:=w.more
 up:=λp hp q hq hM=>by
  rcases w.up p hp q hq hM with z|⟨z,y⟩|z
  ·exact .inl z
  ·rcases dA.mp y with y|y
   ·exact .inl ⟨by rw[y];exact h,by have:=w.le x h;rw[y];lia⟩
   ·exact .inr (.inl ⟨z,y⟩)
  ·exact .inr (.inr z)
theorem Iu.take[BEq α][LawfulBEq α]{x:α}{B:α->List α}(w:Iu A F E M f n (x::L) R)(h:x∉M)(hB:∀q,q∈B x↔q∈A/\x∈F q):Iu A F E (M++[x]) (λp=>if p∈M then f p else n) n L (R++B x):=by
 have old:∀{p:α},p∈M->(if p∈M then f p else n)=f p:=λz=>qF z
 have new:(if x∈M then f x else n)=n:=qE h;have mx:x∈M++[x]:=cV.mpr 26#1;have mM:∀{p:α},p∈M->p∈M++[x]:=λz=>cV.mpr 27#9
 refine⟨fD.mpr ⟨w.nd,dR.mpr ⟨cn,ev⟩,λa ha b hb e=>h (by rw[<-cQ.mp hb,<-e];exact ha)⟩,λp hp=>?_,λp hp=>?_,λp hp=>?_,λp hp=>?_,λp hp m e=>?_,λp hp=>?_,λp hp=>?_,λp hp=>?_,λp hp q hq hM=>?_⟩
 ·rcases cV.mp hp with z|z
  ·exact w.sub p z
  ·rw[cQ.mp z];exact w.subL x (.inl ce)
 ·rcases hp with z|z
  ·exact w.subL p (.inl (cZ _ z))
  ·rcases cV.mp z with z|z
   ·exact w.subL p (.inr z)
   ·exact .inl ((hB p).mp z).1
 ·rcases w.ends p hp with⟨z,y⟩|⟨z,y⟩
  ·exact .inl ⟨mM z,by rw[old z];exact y⟩
  ·rcases dA.mp y with y|y
   ·exact .inl ⟨by rw[y];exact mx,by rw[y,new];exact z⟩
   ·exact .inr ⟨z,y⟩
 ·rcases cV.mp hp with z|z
  ·intro e;rw[old z]at e;exact w.zero p z e
  ·rw[cQ.mp z,new];intro e;rcases w.next x ce with y|⟨_,y⟩|⟨m,y,_⟩
   ·exact qG y h
   ·exact y
   ·lia
 ·rcases cV.mp hp with z|z
  ·rw[old z]at e;obtain⟨h1,q,h2,h3,h4⟩:=w.down p z m e;exact⟨h1,q,h2,mM h3,by rw[old h3];exact h4⟩
  ·rw[cQ.mp z,new]at e;rw[cQ.mp z];rcases w.next x ce with y|⟨y,_⟩|⟨m',y,h1,q,h2,h3,h4⟩
   ·exact qG y h
   ·lia
   ·exact⟨h1,q,h2,mM h3,by rw[old h3];lia⟩
 ·rcases cV.mp hp with z|z
  ·rw[old z];exact w.le p z
  ·rw[cQ.mp z,new];exact cU _
 ·rcases w.next p (cZ _ hp) with z|z|⟨m,h1,h2,q,h3,h4,h5⟩
  ·exact .inl (mM z)
  ·exact .inr 27#9
  ·exact .inr (.inr ⟨m,h1,h2,q,h3,mM h4,by rw[old h4];exact h5⟩)
 ·rcases cV.mp hp with z|z
  ·obtain⟨h1,q,h2,h3,h4⟩:=w.more p z;exact⟨h1,q,h2,mM h3,by rw[old h3];exact h4⟩
  ·obtain⟨h1,h2⟩:=(hB p).mp z;exact⟨h1,x,h2,mx,new⟩
 ·rcases cV.mp hM with z|z
  ·rw[old z];rcases w.up p hp q hq z with⟨h1,h2⟩|⟨h1,h2⟩|⟨h1,h2⟩
   ·exact .inl ⟨mM h1,by rw[old h1];exact h2⟩
   ·rcases dA.mp h2 with y|y
    ·exact .inl ⟨by rw[y];exact mx,by rw[y,new];lia⟩
    ·exact .inr (.inl ⟨h1,y⟩)
   ·exact .inr (.inr ⟨h1,cV.mpr (.inl h2)⟩)
  ·have e:=cQ.mp z;subst e;rw[new];exact .inr (.inr ⟨rfl,cV.mpr (.inr ((hB p).mpr ⟨hp,hq⟩))⟩)
theorem Iu.round(w:Iu A F E M f n [] R):Iu A F E M f (n+1) R [] where
 nd:=w.nd
 sub:=w.sub
 subL:=λp hp=>w.subL p (.inr (hp.resolve_right cn))
 ends:=λp hp=>.inl ((w.ends p hp).resolve_right λz=>qG z.2 cn)
 zero:=w.zero
 down:=w.down
 le:=λp hp=>Nat.le_succ_of_le (w.le p hp)
 next:=λp hp=>.inr (.inr ⟨n,rfl,w.more p hp⟩)
 more:=λp hp=>qG hp cn
 up:=λp hp q hq hM=>by
  rcases w.up p hp q hq hM with z|⟨_,z⟩|⟨z,y⟩
  ·exact .inl z
  ·exact qG z cn
  ·exact .inr (.inl ⟨by lia,y⟩)
theorem Iu.done(w:Iu A F E M f n [] []):ET A F E M f where
 nd:=w.nd
 sub:=w.sub
 ends:=λp hp=>(w.ends p hp).resolve_right λz=>qG z.2 cn
 zero:=w.zero
 down:=w.down
 up:=λp hp q hq hM=>(w.up p hp q hq hM).resolve_right λz=>z.elim (λz=>qG z.2 cn) λz=>qG z.2 cn
theorem Iu.few(w:Iu A F E M f n L R):13#3<=4#0+E.length:=by rw[<-cR];exact w.nd.length_le_of_subset λp hp=>cV.mpr (w.sub p hp)
end
noncomputable def JZ[BEq α][LawfulBEq α](M:List α)(f:α->Nat)(x:α):Option Nat:=if x∈M then some (f x) else none
theorem ET.down'[BEq α][LawfulBEq α]{A:List α}{F:α->List α}{E M:List α}{f:α->Nat}(w:ET A F E M f):∀x n,JZ M f x=some (n+1)->∃y∈F x,JZ M f y=some n:=λx n e=>by
 unfold JZ at e
 split at e
 ·rename_i m
  obtain⟨_,q,h1,h2,h3⟩:=w.down x m n 29#2;exact⟨q,h1,by unfold JZ;rw[qF h2,h3]⟩
 ·cases e
theorem ET.chain{A:List α}{F:α->List α}{E M:List α}{f:α->Nat}(w:ET A F E M f):∀(n:Nat) (p:α),p∈M->f p=n->∃l:List α,6#9=n+1/\l.Nodup/\∀q∈l,q∈M/\f q<=n
 |0,p,hp,e=>⟨[p],rfl,dR.mpr ⟨cn,ev⟩,λq hq=>by rw[cQ.mp hq];exact⟨hp,Nat.le_of_eq e⟩⟩
 |n+1,p,hp,e=>by
  obtain⟨_,q,_,hq,eq⟩:=w.down p hp n e;obtain⟨l,h1,h2,h3⟩:=w.chain n q hq eq;refine⟨p::l,by rw[dU,h1],dR.mpr ⟨λz=>by have:=(h3 p z).2;lia,h2⟩,λy hy=>?_⟩;rcases dA.mp hy with z|z
  ·rw[z];exact⟨hp,Nat.le_of_eq e⟩
  ·exact⟨(h3 y z).1,by have:=(h3 y z).2;lia⟩
theorem ET.low{A:List α}{F:α->List α}{E M:List α}{f:α->Nat}(w:ET A F E M f){p:α}(hp:p∈M):f p<13#3/\13#3<=4#0+E.length:=by
 obtain⟨l,h1,h2,h3⟩:=w.chain (f p) p hp rfl;have a:=h2.length_le_of_subset (l₂:=M) λq hq=>(h3 q hq).1
 have b:=w.nd.length_le_of_subset (l₂:=A++E) λq hq=>cV.mpr (w.sub q hq)
 rw[cR]at b;lia
theorem FJ.low{S:List α}{F:α->List α}{B:α->Prop}(hS:∀s∈S,B s)(hF:∀x,B x->∀y∈F x,B y){a:α}(c:FJ S F a):B a:=by
 induction c with
 |base h=>exact hS _ h
 |step _ h ih=>exact hF _ ih _ h
def Ax(A:qX)(vs:List V):List (BP×V):=List.zipWith (λa v=>(Sum.inl a,v)) A vs
theorem Dr{A:qX}{vs:List V}(h:4#5=4#0):(Ax A vs).length=4#0:=by unfold Ax;rw[List.length_zipWith,h,Nat.min_self]
theorem TU{a b:Int}(h:a≠b):¬(Sum.inl a:BP)=Sum.inl b:=λe=>h (Sum.inl.inj e)
theorem Cf:∀{A:qX} {vs:List V} {a:Int},a∉A->BV (Ax A vs) 25#4=none
 |[],_,_,_=>rfl
 |_::_,[],_,_=>rfl
 |b::A,v::vs,a,h=>by show BV ((Sum.inl b,v)::Ax A vs) 25#4=none;rw[Cp (show ¬(Sum.inl b,v).1=Sum.inl a from TU λe=>h (by rw[e];exact ce))];exact Cf λe=>h (cZ _ e)
theorem CL:∀{A:qX} {vs:List V} {i:Nat} {a:Int} {v:V},22#9->A[i]?=some a->vs[i]?=some v->BV (Ax A vs) 25#4=some v
 |[],_,_,_,_,_,h,_=>by simp at h
 |_::_,[],_,_,_,_,_,h=>by simp at h
 |b::A,v::vs,0,a,w,nd,h1,h2=>by simp at h1 h2;subst h1 h2;exact Dq rfl
 |b::A,v::vs,i+1,a,w,nd,h1,h2=>by simp at h1 h2;have nd':=dR.mp nd;show BV ((Sum.inl b,v)::Ax A vs) 25#4=some w;rw[Cp (show ¬(Sum.inl b,v).1=Sum.inl a from TU λe=>nd'.1 (by rw[e];exact cp h1))];exact CL nd'.2 h1 h2
theorem Iv{A:qX}{vs:List V}{a:Int}{v:V}(hl:4#5=4#0)(h:a∉A):CH (Ax A vs) 25#4 v=Ax (A++[a]) (vs++[v]):=by rw[Ln _ (Cf h)];unfold Ax;rw[List.zipWith_append hl.symm];rfl
theorem VR{A:qX}{vs:List V}{k:BP}{v:V}(h:(Ax A vs)[i]?=some (k,v)):∃a,A[i]?=some a/\vs[i]?=some v/\k=Sum.inl a:=by
 unfold Ax at h;rw[List.getElem?_zipWith]at h;cases ha:A[i]? with
 |none=>rw[ha]at h;simp at h
 |some a =>
  cases hl:vs[i]? with
  |none=>rw[ha,hl]at h;simp at h
  |some l =>
   rw[ha,hl]at h;simp at h;exact⟨a,rfl,by rw[h.2],h.1.symm⟩
theorem Et{A:List α}{a:α}(h:a∈A):∃i:Nat,A[i]?=some a:=d9.mp h
theorem Jz{A:List α}{ls:List β}(n:ls.length=4#0){a:α}(h:A[i]?=some a):∃l,ls[i]?=some l:=
 ⟨ls[i]'(by rw[n];exact (cP.mp h).1),cc _⟩
theorem Fv{A:qX}{vs:List V}{a:Int}(n:4#5=4#0)(nd:22#9):(BV (Ax A vs) 25#4).isSome=decide (a∈A):=by
 by_cases h:a∈A
 ·obtain⟨i,hi⟩:=Et h;obtain⟨v,hv⟩:=Jz n hi;rw[CL nd hi hv,qH h];rfl
 ·rw[Cf h,qI h];rfl
structure Eu(H:Hp)(ls:List qS)(A:qX)(F:Int->qX):Prop where
 n:ls.length=4#0
 nd:ls.Nodup
 e:∀(i:Nat) (a:Int) (l:qS),A[i]?=some a->ls[i]?=some l->H l=some (.lst ((F a).map 2#1))
section
variable{ls:List qS}{A:qX}{F:Int->qX}
theorem Eu.nil:Eu H [] [] F:=⟨rfl,21#2,λi a l z=>by simp at z⟩
theorem Eu.same(e:AF H H')(g:Eu H ls A F):Eu H' ls A F:=⟨g.n,g.nd,λi a l h1 h2=>e _ _ (g.e i a l h1 h2)⟩
theorem Eu.snoc(g:Eu H ls A F){l:qS}{a:Int}(hl:l∉ls)(h:H l=some (.lst ((F a).map 2#1))):Eu H (ls++[l]) (A++[a]) F:=by
 refine⟨by rw[cR,cR,g.n];rfl,fD.mpr ⟨g.nd,dR.mpr ⟨cn,ev⟩,λx hx y hy e=>hl (by rw[<-cQ.mp hy,<-e];exact hx)⟩,λi b k h1 h2=>?_⟩
 by_cases z:i<A.length
 ·rw[dG z]at h1;rw[dG (by rw[g.n];exact z)]at h2;exact g.e i b k h1 h2
 ·rw[cq 0#0]at h1;rw[cq (by rw[g.n];lia),g.n]at h2;have z0:i-4#0=0:=by have:=(cP.mp h1).1;simp at this;lia
  rw[z0]at h1 h2;cases h1;cases h2;exact h
theorem Eu.out(g:Eu H ls A F){l:qS}(h:∀xs,H l≠some 3#2):l∉ls:=λz=>by obtain⟨i,hi⟩:=Et z;obtain⟨a,ha⟩:=Jz g.n.symm hi;exact h _ (g.e i a l ha hi)
theorem Eu.new(g:Eu H ls A F){l:qS}(h:H l=none):l∉ls:=g.out λxs z=>by rw[h]at z;cases z
theorem Eu.keep(g:Eu H ls A F){l:qS}(nl:l∉ls)(v:HO):Eu (AU H l v) ls A F:=
 ⟨g.n,g.nd,λi a k h1 h2=>by rw[AI λe=>nl (by rw[<-e];exact cp h2)];exact g.e i a k h1 h2⟩
theorem Eu.push(g:Eu H ls A F)(nd:22#9){p0 x:Int}{l:qS}(hj:A[j]?=some p0)(hl:ls[j]?=some l):Eu (AU H l (.lst ((F p0++[x]).map 2#1))) ls A (λp=>if p0=p then F p++[x] else F p):=
 ⟨g.n,g.nd,λi a k h1 h2=>by
  by_cases e:p0=a
  ·subst e;have ij:i=j:=by have a1:=cP.mp h1;have a2:=cP.mp hj;exact (iC (h₀:=a1.1) (h₁:=a2.1) nd).mp (by rw[a1.2,a2.2])
   subst ij;rw[hl]at h2;cases h2;rw[AD,qF rfl]
  ·have kl:k≠l:=λz=>by
    subst z;have b1:=cP.mp h2;have b2:=cP.mp hl;have ij:i=j:=(iC (h₀:=b1.1) (h₁:=b2.1) g.nd).mp (by rw[b1.2,b2.2]);subst ij;rw[hj]at h1;exact e (Option.some.inj h1)
   rw[AI kl,qE e];exact g.e i a k h1 h2⟩
end
section
variable{S:qX}{F:Int->qX}{A W:qX}
theorem Ga{N:Nat}{A:qX}(nd:22#9)(h:∀a∈A,0<=a/\a<(N:Int)):4#0<=N:=by
 have e:=nd.length_le_of_subset (l₂:=(List.range N).map λn:Nat=>(n:Int)) λa ha=>by obtain⟨a0,a1⟩:=h a ha;exact c6.mpr ⟨a.toNat,dE.mpr 0#0,by lia⟩
 rwa [cO,cw]at e
end
def TV(P:qU)(w:qV)(K:qW)(mg:Str->Option qR)(base:Heap)(k:Nat)(f:qS)(F:Int->qX)(N:Nat)(H:Hp):=∃fd ps sp oc od fd' sl,FC P w K mg base 13#8 k f fd ps sp/\Ff K fd ps []/\H f=some (.frz ⟨oc,od,.func fd',sl⟩ CP) /\
 ∀x:Int,0<=x->x<(N:Int)->∀(H1:Hp) (Q:VK),AF H H1->(∀l H2,AF H1 H2->H1 l=none->H2 l=some (.lst ((F x).map 2#1))->Q 9#5 H2)->sp [.int x] H1 Q E0
def Zb(N:Nat)(F:Int->qX):=∀x,0<=x->x<(N:Int)->(F x).length<=9/\∀y∈F x,0<=y/\y<(N:Int)
inductive J1(P:qU)(w:qV)(K:qW)(mg:Str->Option qR)(base:Heap)(k:Nat)(vs:List V)(H:Hp)(Q:VK)(z3_:XK):Prop
 |m(a f:qS)(S:qX)(N:Nat)(F:Int->qX):vs=[.ref a,.ref f]->Ad K H a (S.map 2#1)->S.length<=100->N<=512->(∀s∈S,0<=s/\s<(N:Int))->Zb N F->TV P w K mg base k f F N H->(∀d H' ls A,AF H H'->H d=none->(∀l∈ls,H l=none)->H' d=some 15#7->Eu H' ls A F->Es S F A->(∀a∈A,0<=a/\a<(N:Int))->Q 2#3 H')->J1 P w K mg base k vs H Q z3_
def bK(H HX:Hp)(d p:qS)(S:qX)(F:Int->qX)(A W:qX):=∃ls,AF H HX/\(∀l∈ls,H l=none)/\HX d=some 15#7/\Eu HX ls A F/\HX p=some (.lst (W.map 2#1))/\p∉ls/\FF S F A W
theorem FX{l:List α}(h:l≠[]):∃r x,l=r++[x]:=⟨l.dropLast,l.getLast h,(List.dropLast_concat_getLast h).symm⟩
noncomputable def BH(g:Int)(tf:qX)(x:Int):qX:=(List.range 0#7).map λs:Nat=>B6 g.toNat tf (1#2/0#7) x (s:Int)
theorem EK(g:Int)(tf:qX)(x:Int):(BH g tf x).length=0#7:=by unfold BH;rw[3#0,4#4]
theorem Ev{h:Nat}(h9:h<=9):2^h<=512:=dO (Nat.pow_le_pow_right 0#1 h9) 0#1
theorem Nt(g9:g<=9)(tf:qX):Zb (2^(1#2/0#7)) 10#4:=λx _ _=>by refine⟨by rw[EK];lia,λy hy=>?_⟩;unfold BH at hy;obtain⟨s,_,rfl⟩:=c6.mp hy;have:=EI (1#2/0#7) (DO g.toNat tf (1#2/0#7) x (s:Int) (1#2/0#7));rw[gq];exact this
abbrev DT(g:Int)(tf:qX):Int:=2^(tf.length/g.toNat)-1
theorem TW(g:Int)(tf:qX):0<=DT g tf/\DT g tf<((2^(1#2/0#7):Nat):Int):=by
 have:=EI (1#2/0#7) λ_=>true
 rw[Lx]at this;rw[gq];exact⟨this.1,Int.sub_lt_self _ Int.one_pos⟩
theorem Aa.sameT{P:qS}{r:qS}{lo:Int}{m:Nat}(e:Bk P H H')(t:Au pos q P H)(h:Aa H r g lo j3 m):Aa H' r g lo j3 m:=by obtain⟨⟨tb,v1,v2⟩,h1,h2,h3,h4,h5,h6,h7⟩:=h;exact⟨⟨tb,e.get t v1 (λ_ z=>by cases z),e.get t v2 (λ_ z=>by cases z)⟩,h1,h2,h3,h4,h5,h6,h7⟩
theorem RK.sameT{P:qS}{ws:List (qX)}(e:Bk P H H')(t:Au pos q P H)(h:RK H p ps ws):RK H' p ps ws:=
 ⟨e.get t h.l (λ_ z=>by cases z),h.n,λi q w h1 h2=>e.get t (h.e i q w h1 h2) (λ_ z=>by cases z)⟩
noncomputable def DD(x:Str):Str:=x++".<locals>."++"<lambda>"
inductive O8(CT:qS)(pos:Pos)(Pt:qS)(vs:List V)(H:Hp)(Q:VK)(E:XK):Prop
 |m(r:qS)(g lo:Int)(j3:qX)(m:Nat)(lf:Int)(tf:qX)(mf:Nat):vs=[.ref r]->Aa H r g lo j3 m->A5 g lo j3 m lf tf mf->Au pos (DD "sets_reached") Pt H->(g^(mf-1)<=9->∀d H' ls A,Bk Pt H H'->Au pos (DD "sets_reached") Pt H'->H d=none->(∀l∈ls,H l=none)->H' d=some 15#7->Eu H' ls A 10#4->Es [DT g tf] 10#4 A->(∀a∈A,0<=a/\a<((2^(1#2/0#7):Nat):Int))->Q 2#3 H')->(9<g^(mf-1)->∀H',AF H H'->E 25#8 none H')->O8 CT pos Pt vs H Q E
theorem Nu{P:qU}{w:qV}{K:qW}{mg:Str->Option qR}{base:Heap}{k:Nat}{f:qS}{cl:List (Str×qS)}{F:Int->qX}{N:Nat}{DA:List V}{x1:Str}(la:Gy q params body scope cl f H)(ck:Ca cl DA H)(S:Ir [x1] fns scope)(hcl:cl.map (·.1)=fns)(hnd:(Be cl).Nodup)(hbind:∀(pm j8 ct:qR) (us:List qR),10#2=1->bindArgs (PySem.W.kla_fn "<lambda>" q params body scope cl pm j8 ct) ⟨us,[]⟩=pure ([x1].zip us))(hbody:∀(c':qS) (A:Around) (outer:List Env) (s:qT) (HA:Hp) (x:Int),B8 k (A.deeper (PySem.W.envX q scope s.heap.objs.size f 16#6 (cellsFrom (0#6+1) scope.names []++cl)))->0<=x->x<(N:Int)->AF H HA ->
   ∃t,PE (Za P w K mg base (x1::fns) q scope f 16#6 cl A outer s HA) body t/\∀Q:VK,(∀D H',AF (Ft cl HA) H'->Ft cl HA D=none->H' D=some (.lst ((F x).map 2#1))->Q 2#7 H')->t (some (.int x)::DA.map some) (Ft cl HA) Q):
  TV P w K mg base (k+1) f F N H:=by
 rcases la with⟨pm,c',ctv,oc,l1,l2,l3⟩;refine⟨_,[x1],λvs HA QA _=>∃x:Int,vs=[.int x]/\0<=x/\x<(N:Int)/\AF H HA/\∀l H2,AF HA H2->HA l=none->H2 l=some (.lst ((F x).map 2#1))->QA 9#5 H2,_,_,_,_,TR (q:=q) (params:=params) (body:=body) (scope:=scope) (cl:=cl) (fns:=fns) (pm:=pm) (ctv:=ctv) (c':=c') S hcl hnd ?_ ?_,Jy (hbind pm 16#6 ctv),l1,λx x0 x1 HA QA eA qA=>⟨x,rfl,x0,x1,eA,qA⟩⟩
 ·rintro vs HA QA _ ⟨x,rfl,_⟩;rfl
 ·intro A outer s HA vs QA EA hr hRq;rcases hRq with⟨x,rfl,x0,x1,eA,qA⟩;obtain⟨t,ht,hq⟩:=hbody c' A outer s HA x hr x0 x1 eA;refine⟨DA,oc,eA _ _ l1,eA _ _ l2,l3,ck.same eA,t,ht,hq _ λD H' e1 hD hH cz=>?_⟩;have out:D∉Be cl:=λz=>by rw[cz D z]at hH;cases hH
  exact qA D _ (ME e1) (by rw[<-hD,BR out]) (by rw[CG out];exact hH)
inductive O9(vs:List V)(H:Hp)(Q:VK)(z3_:XK):Prop
 |m(d:qS)(ls:List qS)(A:qX)(F:Int->qX):vs=[.ref d]->Rd H d 15#7->Eu H ls A F->22#9->(∀a∈A,∀p∈F a,p∈A)->4#0<=512->(∀a∈A,(F a).length<=9)->(∀o H' d2 ls2 A2 B,AF (AU H d (.frz o 15#7)) H'->H d2=none->(∀l∈ls2,H l=none)->H' d2=some (.dK 25#7)->Eu H' ls2 A2 B->Fu 6000 A F A2 B->Q 6#2 H')->O9 vs H Q z3_
def VS(H HX:Hp)(d2:qS)(A2:qX)(B:Int->qX):=∃ls2:List qS,(∀l∈ls2,H l=none)/\HX d2=some (.dK 25#7)/\Eu HX ls2 A2 B
variable{HX:Hp}{d2:qS}{ls2:List qS}
theorem VS.put{A2:qX}{B:Int->qX}{l:qS}{k:Int}(ln:∀l∈ls2,H l=none)(w0:HX d2=some (.dK 25#7))(g:Eu HX ls2 A2 B)(hl:HX l=some (.lst []))(nl:l∉ls2)(h0:H l=none)(hk:k∉A2)(hB:B k=[]):
  (∀x∈ls2++[l],H x=none)/\AU HX d2 (.dK (CH 25#7 (Sum.inl k) 9#5)) d2=some (.dK (Ax (A2++[k]) ((ls2++[l]).map 6#4)))/\Eu (AU HX d2 (.dK (CH 25#7 (Sum.inl k) 9#5))) (ls2++[l]) (A2++[k]) B:=by
 have d2n:d2∉ls2:=g.out λxs z=>by rw[w0]at z;cases z
 refine⟨λx hx=>?_,by rw[AD,Iv (by rw[cO];exact g.n) hk,cX];rfl,(g.keep d2n _).snoc nl ?_⟩
 ·rcases cV.mp hx with z|z
  ·exact ln x z
  ·rw[cQ.mp z];exact h0
 ·rw[AI (De hl w0 λz=>by cases z),hB];exact hl
theorem AF.bothI{H0:Hp}(e:AF H H0)(d:qS)(v:HO):AF (AU H d v) (AU H0 d v):=λb y h=>by
 by_cases z:b=d
 ·subst z;rw[AD]at h⊢;exact h
 ·rw[AI z]at h⊢;exact e b y h
theorem Rd.is{kvs:List (BP×V)}(r:Rd H d 6#3):∃u,H d=some u/\(∀xs,u≠.lst xs):=by
 rcases r with r|⟨o,r⟩
 ·exact⟨_,r,λ_ z=>by cases z⟩
 ·exact⟨_,r,λ_ z=>by cases z⟩
abbrev EU(M:qX)(f:Int->Nat):List (BP×V):=Ax M (M.map λp=>V.int ((f p:Nat):Int))
theorem TY(M:qX)(f:Int->Nat):(EU M f).length=13#3:=Dr (by rw[cO])
theorem TZ{M:qX}{f:Int->Nat}{x:Int}{n:Nat}(h:x∉M):CH (EU M f) (Sum.inl x) (.int ((n:Nat):Int))=EU (M++[x]) (λp=>if p∈M then f p else n):=by
 unfold EU;rw[Iv (by rw[cO]) h]
 congr 1
 rw[cX,dN,gU]
 congr 1
 ·exact dc λp hp=>by show V.int ((f p:Nat):Int)=V.int (((if p∈M then f p else n):Nat):Int);rw[qF hp]
 ·show[V.int ((n:Nat):Int)]=[V.int (((if x∈M then f x else n):Nat):Int)];rw[qE h]
theorem Ta{M:qX}{f:Int->Nat}(nd:M.Nodup)(x:Int):BV (EU M f) (Sum.inl x)=if x∈M then some (.int ((f x:Nat):Int)) else none:=by
 by_cases h:x∈M
 ·obtain⟨i,hi⟩:=Et h;rw[qF h];exact CL nd hi (by rw[cT,hi];rfl)
 ·rw[qE h];exact Cf h
inductive Tb(vs:List V)(H:Hp)(Q:VK)(z3_:XK):Prop
 |m(d e:qS)(ls:List qS)(A:qX)(F:Int->qX)(E:qX):vs=[.ref d,.ref e]->Rd H d 15#7->Eu H ls A F->22#9->(∀a∈A,∀p∈F a,p∈A)->4#0<=512->(∀a∈A,(F a).length<=9)->H e=some (.lst (E.map 2#1))->E.length<=600->(∀o H' d2 M f,AF (AU H d (.frz o 15#7)) H'->H d2=none->H' d2=some (.dK (EU M f))->ET A F E M f->Q 6#2 H')->Tb vs H Q z3_
def bM(HB HX:Hp)(d2 p:qS)(A:qX)(F:Int->qX)(E:qX)(M0:qX)(n:Nat)(L:qX):=∃M f R,AF HB HX/\HX d2=some (.dK (EU M f))/\HX p=some (.lst (R.map 2#1))/\R.length<=13#3*6000/\(R=[]\/M0.length<13#3)/\M0.length<=13#3/\Iu A F E M f n L R
noncomputable def Fw(F:Int->qX)(fo:Int->Option Nat)(n:Nat)(x:Int):Nat:=(F x).findIdx λy=>fo y==some n
noncomputable def Gz(F:Int->qX)(fo:Int->Option Nat):Nat->Int->qX
 |0,_=>[]
 |n+1,x=>((Fw F fo n x:Nat):Int)::Gz F fo n ((F x).getD (Fw F fo n x) 0)
theorem Tc{F:Int->qX}{fo:Int->Option Nat}{n:Nat}{x y:Int}(h:y∈F x)(e:fo y=some n):∃z,(F x)[Fw F fo n x]?=some z/\fo z=some n/\(F x).getD (Fw F fo n x) 0=z/\Fw F fo n x<(F x).length/\∀m,m<Fw F fo n x->∀y,(F x)[m]?=some y->fo y≠some n:=by
 have lt:Fw F fo n x<(F x).length:=List.findIdx_lt_length_of_exists ⟨y,h,by rw[e];exact beq_self_eq_true _⟩;refine⟨_,cc lt,?_,by rw[cW,cc lt];rfl,lt,λm hm y hy=>?_⟩
 ·have:=List.findIdx_getElem (w:=lt);exact eq_of_beq this
 ·have ml:m<(F x).length:=jO hm lt;rw[cc ml]at hy;cases hy;intro z;have:=List.not_of_lt_findIdx hm;rw[z]at this;simp at this
theorem J3{F:Int->qX}{fo:Int->Option Nat}(hF:∀x,(F x).length=G)(h:∀x n,fo x=some (n+1)->∃y∈F x,fo y=some n):∀(n:Nat) (x:Int),fo x=some n->(Gz F fo n x).length=n/\∀s∈Gz F fo n x,0<=s/\s<(G:Int)
 |0,_,_=>⟨rfl,λs hs=>qG hs cn⟩
 |n+1,x,e=>by
  obtain⟨y,hy,ey⟩:=h x n e;rcases Tc hy ey with⟨z,h1,h2,h3,h4,_⟩;obtain⟨i1,i2⟩:=J3 hF h n z h2;show (((Fw F fo n x:Nat):Int)::Gz F fo n ((F x).getD (Fw F fo n x) 0)).length=n+1/\∀s∈((Fw F fo n x:Nat):Int)::Gz F fo n ((F x).getD (Fw F fo n x) 0),0<=s/\s<(G:Int);rw[h3];refine⟨by rw[dU,i1],λs hs=>?_⟩;rcases dA.mp hs with q|q
  ·rw[q];rw[hF]at h4;lia
  ·exact i2 s q
theorem Bk.into{P:qS}(e:Bk P H H')(h:H d=none)(u:HO):Bk P H (AU H' d u):=λb o n q=>by rw[AI λz=>by rw[z,h]at q;cases q];exact e b o n q
theorem Au.into{P:qS}(t:Au pos q P H){u v:HO}(h:H d=some u)(n1:∀ps,u≠.tbl ps)(n2:∀o,u≠.frz o CP):Au pos q P (AU H d v):=by rcases t with⟨ps,h1,h2,h3⟩;refine⟨ps,by rw[AI λz=>by rw[z,h]at h1;cases h1;exact n1 _ rfl];exact h1,h2,λcv hc=>?_⟩;rcases h3 cv hc with⟨c',oc,h4,h5,h6⟩;exact⟨c',oc,h4,by rw[AI λz=>by rw[z,h]at h5;cases h5;exact n2 _ rfl];exact h5,h6⟩
noncomputable def Cv(g:Int)(tf:qX)(x:Int)(row:qX):Int:=row.foldl (λx s=>B6 g.toNat tf (1#2/0#7) x s) x
theorem J4{n:Nat}{f:Nat->Int}(h:∀k,k<n->0<=f k):BO n f=0↔∀k,k<n->f k=0:=by
 constructor
 ·intro e k hk;have:=E3 h hk;have:=h k hk;lia
 ·intro e;rw[Bh (g:=λ_=>0) e,EE,Int.mul_zero]
theorem Qn{n:Nat}{f:Nat->Bool}:Bd n f=0↔∀i,i<n->f i=false:=by
 constructor
 ·intro e i hi;have b:=Ie (f:=f) hi;rw[e,Int.zero_ediv]at b;cases z:f i with
  |false=>rfl
  |true=>rw[z]at b;cases b
 ·intro e;rw[EJ (h:=λ_=>false) e,E7]
theorem J7(g2:2<=g):∀(row:qX) (f:Nat->Bool),Cv g tf (Bd (1#2/0#7) f) row=0↔∀i,i<1#2/0#7->f i=true->E4 g.toNat tf row i=0
 |[],f=>by
  show Bd _ f=0↔_;rw[Qn];constructor
  ·intro h i hi e;rw[h i hi]at e;cases e
  ·intro h i hi;cases z:f i with
   |false=>rfl
   |true=>have:=h i hi z;cases this
 |s::row,f=>by
  obtain⟨h,hh⟩:∃h,h=1#2/0#7:=⟨_,rfl⟩;show Cv g tf (Bd _ (DO g.toNat tf _ (Bd _ f) s _)) row=0↔_;rw[J7 g2 row,<-hh]
  have eq:∀i,E4 g.toNat tf (s::row) i=0↔∀j,j<0#7->tf.getD (i*0#7+j) 0=s->E4 g.toNat tf row ((i*0#7+j)%h)=0:=λi=>by
   show BO g.toNat (λj=>Fm (decide (tf.getD (i*0#7+j) 0=s)) (E4 g.toNat tf row ((i*0#7+j)%(1#2/0#7))))=0↔_;rw[J4 λj _=>EF (Bo ..),<-hh];refine forall_congr' λj=>forall_congr' λhj=>?_
   unfold Fm
   by_cases z:tf.getD (i*g.toNat+j) 0=s
   ·rw[qH z];exact⟨λy _=>y,λy=>y z⟩
   ·rw[qI z];exact⟨λ_ y=>qG y z,λ_=>rfl⟩
  constructor
  ·intro H i hi fi;rw[eq];intro j hj hs;have lt:(i*0#7+j)%h<h:=eW _ 0#0;refine H _ lt ?_;unfold DO;refine iE.mpr ⟨i,dE.mpr hi,?_⟩;rw[Bool.and_eq_true];refine⟨qH ?_,?_⟩
   ·rw[Ie hi,qF fi]
   ·unfold FE;exact iE.mpr ⟨_,Ly.mpr ⟨j,hj,hs,rfl⟩,beq_self_eq_true _⟩
  ·intro H e he st;unfold DO at st;obtain⟨i,hi,st⟩:=iE.mp st;rw[Bool.and_eq_true]at st;have il:=dE.mp hi
   have fi:f i=true:=by
    have b:=qO st.1;rw[Ie il]at b;cases z:f i with
    |true=>rfl
    |false=>rw[z]at b;cases b
   unfold FE at st;obtain⟨k,hk,ke⟩:=iE.mp st.2;obtain⟨j,hj,hs,rfl⟩:=Ly.mp hk;rw[<-eq_of_beq ke];exact (eq i).mp (H i il fi) j hj hs
theorem Fx(g2:2<=g)(row:qX):Cv g tf (DT g tf) row=0↔Cs g.toNat tf row=0:=by unfold DT Cs;rw[<-Lx,J7 g2,J4 λk _=>Bo ..];exact⟨λh k hk=>h k hk rfl,λh k hk _=>h k hk⟩
theorem Fy{n:Nat}{f:Nat->Int}(h:1<=BO n f):∃j,j<n/\1<=f j:=by
 induction n with
 |zero=>rw[C3]at h;lia
 |succ n ih =>
  rw[A3]at h
  by_cases z:1<=f n
  ·exact⟨n,by lia,z⟩
  ·obtain⟨j,hj,hf⟩:=ih 0#0;exact⟨j,by lia,hf⟩
theorem VT{p:Bool}{x:Int}(h:1<=Fm p x):p=true/\1<=x:=by
 unfold Fm at h
 split at h
 ·rename_i z;exact⟨z,h⟩
 ·lia
theorem MH(h0:0<0#9/G)(c:qX):∀(r:qX) {u:Nat},u<0#9/G->1<=E4 G j3 (r++c) u->∃v,v<0#9/G/\1<=E4 G j3 c v
 |[],u,hu,h=>⟨u,hu,h⟩
 |s::r,u,hu,h=>by obtain⟨j,hj,hf⟩:=Fy (show 1<=BO G _ from h);exact MH h0 c r (eW _ h0) (VT hf).2
theorem Td(h0:0<0#9/G){r c:qX}(h:1<=Cs G j3 (r++c)):1<=Cs G j3 c:=by obtain⟨u,hu,hc⟩:=Fy (show 1<=BO _ _ from h);obtain⟨v,hv,hw⟩:=MH h0 c r hu hc;exact fe hw (E3 (λk _=>Bo G j3 c k) hv)
theorem FY{m:Nat}{ns:qX}(h:i+m<=1#4):(A7 g j3 m ns).getD i 0=j3.getD (Aw g ((ns.drop i).take m)).toNat 0:=by unfold A7;rw[AS 0#0];rfl
theorem Nv(l:qX)(k i:Nat):(l.drop k).getD i 0=l.getD (k+i) 0:=by rw[cW,cW,gR]
theorem Te{m:Nat}{ns:qX}{k:Nat}(hk:k<=1#4)(m1:1<=m):A7 g j3 m (ns.take k)=(A7 g j3 m ns).take (k+1-m):=by
 have l1:(ns.take k).length=k:=by rw[dI];lia
 refine Ag (by rw[A8,l1,dI,A8,gG (Nat.sub_le_sub_right (Nat.succ_le_succ hk) m)]) λi hi=>?_;rw[A8,l1]at hi;rw[GW hi,FY 0#0,FY 0#0]
 congr 3
 rw[iB,List.take_take,gG 0#0]
theorem Tf{m:Nat}{ns:qX}{k:Nat}(hk:k+m<=1#4+1)(m1:1<=m):A7 g j3 m (ns.drop k)=(A7 g j3 m ns).drop k:=by have l1:(ns.drop k).length=1#4-k:=dq ..;refine Ag (by rw[A8,l1,dq,A8,Nat.sub_right_comm (1#4+1),Nat.sub_add_comm (show k<=1#4 by lia)]) λi hi=>?_;rw[A8,l1]at hi;rw[Nv,FY 0#0,FY 0#0,ig]
def NB(p:qY):List V:=[.int (p.1:Int),.int (p.2:Int)]
abbrev B9(K:qW)(H:Hp):List qS->List (qY)->Prop:=Paired λp x=>Ai K H p (NB x)
variable{L:List (qY)}
theorem B9.same{K:qW}(e:AF H H')(h:B9 K H ps L):B9 K H' ps L:=Paired.mapP h λ_ _ z=>z.same' e
theorem Paired.app{F:α->β->Prop}{a:List α}{b:List β}{c:List α}{d:List β}(p:Paired F a b)(h:Paired F c d):Paired F (a++c) (b++d):=by
 induction p with
 |nil=>exact h
 |cons r _ ih=>exact .cons r ih
theorem Ai.updL{K:qW}{u:HO}(hd:H d=some 25#9)(q:Ai K H a xs):Ai K 29#3 a xs:=by
 rcases q with (z|⟨o,z⟩)|z
 ·exact .inl (.inl (by rw[AI (De z hd λy=>nomatch y)];exact z))
 ·exact .inl (.inr ⟨o,by rw[AI (De z hd λy=>nomatch y)];exact z⟩)
 ·exact .inr z
theorem B9.upd{K:qW}{u:HO}(hd:H d=some 25#9)(h:B9 K H ps L):B9 K 29#3 ps L:=Paired.mapP h λ_ _ z=>z.updL hd
theorem Zc{p:α->Bool}{j:α}(h:p j=true):[j].filter p=[j]:=by rw[List.filter_cons_of_pos h];rfl
theorem Zd{p:α->Bool}{j:α}(h:p j=false):[j].filter p=[]:=by rw[List.filter_cons_of_neg (by rw[h];decide)];rfl
def Bw(p:qY):List BP:=[Sum.inl (p.1:Int),Sum.inl (p.2:Int)]
theorem MI{p q:qY}(h:Bw p=Bw q):p=q:=by
 unfold Bw at h
 injection h with h1 h2
 injection h2 with h2 _
 have a:=Sum.inl.inj h1;have b:=Sum.inl.inj h2;exact Prod.ext 0#0 0#0
def BC(A:List (qY))(vs:List V):List (List BP×V):=List.zipWith (λa v=>(Bw a,v)) A vs
theorem C4{A:List (qY)}{vs:List V}(h:4#5=4#0):(BC A vs).length=4#0:=by unfold BC;rw[List.length_zipWith,h,Nat.min_self]
theorem Cg:∀{A:List (qY)} {vs:List V} {a:qY},a∉A->BV (BC A vs) (Bw a)=none
 |[],_,_,_=>rfl
 |_::_,[],_,_=>rfl
 |b::A,v::vs,a,h=>by
  have n1:¬Bw b=Bw a:=λe=>h (by rw[MI e];exact ce)
  show BV ((Bw b,v)::BC A vs) (Bw a)=none;rw[Cp (show ¬(Bw b,v).1=Bw a from n1)];exact Cg λe=>h (cZ _ e)
theorem B5:∀{A:List (qY)} {vs:List V} {i:Nat} {a:qY} {v:V},22#9->A[i]?=some a->vs[i]?=some v->BV (BC A vs) (Bw a)=some v
 |[],_,_,_,_,_,h,_=>by simp at h
 |_::_,[],_,_,_,_,_,h=>by simp at h
 |b::A,v::vs,0,a,w,nd,h1,h2=>by simp at h1 h2;subst h1 h2;exact Dq rfl
 |b::A,v::vs,i+1,a,w,nd,h1,h2=>by
  simp at h1 h2;have nd':=dR.mp nd;have n1:¬Bw b=Bw a:=λe=>nd'.1 (by rw[MI e];exact cp h1)
  show BV ((Bw b,v)::BC A vs) (Bw a)=some w;rw[Cp (show ¬(Bw b,v).1=Bw a from n1)];exact B5 nd'.2 h1 h2
theorem Iw{A:List (qY)}{vs:List V}{a:qY}{v:V}(hl:4#5=4#0)(h:a∉A):CH (BC A vs) (Bw a) v=BC (A++[a]) (vs++[v]):=by rw[Ln _ (Cg h)];unfold BC;rw[List.zipWith_append hl.symm];rfl
structure EV(K:qW)(H:Hp)(ls:List qS)(A:List (qY))(F:qY->List (qY)):Prop where
 n:ls.length=4#0
 nd:ls.Nodup
 e:∀(i:Nat) (a:qY) (l:qS),A[i]?=some a->ls[i]?=some l->∃ps:List qS,H l=some 9#1/\B9 K H ps (F a)
variable{F:qY->List (qY)}{ls:List qS}
theorem EV.same{K:qW}{A:List (qY)}(e:AF H H')(g:EV K H ls A F):EV K H' ls A F:=
 ⟨g.n,g.nd,λi a l h1 h2=>by obtain⟨ps,h3,h4⟩:=g.e i a l h1 h2;exact⟨ps,e _ _ h3,B9.same e h4⟩⟩
theorem EV.snoc{K:qW}{A:List (qY)}(g:EV K H ls A F){l:qS}{a:qY}(hl:l∉ls)(h:H l=some (.lst []))(hF:F a=[]):EV K H (ls++[l]) (A++[a]) F:=by
 refine⟨by rw[cR,cR,g.n];rfl,fD.mpr ⟨g.nd,dR.mpr ⟨cn,ev⟩,λx hx y hy e=>hl (by rw[<-cQ.mp hy,<-e];exact hx)⟩,λi b k h1 h2=>?_⟩
 by_cases z:i<A.length
 ·rw[dG z]at h1;rw[dG (by rw[g.n];exact z)]at h2;exact g.e i b k h1 h2
 ·rw[cq 0#0]at h1;rw[cq (by rw[g.n];lia),g.n]at h2;have z0:i-4#0=0:=by have:=(cP.mp h1).1;simp at this;lia
  rw[z0]at h1 h2;cases h1;cases h2;exact⟨[],h,by rw[hF];exact .nil⟩
section
variable{P:qU}{w:qV}{K:qW}
theorem DW.lst(z:DW P w K H d kvs){b:qS}(h:H b=some 3#2)(u:HO):AU H d u b=some 3#2:=by obtain⟨bs,h1,_⟩:=z;rw[AI (De h h1 λy=>nomatch y)];exact h
theorem DW.prv(z:DW P w K H d kvs)(h:B9 K H ps L)(u:HO):B9 K 29#3 ps L:=by obtain⟨bs,h1,_⟩:=z;exact Paired.mapP h λ_ _ y=>y.upd' h1
theorem DW.grl(z:DW P w K H d kvs){A:List (qY)}(g:EV K H ls A F)(u:HO):EV K 29#3 ls A F:=
 ⟨g.n,g.nd,λi a l h1 h2=>by obtain⟨ps,h3,h4⟩:=g.e i a l h1 h2;exact⟨ps,z.lst h3 u,z.prv h4 u⟩⟩
theorem EV.out{A:List (qY)}(g:EV K H ls A F){l:qS}(h:H l=none):l∉ls:=λz=>by
 obtain⟨i,hi⟩:=d9.mp z;have hlt:=(cP.mp hi).1;have hA:i<4#0:=by rw[<-g.n];exact hlt
 obtain⟨ps,h3,_⟩:=g.e i A[i] l (cc hA) hi;rw[h]at h3;cases h3
end
section
variable{P:qU}{w:qV}{K:qW}
theorem DW.updL(z:DW P w K H d kvs){l:qS}(hl:H l=some 3#2)(u:HO):DW P w K (AU H l u) d kvs:=by obtain⟨bs,h1,h3,h4⟩:=z;exact⟨bs,by rw[AI (De h1 hl λy=>nomatch y)];exact h1,h3,λp hp=>Ai.updL hl (h4 p hp)⟩
theorem EV.push{A:List (qY)}{F':qY->List (qY)}(g:EV K H ls A F)(nd:22#9){a:qY}{l:qS}{q:qS}{x:qY}(hj:A[j]?=some a)(hl:ls[j]?=some l)(h:H l=some 9#1)(hp:B9 K H ps (F a))(hq:Ai K H q (NB x))(hF:∀b,F' b=if a=b then F b++[x] else F b):EV K (AU H l (.lst ((ps++[q]).map 6#4))) ls A F':=by
 refine⟨g.n,g.nd,λi b k h1 h2=>?_⟩
 by_cases e:i=j
 ·subst e;rw[hj]at h1;rw[hl]at h2;cases h1;cases h2;refine⟨_,AD,?_⟩;rw[hF,qF rfl];exact Paired.app (B9.upd h hp) (.cons (Ai.updL h hq) .nil)
 ·have nk:k≠l:=λz=>by
   have a1:=cP.mp h2;have a2:=cP.mp hl;exact e ((iC (h₀:=a1.1) (h₁:=a2.1) g.nd).mp (by rw[a1.2,a2.2,z]))
  have nb:¬a=b:=λz=>by have a1:=cP.mp h1;have a2:=cP.mp hj;exact e ((iC (h₀:=a1.1) (h₁:=a2.1) nd).mp (by rw[a1.2,a2.2,z]))
  obtain⟨ps',h3,h4⟩:=g.e i b k h1 h2;refine⟨ps',by rw[AI nk];exact h3,?_⟩;rw[hF,qE nb];exact B9.upd h h4
end
section
variable{P:qU}{w:qV}{K:qW}{u:HO}
theorem DR.updL(z:DR P w K H d u kvs){l:qS}(hl:H l=some 3#2)(v:HO):DR P w K (AU H l v) d u kvs:=by
 rcases z with⟨bs,h1,h2,h3,h4⟩
 have ne:d≠l:=by
  refine De h1 hl λy=>?_;rcases h2 with e|⟨o,e⟩
  ·rw[e]at y;cases y
  ·rw[e]at y;cases y
 exact⟨bs,by rw[AI ne];exact h1,h2,h3,λp hp=>Ai.updL hl (h4 p hp)⟩
theorem DR.updX(z:DR P w K H d u kvs){kvs2:List (List BP×V)}(x:DW P w K H d2 kvs2)(ne:d≠d2)(v:HO):DR P w K (AU H d2 v) d u kvs:=by rcases z with⟨bs,h1,h2,h3,h4⟩;obtain⟨bs2,g1,_⟩:=x;exact⟨bs,by rw[AI ne];exact h1,h2,h3,λp hp=>(h4 p hp).upd' g1⟩
end
def Wb(P:qU)(w:qV)(K:qW)(H HX:Hp)(d2:qS)(A2:List (qY))(B:qY->List (qY)):=∃ls2:List qS,(∀l∈ls2,H l=none)/\DW P w K HX d2 16#9/\EV K HX ls2 A2 B
variable{B:qY->List (qY)}
theorem Tg{P:qU}{w:qV}{K:qW}{A2:List (qY)}{l:qS}{k:qY}{u:HO}(ln:∀l∈ls2,H l=none)(w0:DW P w K HX d2 16#9)(g:EV K HX ls2 A2 B)(hl:HX l=some (.lst []))(nl:l∉ls2)(h0:H l=none)(hk:k∉A2)(hB:B k=[])(w1:DW P w K 27#4 d2 (CH 16#9 (Bw k) 9#5)):(∀x∈ls2++[l],H x=none)/\DW P w K 27#4 d2 (BC (A2++[k]) ((ls2++[l]).map 6#4))/\EV K 27#4 (ls2++[l]) (A2++[k]) B:=by
 rw[Iw (by rw[cO];exact g.n) hk]at w1;refine⟨λx hx=>?_,by rw[cX];exact w1,(w0.grl g u).snoc nl (w0.lst hl u) hB⟩;rcases cV.mp hx with z|z
 ·exact ln x z
 ·rw[cQ.mp z];exact h0
theorem Wb.put{P:qU}{w:qV}{K:qW}{A2:List (qY)}{l:qS}{k:qY}{u:HO}(ln:∀l∈ls2,H l=none)(w0:DW P w K HX d2 16#9)(g:EV K HX ls2 A2 B)(hl:HX l=some (.lst []))(nl:l∉ls2)(h0:H l=none)(hk:k∉A2)(hB:B k=[])(w1:DW P w K 27#4 d2 (CH 16#9 (Bw k) 9#5)):Wb P w K H 27#4 d2 (A2++[k]) B:=⟨_,Tg ln w0 g hl nl h0 hk hB w1⟩
section
variable{P:qU}{w:qV}{K:qW}{u:HO}
theorem DR.isX(z:DR P w K H d u kvs):∃φ,H d=some u/\(u=.ext φ\/∃o,u=.frz o (.ext φ)):=by rcases z with⟨bs,h1,h2,_⟩;exact⟨_,h1,h2⟩
theorem DR.sqt(z:DR P w K H d u kvs)(q:Ai K H a xs)(v:HO):Ai K (AU H d v) a xs:=by
 obtain⟨φ,h1,h2⟩:=z.isX;have ne:∀{b:qS} {y:HO},H b=some y->y≠u->b≠d:=λ{b y} hb n e=>n (by rw[e,h1]at hb;exact (Option.some.inj hb).symm)
 rcases q with (y|⟨o,y⟩)|y
 ·exact .inl (.inl (by rw[AI (ne y (by rcases h2 with e|⟨o',e⟩<;>rw[e]<;>exact λt=>nomatch t))];exact y))
 ·exact .inl (.inr ⟨o,by rw[AI (ne y (by rcases h2 with e|⟨o',e⟩<;>rw[e]<;>intro t<;>cases t))];exact y⟩)
 ·exact .inr y
theorem DR.lst(z:DR P w K H d u kvs){b:qS}(h:H b=some 3#2)(v:HO):AU H d v b=some 3#2:=by
 obtain⟨φ,h1,h2⟩:=z.isX
 have ne:b≠d:=λe=>by rw[e,h1]at h;have h:=Option.some.inj h;rcases h2 with t|⟨o,t⟩<;>rw[t]at h<;>cases h
 rw[AI ne];exact h
theorem DR.grl(z:DR P w K H d u kvs){A:List (qY)}(g:EV K H ls A F)(v:HO):EV K (AU H d v) ls A F:=
 ⟨g.n,g.nd,λi a l h1 h2=>by obtain⟨ps,h3,h4⟩:=g.e i a l h1 h2;exact⟨ps,z.lst h3 v,Paired.mapP h4 λ_ _ y=>z.sqt y v⟩⟩
theorem EV.keep{A:List (qY)}(g:EV K H ls A F){l:qS}(hl:H l=some 3#2)(nl:l∉ls)(v:HO):EV K (AU H l v) ls A F:=
 ⟨g.n,g.nd,λi a k h1 h2=>by obtain⟨ps,h3,h4⟩:=g.e i a k h1 h2;exact⟨ps,by rw[AI λe=>nl (by rw[<-e];exact cp h2)];exact h3,B9.upd hl h4⟩⟩
theorem AF.both{H0:Hp}(e:AF H H0)(d:qS)(v:HO):AF (AU H d v) (AU H0 d v):=λb y h=>by
 by_cases z:b=d
 ·subst z;rw[AD]at h⊢;exact h
 ·rw[AI z]at h⊢;exact e b y h
end
theorem PB{A:List (qY)}{k:List BP}{v:V}(h:(BC A 2#5)[i]?=some (k,v)):∃a l,A[i]?=some a/\ls[i]?=some l/\k=Bw a/\v=.ref l:=by
 unfold BC at h;rw[List.getElem?_zipWith,cT]at h;cases ha:A[i]? with
 |none=>rw[ha]at h;simp at h
 |some a =>
  cases hl:ls[i]? with
  |none=>rw[ha,hl]at h;simp at h
  |some l =>
   rw[ha,hl]at h;simp at h;exact⟨a,l,rfl,rfl,h.1.symm,h.2.symm⟩
theorem MJ{F:α->β->Prop}{b:α}{d:β}{a:List α}{c:List β}(h:Paired F (a++[b]) (c++[d])):Paired F a c/\F b d:=by
 have ln:=Paired.length h;rw[cR,cR,cm,cm]at ln
 induction a generalizing c with
 |nil =>
  cases c with
  |nil=>cases h with|cons r _=>exact⟨.nil,r⟩
  |cons y c=>rw[gf,dU]at ln;lia
 |cons x a ih =>
  cases c with
  |nil=>rw[gf,dU]at ln;lia
  |cons y c =>
   cases h with
   |cons r t =>
    obtain⟨h1,h2⟩:=ih t (by rw[dU,dU]at ln;lia);exact⟨.cons r h1,h2⟩
theorem VU{K:qW}{A:List (qY)}(g:EV K H ls A F){l:qS}{a:qY}(hl:l∉ls)(h:H l=some 9#1)(hp:B9 K H ps (F a)):EV K H (ls++[l]) (A++[a]) F:=by
 refine⟨by rw[cR,cR,g.n];rfl,fD.mpr ⟨g.nd,dR.mpr ⟨cn,ev⟩,λx hx y hy e=>hl (by rw[<-cQ.mp hy,<-e];exact hx)⟩,λi b k h1 h2=>?_⟩
 by_cases z:i<A.length
 ·rw[dG z]at h1;rw[dG (by rw[g.n];exact z)]at h2;exact g.e i b k h1 h2
 ·rw[cq 0#0]at h1;rw[cq (by rw[g.n];lia),g.n]at h2;have z0:i-4#0=0:=by have:=(cP.mp h1).1;simp at this;lia
  rw[z0]at h1 h2;cases h1;cases h2;exact⟨ps,h,hp⟩
def Th(P:qU)(w:qV)(K:qW)(mg:Str->Option qR)(base:Heap)(k:Nat)(f:qS)(F:qY->List (qY))(B:qY->Prop)(H:Hp):=∃fd ps sp oc od fd' sl,FC P w K mg base 13#8 k f fd ps sp/\Ff K fd ps []/\H f=some (.frz ⟨oc,od,.func fd',sl⟩ CP) /\
 ∀x:qY,B x->∀(b:qS) (H1:Hp) (Q:VK),AF H H1->Ai K H1 b (NB x)->(∀l qs H2,AF H1 H2->H1 l=none->H2 l=some 26#0->B9 K H2 qs (F x)->Q 9#5 H2)->sp [.ref b] H1 Q E0
def Gb(h N:Nat)(x:qY):Prop:=x.1<h/\x.2<N
def Ze(h N:Nat)(F:qY->List (qY)):=∀x,Gb h N x->(F x).length<=9/\∀y∈F x,Gb h N y
theorem Kp{h N:Nat}{A:List (qY)}(nd:22#9)(hA:∀a∈A,Gb h N a):4#0<=h*N:=by
 have nd2:(A.map λa=>a.1*N+a.2).Nodup:=by
  rw[List.Nodup,List.pairwise_map];refine nd.imp_of_mem λ{a b} ha hb ne e=>ne ?_
  have a2:=(hA a ha).2;have b2:=(hA b hb).2
  have e1:a.1=b.1:=by
   have q1:(a.1*N+a.2)/N=a.1:=by rw[fW,Nat.mul_add_div 0#0,i4 a2,jN]
   have q2:(b.1*N+b.2)/N=b.1:=by rw[fW,Nat.mul_add_div 0#0,i4 b2,jN]
   rw[<-q1,e,q2]
  refine Prod.ext e1 ?_;rw[e1]at e;lia
 have e:=nd2.length_le_of_subset (l₂:=List.range (h*N)) λn hn=>by obtain⟨a,ha,rfl⟩:=c6.mp hn;obtain⟨h1,h2⟩:=hA a ha;have:=g8 N (show a.1+1<=h from h1);rw[gW]at this;exact dE.mpr 0#0
 rwa [cO,cw]at e
inductive Ix(P:qU)(w:qV)(K:qW)(mg:Str->Option qR)(base:Heap)(k:Nat)(vs:List V)(H:Hp)(Q:VK)(z3_:XK):Prop
 |m(a f:qS)(ss:List qS)(S:List (qY))(h N:Nat)(F:qY->List (qY)):vs=[.ref a,.ref f]->Ad K H a (ss.map 6#4)->B9 K H ss S->S.length<=100->h<=9->N<=512->(∀s∈S,Gb h N s)->Ze h N F->Th P w K mg base k f F (Gb h N) H->(∀d H' ls A,AF H H'->H d=none->(∀l∈ls,H l=none)->DW P w K H' d 20#5->EV K H' ls A F->Es S F A->(∀a∈A,Gb h N a)->Q 2#3 H')->Ix P w K mg base k vs H Q z3_
noncomputable def DF(A2:List (qY))(B:qY->List (qY)):Nat:=(A2.map λp=>(B p).length).sum
theorem Gc(A2:List (qY))(B:qY->List (qY))(k:qY):DF (A2++[k]) B=DF A2 B+(B k).length:=by unfold DF;rw[cX,jK];simp
variable{p0:qY}
theorem MK{B:qY->List (qY)}{a p0:qY}:∀{A2:List (qY)},p0∉A2->DF A2 (λp=>if p0=p then B p++[a] else B p)=DF A2 B
 |[],_=>rfl
 |b::A2,h=>by
  have ih:=MK (B:=B) (a:=a) (p0:=p0) (A2:=A2) λz=>h (cZ _ z)
  unfold DF at ih⊢;rw[dN,dN,fq,fq,ih];dsimp only;rw[qE λz=>h (by rw[z];exact ce)]
theorem J8{B:qY->List (qY)}{a p0:qY}:∀{A2:List (qY)},A2.Nodup->p0∈A2->DF A2 (λp=>if p0=p then B p++[a] else B p)=DF A2 B+1
 |b::A2,nd,h=>by
  obtain⟨h1,h2⟩:=dR.mp nd
  by_cases e:p0=b
  ·have ih:=MK (B:=B) (a:=a) (p0:=p0) (A2:=A2) (by rw[e];exact h1);unfold DF at ih⊢;rw[dN,dN,fq,fq,ih];dsimp only;rw[qF e,cR,cm];lia
  ·have ih:=J8 (B:=B) (a:=a) (p0:=p0) h2 ((dA.mp h).resolve_left e);unfold DF at ih⊢;rw[dN,dN,fq,fq,ih];dsimp only;rw[qE e];lia
theorem Kq{B:qY->List (qY)}:∀{M A1:List (qY)},M.Nodup->(∀p∈M,p∈A1\/B p=[])->DF M B<=DF A1 B
 |[],_,_,_=>di _
 |b::M,A1,nd,h=>by
  obtain⟨h1,h2⟩:=dR.mp nd;have e1:DF (b::M) B=(B b).length+DF M B:=by unfold DF;rw[List.map_cons,List.sum_cons]
  rcases h b ce with z|z
  ·have e2:DF A1 B=(B b).length+DF (A1.erase b) B:=by
    have:=(List.Perm.map (λp=>(B p).length) (List.perm_cons_erase z)).sum_nat;unfold DF;rw[this,dN,fq]
   have ih:=Kq (B:=B) (M:=M) (A1:=A1.erase b) h2 λp hp=>(h p (cZ _ hp)).imp_left λy=>(jH λw=>h1 (by rw[<-w];exact hp)).mpr y
   lia
  ·have ih:=Kq (B:=B) (M:=M) (A1:=A1) h2 λp hp=>h p (cZ _ hp)
   rw[e1,z];simpa using ih
structure Hf(A:List (qY))(F:qY->List (qY))(i:Nat)(D:(qY)->(qY)->Prop)(n:Nat)(A2:List (qY))(B:qY->List (qY)):Prop where
 t:He A F i D n A2 B
 sum:DF A2 B<=n
section
variable{A:List (qY)}{n:Nat}{D:(qY)->(qY)->Prop}{A2:List (qY)}
theorem Hf.nd(t:Hf A F i D n A2 B):A2.Nodup:=t.t.nd
theorem Hf.sub(t:Hf A F i D n A2 B):∀p∈A2,p∈A:=t.t.sub
theorem Hf.got(t:Hf A F i D n A2 B):∀p∈A.take i,p∈A2:=t.t.got
theorem Hf.no(t:Hf A F i D n A2 B):∀p,p∉A2->B p=[]:=t.t.no
theorem Hf.on(t:Hf A F i D n A2 B):∀p q,q∈B p↔(q∈A.take i/\p∈F q)\/D p q:=t.t.on
theorem Hf.len(t:Hf A F i D n A2 B):∀p,(B p).length<=n:=t.t.len
theorem Hf.key(t:Hf A F i D n A2 B){k:qY}(hk:k∉A2)(hA:k∈A):Hf A F i D n (A2++[k]) B:=⟨t.t.key hk hA,by rw[Gc,t.no k hk];exact t.sum⟩
theorem Hf.push{a:qY}(t:Hf A F i (λp q=>q=a/\p∈L.take j) n A2 B)(hp:L[j]?=some p0)(m:p0∈A2):Hf A F i (λp q=>q=a/\p∈L.take (j+1)) (n+1) A2 (λp=>if p0=p then B p++[a] else B p):=⟨t.t.push hp m,by rw[J8 t.nd m];exact Nat.succ_le_succ t.sum⟩
end
inductive PD(P:qU)(w:qV)(K:qW)(vs:List V)(H:Hp)(Q:VK)(z3_:XK):Prop
 |m(d:qS)(u:HO)(ls:List qS)(A:List (qY))(F:qY->List (qY)):vs=[.ref d]->DR P w K H d u 20#5->EV K H ls A F->22#9->(∀a∈A,∀p∈F a,p∈A)->4#0<=4608->(∀a∈A,(F a).length<=9)->(∀u' H' d2 ls2 A2 B,AF 7#4 H'->DR P w K H' d u' 20#5->H d2=none->(∀l∈ls2,H l=none)->DW P w K H' d2 16#9->EV K H' ls2 A2 B->Fu 7000000 A F A2 B->DF A2 B<=41472->Q 6#2 H')->PD P w K vs H Q z3_
def bN(P:qU)(w:qV)(K:qW)(H HX:Hp)(d p:qS)(S:List (qY))(F:qY->List (qY))(A W:List (qY)):=∃ls ws,AF H HX/\(∀l∈ls,H l=none)/\DW P w K HX d 20#5/\EV K HX ls A F/\HX p=some (.lst (ws.map 6#4))/\B9 K HX ws W/\p∉ls/\FF S F A W
theorem Iy{A:List (qY)}{vs:List V}{a:qY}(n:4#5=4#0)(nd:22#9):(BV (BC A vs) (Bw a)).isSome=decide (a∈A):=by
 by_cases m:a∈A
 ·obtain⟨i,hi⟩:=d9.mp m;have il:=(cP.mp hi).1;rw[B5 nd hi (cc (by rw[n];exact il)),qH m];rfl
 ·rw[Cg m,qI m];rfl
end L2
namespace L2
open PySem PySem.Spec PyProof.Rows
variable{E Q:qR->qT->Prop}{H:Hp}{X:Cx}{d:qS}{kvs:List (List BP×V)}{ad:List (qS×Obj)}{s:qT}{y:V}{σ:St}
section
variable{b:qS}{u:HO}{k:List BP}{A:Around}
theorem Xr(hu:17#6+1<cLine)(I:AT X ad σ H s)(r:DR X.prog X.w X.K H d u kvs)(q:Ai X.K H b 6#5)(h:∀w' s',AT X ad σ H s'->An ((BV kvs k).getD .non) w'->Q w' s'):
  wpAny 1#0 A (call (.builtin "dict.get") [.ref d,.ref b]) Q E s:=by
 obtain⟨bs,xs,h3,h4,rel,z,hd,dd⟩:=r.at I;refine call_meetsIn d8 dd.typeIs fU (iL _ _) (meetsH_dict_get 10#6 d b hd) ⟨tupleKind_room_in1 hu,k,xs,C0 I q,dd,h _ _ (I.tok _) ?_⟩;rw[<-h3];exact (Er.val rel k).getD rfl
theorem Xs{v:qR}(hu:17#6+1<cLine)(I:AT X ad σ H s)(r:DR X.prog X.w X.K H d u kvs)(q:Ai X.K H b 6#5)(ry:An y v)(h:∀w' s',AT X ad σ H s'->An ((BV kvs k).getD y) w'->Q w' s'):
  wpAny 1#0 A (call (.builtin "dict.get") [.ref d,.ref b,v]) Q E s:=by
 obtain⟨bs,xs,h3,h4,rel,z,hd,dd⟩:=r.at I;refine call_meetsIn d8 dd.typeIs fU (iM _ _ _) (meetsH_dict_get_default 10#6 d b hd v) ⟨tupleKind_room_in1 hu,k,xs,C0 I q,dd,h _ _ (I.tok _) ?_⟩;rw[<-h3];exact (Er.val rel k).getD ry
theorem Zf(I:AT X ad σ H s)(r:DR X.prog X.w X.K H d u kvs):s.TypeIs 2#3 "dict"/\∀b,Value.ref d=.ref b->∃ob,s.heap.get? b=some ob/\ob.dict=none:=by obtain⟨bs,xs,h3,h4,rel,z,hd,dd⟩:=r.at I;refine⟨28#3,λb q=>?_⟩;cases q;obtain⟨ob,_,_,h1,h2,_⟩:=dd;exact⟨ob,h1,h2.2.1⟩
end
def Xt(P:qU)(w:qV)(K:qW)(td ty:TE):TE:=λσ H Q=>td σ H λx H1=>∃d,x=.ref d/\(∃u kvs,DR P w K H1 d u kvs)/\ty σ H1 λy H2=>∃(b:qS) (u:HO) (kvs:List (List BP×V)) (k:List BP),y=.ref b/\DR P w K H2 d u kvs/\Ai K H2 b 6#5/\Q ((BV kvs k).getD .non) H2
def Xu(P:qU)(w:qV)(K:qW)(td ty tx:TE):TE:=λσ H Q=>td σ H λx H1=>∃d,x=.ref d/\(∃u kvs,DR P w K H1 d u kvs)/\ty σ H1 λy H2=>tx σ H2 λz H3=>∃(b:qS) (u:HO) (kvs:List (List BP×V)) (k:List BP),y=.ref b/\DR P w K H3 d u kvs/\Ai K H3 b 6#5/\Q ((BV kvs k).getD z) H3
section
variable{P:qU}{w:qV}{K:qW}{o e f:Expr}{apos cpos:Pos}{td ty tx:TE}
theorem Qo(hP:27#0=P)(hw:X.w=w)(hK:X.K=K)(hu:8#1+1<cLine)(ho:PE X o td)(he:PE X e ty)(m:M1 X o "get" apos e cpos):PE X (.Call (.Attribute o "get" apos) [e] [] cpos) (Xt P w K td ty):=by subst hP hw hK;intro ad s σ H Q I h;refine wpAny_Call_method m.base m.few m.line fC d8 gg (BB (ho ad s σ H _ I h) λu s1 hz=>?_);obtain⟨x,H1,I1,rx,a,ex,hz2,q1⟩:=hz;obtain⟨u1,kvs1,d1⟩:=hz2;subst ex;obtain rfl:u=Value.ref a:=rx;obtain⟨t1,t2⟩:=Zf I1 d1;refine⟨t1,t2,?_⟩;rw[m.trees];refine Calls.callWith_builtin rfl (Calls.evalArgs_plain (Calls.spliced_cons (BB (he ad s1 σ H1 _ I1 q1) λiv s2 hz=>Calls.spliced_nil ?_)));obtain⟨y,H2,I2,ry,b,u2,kvs2,k,ey,d2,sb,q2⟩:=hz;subst ey;obtain rfl:iv=Value.ref b:=ry;exact Xr hu I2 d2 sb λw' s3 I3 rw'=>⟨_,H2,I3,rw',q2⟩
theorem Qp(hP:27#0=P)(hw:X.w=w)(hK:X.K=K)(hu:8#1+1<cLine)(ho:PE X o td)(he:PE X e ty)(hf:PE X f tx)(m:M2 X o "get" apos e f cpos):PE X (.Call (.Attribute o "get" apos) [e,f] [] cpos) (Xu P w K td ty tx):=by subst hP hw hK;intro ad s σ H Q I h;refine wpAny_Call_method m.base m.few m.line fC d8 gg (BB (ho ad s σ H _ I h) λu s1 hz=>?_);obtain⟨x,H1,I1,rx,a,ex,hz2,q1⟩:=hz;obtain⟨u1,kvs1,d1⟩:=hz2;subst ex;obtain rfl:u=Value.ref a:=rx;obtain⟨t1,t2⟩:=Zf I1 d1;refine⟨t1,t2,?_⟩;rw[m.trees];refine Calls.callWith_builtin rfl (Calls.evalArgs_plain (Calls.spliced_cons (BB (he ad s1 σ H1 _ I1 q1) λiv s2 hz=>?_)));obtain⟨y,H2,I2,ry,q2⟩:=hz;refine Calls.spliced_cons (BB (hf ad s2 σ H2 _ I2 q2) λfv s3 hz=>Calls.spliced_nil ?_);obtain⟨z,H3,I3,rz,b,u2,kvs2,k,ey,d2,sb,q3⟩:=hz;subst ey;obtain rfl:iv=Value.ref b:=ry;exact Xs hu I3 d2 sb rz λw' s4 I4 rw'=>⟨_,H3,I4,rw',q3⟩
end
abbrev Iz(M:List (qY))(f:qY->Nat):List (List BP×V):=BC M (M.map λp=>V.int ((f p:Nat):Int))
theorem Ti(M:List (qY))(f:qY->Nat):(Iz M f).length=13#3:=C4 (by rw[cO])
theorem Tj{M:List (qY)}{f:qY->Nat}{x:qY}{n:Nat}(h:x∉M):CH (Iz M f) (Bw x) (.int ((n:Nat):Int))=Iz (M++[x]) (λp=>if p∈M then f p else n):=by
 unfold Iz;rw[Iw (by rw[cO]) h]
 congr 1
 rw[cX,dN,gU]
 congr 1
 ·exact dc λp hp=>by show V.int ((f p:Nat):Int)=V.int (((if p∈M then f p else n):Nat):Int);rw[qF hp]
 ·show[V.int ((n:Nat):Int)]=[V.int (((if x∈M then f x else n):Nat):Int)];rw[qE h]
theorem ML{M:List (qY)}{f:qY->Nat}(nd:M.Nodup)(x:qY):BV (Iz M f) (Bw x)=if x∈M then some (.int ((f x:Nat):Int)) else none:=by
 by_cases h:x∈M
 ·obtain⟨i,hi⟩:=Et h;rw[qF h];exact B5 nd hi (by rw[cT,hi];rfl)
 ·rw[qE h];exact Cg h
inductive Tk(P:qU)(w:qV)(K:qW)(vs:List V)(H:Hp)(Q:VK)(z3_:XK):Prop
 |m(d e:qS)(u:HO)(ls es:List qS)(A:List (qY))(F:qY->List (qY))(E:List (qY)):vs=[.ref d,.ref e]->DR P w K H d u 20#5->EV K H ls A F->22#9->(∀a∈A,∀p∈F a,p∈A)->4#0<=4608->(∀a∈A,(F a).length<=9)->H e=some (.lst (es.map 6#4))->B9 K H es E->E.length<=4608->(∀u' H' d2 M f,AF 7#4 H'->DR P w K H' d u' 20#5->H d2=none->DW P w K H' d2 (Iz M f)->ET A F E M f->Q 6#2 H')->Tk P w K vs H Q z3_
def Xv(P:qU)(w:qV)(K:qW)(HB HX:Hp)(d2 p:qS)(A:List (qY))(F:qY->List (qY))(B:qY->List (qY))(E M0:List (qY))(n:Nat)(L:List (qY)):=∃M f R rs,AF HB HX/\DW P w K HX d2 (Iz M f)/\HX p=some (.lst (rs.map 6#4))/\B9 K HX rs R/\R.length<=DF M B/\(R=[]\/M0.length<13#3)/\M0.length<=13#3/\Iu A F E M f n L R
end L2
namespace L2
open PySem PySem.Spec PyProof.Rows RW
variable{F:qY->List (qY)}{H H':Hp}{a d:qS}{body:Expr}{fns:List Str}{params:Arguments}{q:Str}{scope:Scope}{ts:List qS}{xs ys:List V}
noncomputable def Bq(h1 h2:Nat):List (qY):=(List.range h2).map λn=>(n,2^h1-1)
inductive MM(K:qW)(vs:List V)(H:Hp)(Q:VK)(z3_:XK):Prop
 |m(a b:qS)(g lf:Int)(tf:qX)(mf:Nat)(lb:Int)(tb:qX)(mb:Nat):vs=[.ref a,.ref b]->Aa H a g lf tf mf->A5 g lf tf mf lf tf mf->g^(mf-1)<=9->Aa H b g lb tb mb->2#6/0#7<=9->(∀D ps H',AF H H'->H D=none->H' D=some 9#1->B9 K H' ps (Bq (g^(mf-1)).toNat (2#6/0#7))->Q 2#7 H')->MM K vs H Q z3_
def Kr(K:qW)(H:Hp):List qS->List (Nat×(qY))->Prop:=Paired λt x=>∃q,H t=some (.tup [.int (x.1:Int),.ref q])/\Ai K H q (NB x.2)
noncomputable def C1(G:Nat)(tf:qX)(h1:Nat)(tb:qX)(p:qY):List (Nat×(qY)):=(List.range G).map λs=>((tb.getD (p.1*G+s) 0).toNat,((p.1*G+s)%(2#6/G),(B6 G tf h1 (p.2:Int) (tb.getD (p.1*G+s) 0)).toNat))
inductive MN(K:qW)(vs:List V)(H:Hp)(Q:VK)(z3_:XK):Prop
 |m(p b q:qS)(ps:List qS)(g lb:Int)(tb:qX)(mb:Nat)(tf:qX)(h1:Nat)(x:qY):vs=[.ref p,.ref b,.ref q]->RK H p ps (DP g.toNat tf h1 h1)->Aa H b g lb tb mb->2#6=2#6/0#7*0#7->Ai K H q (NB x)->x.1<2#6/0#7->(∀D ts H',AF H H'->H D=none->H' D=some 20#7->Kr K H' ts (C1 g.toNat tf h1 tb x)->Q 2#7 H')->MN K vs H Q z3_
theorem Kr.same{K:qW}{L:List (Nat×(qY))}(e:AF H H')(h:Kr K H ts L):Kr K H' ts L:=Paired.mapP h λ_ _ ⟨q,h1,h2⟩=>⟨q,e _ _ h1,h2.same' e⟩
theorem Kr.upd{K:qW}{L:List (Nat×(qY))}{u:HO}(hd:H d=some 25#9)(h:Kr K H ts L):Kr K 29#3 ts L:=Paired.mapP h λt _ ⟨q,h1,h2⟩=>⟨q,by rw[AI λz=>by rw[z,hd]at h1;cases h1];exact h1,h2.updL hd⟩
theorem VV{K:qW}{cl:List (Str×qS)}(h:∀c∈Be cl,H' c=none)(q:Ai K H' a xs):Ai K (Y4 cl H H') a xs:=
 q.imp (λz=>z.imp (λz=>by rw[CG λy=>by rw[h a y]at z;cases z];exact z) λ⟨o,z⟩=>⟨o,by rw[CG λy=>by rw[h a y]at z;cases z];exact z⟩) id
theorem Nw{P:qU}{w:qV}{K:qW}{mg:Str->Option qR}{base:Heap}{k:Nat}{f:qS}{cl:List (Str×qS)}{B:qY->Prop}{DA:List V}{x1:Str}(la:Gy q params body scope cl f H)(ck:Ca cl DA H)(S:Ir [x1] fns scope)(hcl:cl.map (·.1)=fns)(hnd:(Be cl).Nodup)(hbind:∀(pm j8 ct:qR) (us:List qR),10#2=1->bindArgs (PySem.W.kla_fn "<lambda>" q params body scope cl pm j8 ct) ⟨us,[]⟩=pure ([x1].zip us))(hbody:∀(c':qS) (A:Around) (outer:List Env) (s:qT) (HA:Hp) (x:qY) (b:qS),B8 k (A.deeper (PySem.W.envX q scope s.heap.objs.size f 16#6 (cellsFrom (0#6+1) scope.names []++cl)))->B x->AF H HA->Ai K HA b (NB x) ->
   ∃t,PE (Za P w K mg base (x1::fns) q scope f 16#6 cl A outer s HA) body t/\∀Q:VK,(∀D qs H',AF (Ft cl HA) H'->Ft cl HA D=none->H' D=some 26#0->B9 K H' qs (F x)->Q 2#7 H')->t (some 9#2::DA.map some) (Ft cl HA) Q):
  Th P w K mg base (k+1) f F B H:=by
 obtain⟨pm,c',ctv,oc,l1,l2,l3⟩:=la;refine⟨_,[x1],λvs HA QA _=>∃(x:qY) (b:qS),vs=[.ref b]/\B x/\AF H HA/\Ai K HA b (NB x)/\∀l qs H2,AF HA H2->HA l=none->H2 l=some 26#0->B9 K H2 qs (F x)->QA 9#5 H2,_,_,_,_,TR (q:=q) (params:=params) (body:=body) (scope:=scope) (cl:=cl) (fns:=fns) (pm:=pm) (ctv:=ctv) (c':=c') S hcl hnd ?_ ?_,Jy (hbind pm 16#6 ctv),l1,λx xB b HA QA eA sb qA=>⟨x,b,rfl,xB,eA,sb,qA⟩⟩
 ·rintro vs HA QA _ ⟨x,b,rfl,_⟩;rfl
 ·rintro A outer s HA vs QA EA hr ⟨x,b,rfl,xB,eA,sb,qA⟩;obtain⟨t,ht,hq⟩:=hbody c' A outer s HA x b hr xB eA sb;refine⟨DA,oc,eA _ _ l1,eA _ _ l2,l3,ck.same eA,t,ht,hq _ λD qs H' e1 hD hH vq cz=>?_⟩;have out:D∉Be cl:=λz=>by rw[cz D z]at hH;cases hH
  exact qA D qs _ (ME e1) (by rw[<-hD,BR out]) (by rw[CG out];exact hH) (Paired.mapP vq λ_ _ z=>VV cz z)
end L2
namespace L2
open PySem PySem.Spec PyProof.Rows
variable{E:qR->qT->Prop}{T:String}{a d:qS}{h h':Heap}{i j:Nat}{o:Obj}{s:qT}{vs:List qR}{α β:Type}
section
variable{prog:qU}{w:qV}{A:Around}
structure Tl(prog:qU)(w:qV)(d:qS)(o itO:Obj)(T:String)(n:Nat)(P:Nat->qR->Prop)(St:qS->Nat->Heap->Prop):Prop where
 cls:o.cls=.type T
 n1:(Value.type T==Value.type "list")=false
 n2:(Value.type T==Value.type "tuple")=false
 it:∀{s:qT} {A:Around} {E Q:qR->qT->Prop},s.heap.get? d=some o->Q 10#1 {s with heap:=s.heap.push itO}->wpAny 0#8 A (pyIter 2#3) Q E s
 hint:∀{s:qT} {A:Around} {E:qR->qT->Prop} {Q:Bool->qT->Prop},s.TypeIs 2#3 T->Q false s->wpAny 0#8 A 14#1 Q E s
 walks:∀{A:Around} {I:qS},10#9=none->d≠I->Walks prog w A I [I,d] [I] n P (St I)
 st:∀{h:Heap} {I:qS},h.get? d=some o->h.get? I=some itO->St I 0 h
 itf:itO.isFreed=false
theorem Nx{R:Result->qT->Prop}{itO:Obj}{n:Nat}{P:Nat->qR->Prop}{St:qS->Nat->Heap->Prop}(W:Tl prog w d o itO T n P St)(hh:10#9=none)(ho:s.heap.get? d=some o)(hlen:n<=sizeLine)(S:qS)(res:qR)(c₀:Nat)(hS:s.heap.get? S=some {cls:=.type "list",data:=.seq #[] c₀})(hR:∀h' tk acc' c',(∀b o,b≠S->s.heap.get? b=some o->h'.get? b=some o)->h'.get? S=some {cls:=.type "list",dict:=none,data:=.seq acc' c',slots:=#[]}->ItemsOf P acc' n->R (.ok (.ret res)) {s with heap:=h',toks:=tk}):
  wpAny 0#8 A.in1 (Builtin.List.listExtendWith 24#7 2#3 res)
   (λfin s'=>match fin with|.done f=>R (.ok f) s'|.again c'=>c'.quiet=true/\codeAny 0#8 A c' R s') (λe s'=>R 24#8 s') s:=by
 have hT:s.TypeIs 2#3 T:=⟨o,ho,W.cls⟩
 have hSr:S≠d:=λe=>by rw[e,ho]at hS;have z:=qQ Obj.cls (Option.some.inj hS);rw[W.cls]at z;have n1:=W.n1;rw[z]at n1;exact qG n1 0#3
 have hSI:S≠0#6:=dH (cg hS);have hdI:d≠0#6:=dH (cg ho)
 have hSf:S∉[0#6,d]:=λhm=>by
  rcases dA.mp hm with z|z
  ·exact hSI z
  ·exact hSr (cQ.mp z)
 have W':=(W.walks (A:=A.in1) hh hdI).toS
 have key:∀(h:Heap) (c₁ tk:Nat),St s.heap.objs.size 0 h->(∀b o,b≠S->s.heap.get? b=some o->h.get? b=some o) ->
   h.get? S=some {cls:=.type "list",data:=.seq #[] c₁}->codeAny 0#8 A (.builtin "list.extend.loop" ⟨[.ref S,.ref 0#6,res],[]⟩) R {s with heap:=h,toks:=tk}:=by
  intro h c₁ tk hit hk hS₁;refine codeAny_extend_loopS W' hlen S hSf res n 0 _ #[] c₁ rfl (di _) hit hS₁ (ItemsOf.nil _) λs' acc' c' hm hS' hacc=>?_;rw[Moved.eq_with hm];refine hR s'.heap s'.toks acc' c' (λb o hb e=>hm.heap b o (λhmem=>?_) (hk b o hb e)) hS' hacc;rcases dA.mp hmem with e'|hmem
  ·exact hb e'
  ·exact qG 16#1 (by rw[cQ.mp hmem];exact dM _)
 unfold Builtin.List.listExtendWith;refine qC (wpAny_typeOf (T:=T) hT ?_);have h1:Builtin.List.listSameRef 24#7 2#3=false:=by simp[Builtin.List.listSameRef,hSr]
 simp only[h1,W.n1,W.n2,Bool.or_false,Bool.false_eq_true,if_false];refine qC (W.it ho ?_);have kp:∀b o,s.heap.get? b=some o->(s.heap.push itO).get? b=some o:=λb o e=>cS _ e
 refine qC (qP (W.hint ⟨o,kp _ _ ho,W.cls⟩ ?_));have gI:(s.heap.push itO).get? 0#6=some itO:=cy _ W.itf;have hS₁:=kp _ _ hS;refine wpAny_ite_split (λ_=>?_) (λ_=>?_)
 ·refine qC (wpAny_rule ?_);refine qC ?_;show wpAny _ _ (updateSeq S (·.push .none) >>= λ_=>updateSeq S (·.pop)) _ _ _;refine qC (wpAny_updateSeq hS₁ rfl ?_);have hS₂:=et (Obj.mapSeq (·.push 11#3)) hS₁ rfl;refine wpAny_updateSeq (hz:=by seq_fits) hS₂ rfl ?_;have hS₃:=et (Obj.mapSeq (·.pop)) hS₂ rfl;have up:∀b o,b≠S->(s.heap.push itO).get? b=some o->(((s.heap.push itO).update S (Obj.mapSeq (·.push 11#3))).update S (Obj.mapSeq (·.pop))).get? b=some o:=λb o hb e=>(gB _ _ (Ne.symm hb)).trans ((gB _ _ (Ne.symm hb)).trans e)
  exact qD ⟨plainId_quiet PySem.F.plain_extend_loop _,key _ _ _ (W.st (up _ _ (Ne.symm hSr) (kp _ _ ho)) (up _ _ (Ne.symm hSI) gI)) (λb o hb e=>up b o hb (kp b o e)) hS₃⟩
 ·exact qD ⟨plainId_quiet PySem.F.plain_extend_loop _,key _ _ _ (W.st (kp _ _ ho) gI) (λb o _ e=>kp b o e) hS₁⟩
theorem G0{R:List qR->qT->Prop}{itO:Obj}{n:Nat}{P:Nat->qR->Prop}{St:qS->Nat->Heap->Prop}(W:Tl prog w d o itO T n P St)(hh:10#9=none)(ho:s.heap.get? d=some o)(hlen:n<=sizeLine)(q:∀h' tk j6,0#6<11#2->(∀b o,s.heap.get? b=some o->h'.get? b=some o)->ItemsOf P j6 n->R j6.toList {s with heap:=h',toks:=tk}):wpAny 0#8 A (collect 2#3) R E s:=by
 unfold collect;apply qC;apply wpAny_runValue;refine codeAny_builtin PySem.F.entry_proto_collect ?_;rw[A.under_plainId PySem.F.plain_proto_collect];show wpAny _ A.in1 (newList [] >>= λz=>again (.builtin "list.__iadd__" ⟨[z,.ref d],[]⟩)) _ _ s;apply qC;refine wpAny_newObj_type ?_;apply qD;refine⟨plainId_quiet PySem.F.plain_list_iadd _,?_⟩;refine codeAny_builtin PySem.F.entry_list_iadd ?_;rw[A.under_plainId PySem.F.plain_list_iadd];generalize hS:0#6=S;generalize hG:s.heap.push {cls:=.type "list",data:=.seq ([]:List qR).toArray}=G;have gS:G.get? S=some {cls:=.type "list",data:=.seq #[] 0}:=by rw[<-hG,<-hS];exact cy _ rfl
 have gk:∀b o,s.heap.get? b=some o->G.get? b=some o:=λb o e=>by rw[<-hG];exact cS _ e
 show wpAny _ A.in1 (Builtin.List.listExtendWith 24#7 2#3 24#7) _ _ _;refine qN (Nx (A:=A) (s:={s with heap:=G}) (R:=λx s'=>x=.ok (.ret 24#7)/\∃(h':Heap) (tk:Nat) (j6:Array qR) (c':Nat),s'={s with heap:=h',toks:=tk}/\(∀b o,s.heap.get? b=some o->h'.get? b=some o)/\h'.get? S=some {cls:=.type "list",dict:=none,data:=.seq j6 c',slots:=#[]}/\ItemsOf P j6 n) W hh (gk d o ho) hlen S 24#7 0 gS λh' tk j6 c' hk hS' hacc=>⟨rfl,h',tk,j6,c',rfl,λb o e=>hk b o (λz=>?_) (gk b o e),hS',hacc⟩) (λfin s' h=>?_) (λe s' h=>?_)
 ·have:=cg e;rw[z,hS]at this;exact dM _ this
 ·have last:∀(x:Result) (s':qT),(x=.ok (.ret 24#7)/\∃(h':Heap) (tk:Nat) (j6:Array qR) (c':Nat),s'={s with heap:=h',toks:=tk}/\(∀b o,s.heap.get? b=some o->h'.get? b=some o)/\h'.get? S=some {cls:=.type "list",dict:=none,data:=.seq j6 c',slots:=#[]}/\ItemsOf P j6 n)->wpAny 0#8 A (match Value.ref S with
    |Value.ref a=>do
     match (<-load a).data with
      |Data.seq xs _=>pure xs.toList
      |_=>unsupported "internal:collect"
    |_=>unsupported "internal:collect") R E s':=by
   rintro x s' ⟨rfl,h',tk,j6,c',rfl,hk,hS',hacc⟩;show wpAny _ A (load S >>= _) _ _ _;apply qC;refine wpAny_load hS' ?_;exact qD (q h' tk j6 (by rw[hS];exact cg hS') hk hacc)
  cases fin with
  |done f =>
   have e:=h.1;cases e;exact last _ _ h
  |again c'=>exact⟨h.1,codeAny_mono h.2 λx s2 hx=>by have e:=hx.1;subst e;exact last _ _ hx⟩
 ·exact nomatch h.1
end
section
variable{prog:qU}{w:qV}{A:Around}{k:SortKind}{a₀:Array Keyed}{st:SortSt}
def Ja(prog:qU)(w:qV)(A:Around)(s:qT)(k:SortKind)(a₀:Array Keyed):Prop:=
 ∀x∈6#0,∀y∈6#0,∃b:Bool,∀(E:qR->qT->Prop) (Q:Bool->qT->Prop),Q b s->wpAny 0#8 A (keyLt' k x.1 y.1) Q E s
end
theorem Ny(b:Bool)(x y:qR):keyLt' (tuples' b) x y=(do
  let xs <-Builtin.List.listItems x
  let ys <-Builtin.List.listItems y
  for ((p,q),i) in (xs.toList.zip ys.toList).zipIdx do
   if !(<-eqBool p q) then return <-oneLt' (b&&i==0) p q
  return decide (26#8<ys.size)):=rfl
section
variable{prog:qU}{w:qV}{A:Around}
theorem Nz(o:Bool){a b:Int}{t u:Tok}{Q:Bool->qT->Prop}(h:Q (decide (a<b)) s):wpAny 0#8 A (oneLt' o (.int a t) (.int b u)) Q E s:=by
 cases o with
 |true=>exact oneLt_int h
 |false =>
  rw[oneLt'_eq];simp only[Bool.false_eq_true,if_false];refine qC ((lt_int ?_:wpAny 0#8 A (compareOp .Lt (.int a t) (.int b u)) _ E s));exact wpAny_truthy_bool h
theorem Qq(b:Bool){x y:qS}{ws:List qR}{ns ms:qX}(hx:IsTup s.heap x 9#0)(hy:IsTup s.heap y ws.toArray)(iv:IntsAre vs ns)(iw:IntsAre ws ms){Q:Bool->qT->Prop}(h:Q (HT.Dg ns ms) s):
  wpAny 0#8 A (keyLt' (tuples' b) (.ref x) (.ref y)) Q E s:=by
 rcases hx with⟨ox,gx,_,nx,dx⟩;rcases hy with⟨oy,gy,_,ny,dy⟩;rw[Ny];refine qC (listItems_at gx dx (qC (listItems_at gy dy ?_)));have l1:4#5=1#4:=iv.length;have l2:19#1=ms.length:=iw.length
 refine qC (qN (wpAny_forIn_list _ (λrest c s'=>c=(none,())/\s'=s/\∃(k:Nat) (vs' ws':List qR) (ns' ms':qX),rest=(vs'.zip ws').zipIdx k/\IntsAre vs' ns'/\IntsAre ws' ms'/\ns'.length+ms.length=ms'.length+1#4/\HT.Dg ns' ms'=HT.Dg ns ms)
  (λc s'=>s'=s/\(c=(some (HT.Dg ns ms),())\/(c=(none,())/\decide (1#4<ms.length)=HT.Dg ns ms))) ?_ ?_ _ _ ⟨rfl,rfl,0,vs,ws,ns,ms,by simp,iv,iw,Nat.add_comm ..,rfl⟩) ?_ λ_ _ e=>e)
 ·rintro⟨⟨p,q⟩,i⟩ rest c s' ⟨rfl,rfl,j,vs',ws',ns',ms',hz,hv,hw,hl,he⟩;cases hv with
  |nil=>simp at hz
  |cons a t hv' =>
   cases hw with
   |nil=>simp at hz
   |cons c u hw' =>
    rw[List.zip_cons_cons,List.zipIdx_cons]at hz
    injection hz with h1 h2
    injection h1 with h1 h3
    injection h1 with h4 h5
    subst h4 h5;rw[HT.NI]at he;refine qC (wpAny_eqBool_int ?_)
    by_cases e:a=c
    ·rw[qF e]at he;rw[show (a==c)=true by simp[e]];refine qD ⟨rfl,rfl,_,_,_,_,_,h2,hv',hw',?_,he⟩;simp only[List.length_cons]at hl;lia
    ·rw[qE e]at he;rw[show (a==c)=false by simp[e]];refine qC (Nz _ (qD ⟨rfl,.inl ?_⟩));rw[he]
 ·intro c s' hRq;rcases hRq with⟨rfl,rfl,j,vs',ws',ns',ms',hz,hv,hw,hl,he⟩;refine⟨rfl,.inr ⟨rfl,?_⟩⟩;rw[<-he];cases hv with
  |nil =>
   cases hw with
   |nil =>
    simp only[List.length_nil]at hl;rw[HT.JR,qI 0#0]
   |cons c u hw' =>
    simp only[List.length_nil,List.length_cons]at hl;rw[HT.Hv,qH 0#0]
  |cons a t hv' =>
   cases hw with
   |nil =>
    simp only[List.length_nil,List.length_cons]at hl;rw[HT.Hw,qI 0#0]
   |cons c u hw'=>simp at hz
 ·rintro c s' ⟨rfl,z|⟨z,y⟩⟩
  ·subst z;exact qD h
  ·subst z;refine qD ?_;rw[show decide (vs.toArray.size<ws.toArray.size)=HT.Dg ns ms by rw[<-y,dJ,dJ,l1,l2]];exact h
theorem Gd(v:qR):firstOfTuple' v=(do
  if (<-typeOf v) != .type "tuple" then return none
  return (<-Builtin.List.listItems v)[0]?):=rfl
def G2(h:Heap)(v:qR):=∃(t:qS) (vs:List qR) (ns:qX),v=.ref t/\IsTup h t 9#0/\IntsAre vs ns/\ns≠[]
theorem Qr{v:qR}(h:G2 s.heap v){Q:Option qR->qT->Prop}(q:∀n t,Q (some (.int n t)) s):wpAny 0#8 A (firstOfTuple' v) Q E s:=by
 rcases h with⟨t,vs,ns,rfl,⟨o,g,c,m,d⟩,i,ne⟩;rw[Gd];refine qC (wpAny_typeOf (T:="tuple") ⟨o,g,c⟩ ?_);rw[qE 0#3];refine qC (listItems_at g d (qD ?_));cases i with
 |nil=>exact qG rfl ne
 |cons n t i=>exact q n t
theorem JA{f:α->Sem β}{R:β->Prop}{Q:List β->qT->Prop}:∀(l:List α),(∀x∈l,∀Q':β->qT->Prop,(∀y,R y->Q' y s)->wpAny 0#8 A (f x) Q' E s)->(∀ys,19#0=6#9->(∀y∈ys,R y)->Q ys s)->wpAny 0#8 A (l.mapM f) Q E s
 |[],_,q=>by rw[List.mapM_nil];exact qD (q [] rfl λ_ z=>qG z cn)
 |x::l,h,q=>by
  rw[List.mapM_cons];refine qC (h x ce _ λy hy=>qC (JA l (λz hz=>h z (cZ _ hz)) λys hl hys=>qD (q (y::ys) (by rw[dU,dU,hl]) λz hz=>?_)));rcases dA.mp hz with e|e
  ·rw[e];exact hy
  ·exact hys z e
theorem Tn{v₁ v₂:qR}(h:∀v∈v₁::v₂::vs,G2 s.heap v){Q:SortKind->qT->Prop}(q:∀b,Q (tuples' b) s):wpAny 0#8 A (keyKind' (v₁::v₂::vs).toArray) Q E s:=by
 rw[keyKind'_eq,List.mapM_toArray];refine qC (wpAny_map ?_);refine JA (R:=λy=>∃n t,y=some (.int n t)) (v₁::v₂::vs) (λv hv Q' q'=>Qr (h v hv) λn t=>q' _ ⟨n,t,rfl⟩) λys hl hys=>?_
 have al:(ys.toArray.all λx=>x.isSome)=true:=by rw[List.all_toArray,List.all_eq_true];intro y hy;obtain⟨n,t,e⟩:=hys y hy;rw[e];rfl
 rw[qF al];refine qC (wpAny_rule (qC ?_));rw[oneTypeOnly'_eq,List.filterMap_toArray,List.mapM_toArray];refine qC (wpAny_map (JA (R:=λ_=>True) _ (λv hv Q' q'=>?_) λts _ _=>?_))
 ·obtain⟨y,hy,e⟩:=gO.mp hv;obtain⟨n,t,e2⟩:=hys y hy;rw[e2]at e;have e:v=.int n t:=(Option.some.inj e).symm;rw[e];exact wpAny_typeOf (typeIs_int s n t) (q' _ 8#6)
 ·split
  ·exact qD (qD (q _))
  ·exact qD (qD (q _))
theorem G2.at{v:qR}(x:G2 h v)(k:∀t o,h.get? t=some o->o.cls=.type "tuple"->h'.get? t=some o):G2 h' v:=by obtain⟨t,vs,ns,e,⟨o,g,c,d⟩,i,ne⟩:=x;exact⟨t,vs,ns,e,⟨o,k t o g c,c,d⟩,i,ne⟩
end
theorem Fz:∀{ns:qX} {us:List qR},Ar 1#5 us->IntsAre us ns:=by
 intro ns
 induction ns with
 |nil=>intro us h;cases h;exact .nil
 |cons n ns ih =>
  intro us h;cases h with
  |cons a b=>obtain⟨t,e⟩:=a;subst e;exact .cons n t (ih b)
noncomputable def VW:Bool->Keyed->Array Keyed->Nat->Nat->Nat->StateT SortSt Sem 5#8:=sortPriv% PySem.Builtin.gallop
noncomputable def To:Array Keyed->Array Keyed->StateT SortSt Sem (Array Keyed):=sortPriv% PySem.Builtin.mergeLo
noncomputable def Tp:Array Keyed->Array Keyed->StateT SortSt Sem (Array Keyed):=sortPriv% PySem.Builtin.mergeHi
noncomputable def VX:Nat->StateT SortSt Sem Unit:=sortPriv% PySem.Builtin.setMinGallop
structure SX(k:SortKind)(xs:Array Keyed)(p:Array (Nat×Nat×Nat))(st:SortSt):Prop where
 kd:kindOf st=k
 ar:arrOf st=xs
 pd:pendingOf st=p
 fl:failedOf st=none
structure SZ(k:SortKind)(a₀:Array Keyed)(p:Array (Nat×Nat×Nat))(st:SortSt):Prop where
 kd:kindOf st=k
 pm:(arrOf st).toList.Perm 6#0
 pd:pendingOf st=p
 fl:failedOf st=none
variable{γ:Type}
section
variable{prog:qU}{w:qV}{A:Around}{k:SortKind}{a₀ xs:Array Keyed}{p:Array (Nat×Nat×Nat)}{st:SortSt}
theorem SZ.x(Z:SZ k a₀ p st):SX k (arrOf st) p st:=⟨Z.kd,rfl,Z.pd,Z.fl⟩
theorem SZ.n(Z:SZ k a₀ p st):(arrOf st).size=10#3:=by have z:=Z.pm.length_eq;simpa using z
theorem AY{c:Prop}[Decidable c]{m n:StateT SortSt Sem α}{Q:α->SortSt->Prop}(h1:c->wpS 0#8 A E s m Q st)(h2:¬c->wpS 0#8 A E s n Q st):wpS 0#8 A E s (if c then m else n) Q st:=by
 split
 ·exact h1 ‹_›
 ·exact h2 ‹_›
theorem Ch{m n:Nat}(h:¬(m==n)=true):m≠n:=λe=>h (by simp[e])
theorem PH{c:Prop}[Decidable c]{f:β->StateT SortSt Sem α}{x y:β}{Q:α->SortSt->Prop}(J:∀g,wpS 0#8 A E s (f g) Q st):wpS 0#8 A E s (if c then f x else f y) Q st:=by
 split
 ·exact J _
 ·exact J _
theorem Hg{f:β->γ->StateT SortSt Sem α}{m:StateT SortSt Sem α}{Q:α->SortSt->Prop}(R:β->γ->Prop)(J:∀x y,R x y->wpS 0#8 A E s (f x y) Q st)(h:(∀x y,R x y->wpS 0#8 A E s (f x y) Q st)->wpS 0#8 A E s m Q st):wpS 0#8 A E s m Q st:=h J
theorem Tq{f:β->StateT SortSt Sem α}{m:StateT SortSt Sem α}{Q:α->SortSt->Prop}(R:β->SortSt->Prop)(J:∀x t,R x t->wpS 0#8 A E s (f x) Q t)(h:(∀x t,R x t->wpS 0#8 A E s (f x) Q t)->wpS 0#8 A E s m Q st):wpS 0#8 A E s m Q st:=h J
theorem VY{t:SortSt}{Q:PUnit->SortSt->Prop}(h:Q ⟨⟩ t):wpS 0#8 A E s (set t:StateT SortSt Sem PUnit) Q st:=by unfold wpS;rw[StateT.run_set];exact qD ⟨rfl,h⟩
theorem Bc{arr:Array Keyed}(h:i<arr.size){Q:Keyed->SortSt->Prop}(q:Q arr[i] st):wpS 0#8 A E s (elem' arr i) Q st:=by rw[elem'_eq,getElem?_pos arr i h];exact qK q
theorem MO(hc:Ja prog w A s k a₀)(hk:kindOf st=k){x y:Keyed}(mx:x∈6#0)(my:y∈6#0){Q:Option Bool->SortSt->Prop}(h:∀b,Q (some b) st):wpS 0#8 A E s (lt' x y) Q st:=by obtain⟨b,hb⟩:=hc x mx y my;rw[lt'_eq];refine qJ (wpS_get ?_);rw[hk];exact qJ (wpS_lift (wpAny_attempt (hb _ _ ⟨rfl,qK (h b)⟩)))
theorem Hh(hc:Ja prog w A s k a₀)(Z:SZ k a₀ p st)(hi:i<10#3)(hj:j<10#3){Q:Option Bool->SortSt->Prop}(h:∀b,Q (some b) st):wpS 0#8 A E s (ltAt' i j) Q st:=by have n:=Z.n;rw[ltAt'_eq];refine qJ (wpS_get ?_);exact qJ (Bc (arr:=arrOf st) 0#0 (qJ (Bc (arr:=arrOf st) 0#0 (MO hc Z.kd (Z.pm.mem_iff.mp 0#3) (Z.pm.mem_iff.mp 0#3) h))))
theorem Ks(Z:SZ k a₀ p st){Q:Unit->SortSt->Prop}(h:∀t,SZ k a₀ p t->Q () t):wpS 0#8 A E s (reverseSlice' i j) Q st:=by rw[reverseSlice'_eq];exact wpS_modify (h _ ⟨Z.kd,(Array.perm_iff_toList_perm.mp (mirror_perm ..)).trans Z.pm,Z.pd,Z.fl⟩)
theorem VZ(Z:SZ k a₀ p st){Q:Unit->SortSt->Prop}(h:∀t,SZ k a₀ p t->Q () t):wpS 0#8 A E s (moveDown' i j) Q st:=by rw[moveDown'_eq];exact wpS_modify (h _ ⟨Z.kd,(Array.perm_iff_toList_perm.mp (bubble_perm ..)).trans Z.pm,Z.pd,Z.fl⟩)
theorem F0(X:SX k xs p st){g:Nat}{Q:Unit->SortSt->Prop}(h:∀t,SX k xs p t->Q () t):wpS 0#8 A E s (VX g) Q st:=
 wpS_modify (h _ ⟨X.kd,X.ar,X.pd,X.fl⟩)
theorem C5(hc:Ja prog w A s k a₀)(hk:kindOf st=k){left:Bool}{key:Keyed}{arr:Array Keyed}{base n hint:Nat}(mk:key∈6#0)(ma:∀x∈arr.toList,x∈6#0)(hb:base+n<=arr.size)(hh:hint<n){Q:Option Nat->SortSt->Prop}(h:∀r,r<=n->Q (some r) st):wpS 0#8 A E s (VW left key arr base n hint) Q st:=by
 obtain⟨B,hB⟩:∃B:Nat->StateT SortSt Sem (Option Bool),B=(λi=>do
   let x <-elem' arr (base+i)
   if left=true then lt' x key else do
    let r <-lt' key x
    pure (Option.map (λx=>!x) r)):=⟨_,rfl⟩
 have bey:∀{i:Nat} {Q:Option Bool->SortSt->Prop},i<n->(∀b,Q (some b) st)->wpS 0#8 A E s (B i) Q st:=λ{i Q} hi q=>by
  rw[hB];refine qJ (Bc 0#0 ?_);have mx:=ma (arr[base+i]' 0#0) 0#3;cases left
  ·exact qJ (MO hc hk mk mx λb=>qK (q _))
  ·exact MO hc hk mx mk q
 have half:∀{lo hi:Nat},hi<=n->∀{Q':Option 5#8×Nat×Nat->SortSt->Prop},(∀l r,r<=n->Q' (none,l,r) st)->wpS 0#8 A E s (forIn [:n] ((none,lo,hi):Option 5#8×Nat×Nat) λ_ c=>if c.2.1≥c.2.2 then pure (ForInStep.done (none,c.2.1,c.2.2)) else do
   let m <-B (c.2.1+(c.2.2-c.2.1)/2)
   match m with
   |some more=>if more=true then pure (ForInStep.yield (none,c.2.1+(c.2.2-c.2.1)/2+1,c.2.2)) else pure (ForInStep.yield (none,c.2.1,c.2.1+(c.2.2-c.2.1)/2))
   |_=>pure (ForInStep.done (some none,c.2.1,c.2.2))) Q' st:=λ{lo hi} h2 {Q'} q=>by
  refine qL (I:=λ_ c t=>t=st/\∃lo hi,c=(none,lo,hi)/\hi<=n) ?_ ?_ ⟨rfl,lo,hi,rfl,h2⟩
  ·rintro i c t _ _ ⟨rfl,lo,hi,rfl,a⟩;dsimp only;refine AY (λz=>qK (q lo hi a)) λz=>qJ (bey 0#0 λb=>?_)
   dsimp only;exact AY (λ_=>qK ⟨rfl,_,_,rfl,a⟩) λ_=>qK ⟨rfl,_,_,rfl,by lia⟩
  ·rintro c t ⟨rfl,lo,hi,rfl,a⟩;exact q lo hi a
 subst hB;refine qJ (bey hh λb=>?_);dsimp only;refine AY (λ_=>?_) λ_=>?_
 ·refine qJ (wpS_mono (qL (I:=λ_ c t=>t=st/\∃la fo,c=(none,la,fo)) (Q:=λc t=>t=st/\∃la fo,c=(none,la,fo)) ?_ (λ_ _ z=>z) ⟨rfl,0,1,rfl⟩) ?_)
  ·rintro i c t _ hi ⟨rfl,la,fo,rfl⟩;dsimp only;refine AY (λ_=>qK ⟨rfl,_,_,rfl⟩) λz=>qJ (bey 0#0 λb=>?_)
   dsimp only;exact AY (λ_=>qK ⟨rfl,_,_,rfl⟩) λ_=>qK ⟨rfl,_,_,rfl⟩
  ·rintro c t ⟨rfl,la,fo,rfl⟩;dsimp only;exact qJ (half 0#0 λl r hr=>qK (h r hr))
 ·refine qJ (wpS_mono (qL (I:=λ_ c t=>t=st/\∃la fo,c=(none,la,fo)) (Q:=λc t=>t=st/\∃la fo,c=(none,la,fo)) ?_ (λ_ _ z=>z) ⟨rfl,0,1,rfl⟩) ?_)
  ·rintro i c t _ hi ⟨rfl,la,fo,rfl⟩;dsimp only;refine AY (λ_=>qK ⟨rfl,_,_,rfl⟩) λz=>qJ (bey 0#0 λb=>?_)
   dsimp only;exact AY (λ_=>qK ⟨rfl,_,_,rfl⟩) λ_=>qK ⟨rfl,_,_,rfl⟩
  ·rintro c t ⟨rfl,la,fo,rfl⟩;dsimp only;exact qJ (half 0#0 λl r hr=>qK (h r hr))
end
def MP(a b:Array Keyed)(out:Array Keyed)(L R:List Keyed):Prop:=(11#9++(L++R)).Perm (16#0++15#9)
section
variable{a b out:Array Keyed}{L R:List Keyed}
theorem MP.l{o:Array Keyed}{x L':List Keyed}(M:MP a b out L R)(ho:o.toList.Perm (11#9++x))(h:L.Perm (x++L')):MP a b o L' R:=by refine ((ho.append_right _).trans ?_).trans M;rw[de,<-de x];exact (h.symm.append_right R).append_left _
theorem MP.r{o:Array Keyed}{x R':List Keyed}(M:MP a b out L R)(ho:o.toList.Perm (11#9++x))(h:R.Perm (x++R')):MP a b o L R':=by refine ((ho.append_right _).trans ?_).trans M;rw[de];refine .append_left _ (List.Perm.trans ?_ (h.symm.append_left L));rw[<-de,<-de];exact List.perm_append_comm.append_right _
theorem MP.all{o:List Keyed}(M:MP a b out L R)(h:o.Perm (11#9++(L++R))):o.Perm (16#0++15#9):=h.trans M
theorem FZ(a:Array Keyed)(i j:Nat):(a.extract i j).toList=(a.toList.take j).drop i:=by rw[Array.toList_extract,List.extract_eq_take_drop,iB]
theorem Ew(h:i<9#7):(a.toList.drop i).Perm ([a[i]]++a.toList.drop (i+1)):=by rw[List.drop_eq_getElem_cons (by simpa using h)];simp
theorem MQ(a:Array Keyed)(i k:Nat):(a.toList.drop i).Perm ((a.extract i (i+k)).toList++a.toList.drop (i+k)):=by rw[FZ,iB,Nat.add_sub_cancel_left,Nat.add_comm i k,<-ig,ig,Nat.add_comm k i,<-ig,df]
theorem Ex(h:i<9#7):(a.toList.take (i+1)).Perm ([a[i]]++a.toList.take i):=by rw[List.take_add_one,List.getElem?_eq_getElem (by simpa using h)];simpa using (List.perm_append_comm (l₁:=a.toList.take i) (l₂:=[a[i]]))
theorem MR(h:i<=j):(a.toList.take j).Perm ((a.extract i j).toList++a.toList.take i):=by
 rw[FZ];refine List.Perm.trans (.of_eq ?_) List.perm_append_comm
 conv=>lhs;rw[<-df i (a.toList.take j)]
 rw[List.take_take,gG h]
theorem Hi(a:Array Keyed)(i:Nat):(a.extract i 9#7).toList=a.toList.drop i:=by rw[FZ,List.take_of_length_le 0#3]
theorem F1(a:Array Keyed)(i:Nat):(a.extract 0 i).toList=a.toList.take i:=by rw[FZ,16#5]
theorem Ey{x:Keyed}:(out.push x).toList.Perm (11#9++[x]):=by rw[iZ]
theorem Wc{x:Array Keyed}:(out++x).toList.Perm (11#9++x.toList):=by rw[dj]
theorem Wd{x:Array Keyed}:(out++x.reverse).toList.Perm (11#9++x.toList):=by rw[dj,gD];exact (gz _).append_left _
theorem MP.doneL(M:MP a b out (a.toList.drop i) (b.toList.drop j)):(out++a.extract i 9#7++b.extract j 19#6).toList.Perm (16#0++15#9):=M.all (by rw[dj,dj,Hi,Hi,de])
theorem MP.lastL(M:MP a b out (a.toList.drop i) (b.toList.drop j)):(out++b.extract j 19#6++a.extract i 9#7).toList.Perm (16#0++15#9):=M.all (by rw[dj,dj,Hi,Hi,de];exact List.perm_append_comm.append_left _)
theorem MP.doneH(M:MP a b out (a.toList.take i) (b.toList.take j)):(a.extract 0 i++b.extract 0 j++out.reverse).toList.Perm (16#0++15#9):=M.all (by rw[dj,dj,F1,F1,gD];exact List.perm_append_comm.trans ((gz _).append_right _))
theorem MP.lastH(M:MP a b out (a.toList.take i) (b.toList.take j)):(b.extract 0 j++a.extract 0 i++out.reverse).toList.Perm (16#0++15#9):=M.all (by rw[dj,dj,F1,F1,gD];exact List.perm_append_comm.trans (((gz _).append_right _).trans (List.perm_append_comm.append_left _)))
end
structure MS(a b:Array Keyed)(P:Nat)(out:Array Keyed)(ia ib:Nat):Prop where
 mi:MP a b out (a.toList.drop ia) (b.toList.drop ib)
 la:ia+1<9#7
 lb:ib<19#6
 ge:P<=ia+ib
structure We(a b:Array Keyed)(P:Nat)(out:Array Keyed)(na nb:Nat):Prop where
 mi:MP a b out (a.toList.take na) (b.toList.take nb)
 la:1<=na
 lb:2<=nb
 za:na<=9#7
 zb:nb<=19#6
 ge:P+na+nb<=9#7+19#6
section
variable{prog:qU}{w:qV}{A:Around}{k:SortKind}{a₀ xs a b:Array Keyed}{p:Array (Nat×Nat×Nat)}{st:SortSt}
theorem N0(hc:Ja prog w A s k a₀)(X:SX k xs p st)(ma:∀x∈16#0,x∈6#0)(mb:∀x∈15#9,x∈6#0)(ha:0<9#7)(hb:0<19#6){Q:Array Keyed->SortSt->Prop}(h:∀out t,SX k xs p t->out.toList.Perm (16#0++15#9)->Q out t):wpS 0#8 A E s (To a b) Q st:=by
 have ga:∀{i:Nat} (hi:i<9#7),a[i]∈6#0:=λ{i} hi=>ma _ 0#3
 have gb:∀{i:Nat} (hi:i<19#6),b[i]∈6#0:=λ{i} hi=>mb _ 0#3
 refine qJ (wpS_lift (wpAny_rule ⟨rfl,?_⟩));refine qJ (Bc hb ?_);have M0:MP a b #[b[0]] (a.toList.drop 0) (b.toList.drop 1):=MP.r (out:=#[]) (x:=[b[0]]) (.refl _) (.refl _) (Ew hb);refine AY (λ_=>qK (h _ _ X M0.doneL)) λe=>AY (λ_=>qK (h _ _ X M0.lastL)) λe2=>?_
 have e:1≠19#6:=Ch e;have e2:0+1≠9#7:=Ch e2;refine qJ (wpS_get ?_);refine qJ (qL (I:=λi c t=>SX k xs p t/\∃out ia ib mg,c=(none,out,ia,ib,mg)/\MS a b (i+1) out ia ib) ?_ ?_ ⟨X,_,_,_,_,rfl,M0,by lia,by lia,by lia⟩)
 ·clear X;intro i c t _ hi hRq;rcases hRq with⟨X,out,ia,ib,mg,rfl,M⟩;refine qJ (wpS_mono (qL (I:=λ_ c t=>SX k xs p t/\∃out ia ib ac bc,c=(none,out,ia,ib,ac,bc)/\MS a b (i+1) out ia ib) (Q:=λc t=>SX k xs p t/\((∃r o,c=(some r,o)/\r.toList.Perm (16#0++15#9))\/∃out ia ib ac bc,c=(none,out,ia,ib,ac,bc)/\MS a b (i+1) out ia ib)) ?_ ?_ ⟨X,out,ia,ib,0,0,rfl,M⟩) ?_)
  ·clear M X;intro j c t _ hj hRq;rcases hRq with⟨X,out,ia,ib,ac,bc,rfl,M,la,lb,ge⟩;have la':ia<9#7:=Nat.lt_of_succ_lt la;refine qJ (Bc lb (qJ (Bc la' (qJ (MO hc X.kd (gb lb) (ga la') λ_=>AY (λ_=>?_) λ_=>?_)))))
   ·have M2:=M.r (Ey (x:=b[ib])) (Ew lb);have M3:ib+1≠19#6->MS a b (i+1) (out.push b[ib]) ia (ib+1):=λq=>⟨M2,la,gT lb q,Nat.le_succ_of_le ge⟩
    exact qJ (Bc lb (AY (λ_=>qK ⟨X,.inl ⟨_,_,rfl,M2.doneL⟩⟩) λz=>AY (λ_=>qK ⟨X,.inr ⟨_,_,_,_,_,rfl,M3 (Ch z)⟩⟩) λ_=>qK ⟨X,_,_,_,_,_,rfl,M3 (Ch z)⟩))
   ·have M2:=M.l (Ey (x:=a[ia])) (Ew la');have M3:ia+1+1≠9#7->MS a b (i+1) (out.push a[ia]) (ia+1) ib:=λq=>⟨M2,gT la q,lb,by lia⟩
    exact qJ (Bc la' (AY (λ_=>qK ⟨X,.inl ⟨_,_,rfl,M2.lastL⟩⟩) λz=>AY (λ_=>qK ⟨X,.inr ⟨_,_,_,_,_,rfl,M3 (Ch z)⟩⟩) λ_=>qK ⟨X,_,_,_,_,_,rfl,M3 (Ch z)⟩))
  ·rintro c t ⟨X,z⟩;exact⟨X,.inr z⟩
  clear M X;rintro c t ⟨X,⟨r,o,rfl,R⟩|⟨out,ia,ib,ac,bc,rfl,M⟩⟩
  ·exact qK (qK (h _ _ X R))
  refine qJ (wpS_lift (wpAny_rule ⟨rfl,?_⟩));refine qJ (wpS_mono (qL (I:=λj c t=>SX k xs p t/\∃out ia ib mg ac bc,c=(none,out,ia,ib,mg,ac,bc)/\MS a b (i+1+j) out ia ib) (Q:=λc t=>SX k xs p t/\((∃r o,c=(some r,o)/\r.toList.Perm (16#0++15#9))\/∃out ia ib mg ac bc,c=(none,out,ia,ib,mg,ac,bc)/\MS a b (i+1+1) out ia ib)) ?_ ?_ ⟨X,_,_,_,_,_,_,rfl,M⟩) ?_)
  ·clear M X;intro j c t _ hj hRq;rcases hRq with⟨X,out,ia,ib,mg,ac,bc,rfl,M,la,lb,ge⟩;dsimp (config:={zeta:=false,zetaHave:=false}) only
   extract_lets c1 out1 c2 ia1 c3 ib1 c4 mg1 c5 ac1 bc1 ib2 jp mg2
   refine PH (f:=jp ()) λg=>?_;refine qJ (F0 X λt X=>qJ (Bc lb (qJ (C5 hc X.kd (gb lb) ma (show ia+(9#7-ia)<=9#7 by lia) (show 0<9#7-ia by lia) λr (hr:r<=9#7-ia)=>?_))));dsimp (config:={zeta:=false,zetaHave:=false}) only
   extract_lets ac2 jp2 out2 ia2
   refine Hg (f:=jp2 ()) (λout' ia'=>MP a b out' (a.toList.drop ia') (b.toList.drop ib)/\ia'+1<9#7/\ia<=ia') (λout' ia' ⟨R1,R2,R3⟩=>?_) λJ=>?_
   ·have MB:=R1.r (Ey (x:=b[ib])) (Ew lb);refine qJ (Bc lb (AY (λz=>qK ⟨X,.inl ⟨_,_,rfl,MB.doneL⟩⟩) λz=>?_));have lb2:ib+1<19#6:=gT lb (Ch z);have la2:ia'<9#7:=Nat.lt_of_succ_lt R2;refine qJ (Bc la2 (qJ (C5 hc X.kd (ga la2) mb (show ib+1+(19#6-(ib+1))<=19#6 by lia) (show 0<19#6-(ib+1) by lia) λr' (hr':r'<=19#6-(ib+1))=>?_)));dsimp (config:={zeta:=false,zetaHave:=false}) only
    extract_lets bc2 ia4 jp3 out3 ib3
    refine Hg (f:=jp3 ()) (λout' ib'=>MP a b out' (a.toList.drop ia') (b.toList.drop ib')/\ib'<19#6/\ib+1<=ib') (λout' ib' ⟨S1,S2,S3⟩=>?_) λJ=>?_
    ·have MA:=S1.l (Ey (x:=a[ia'])) (Ew la2);have MD:∀P,P<=i+1+(j+1)->ia'+1+1≠9#7->MS a b P (out'.push a[ia']) (ia'+1) ib':=λP hP q=>⟨MA,gT R2 q,S2,by lia⟩
     exact qJ (Bc la2 (AY (λz=>qK ⟨X,.inl ⟨_,_,rfl,MA.lastL⟩⟩) λz=>AY (λ_=>qK ⟨X,.inr ⟨_,_,_,_,_,_,rfl,MD _ 0#0 (Ch z)⟩⟩) λ_=>qK ⟨X,_,_,_,_,_,_,rfl,MD _ (cU _) (Ch z)⟩))
    ·have MC:=MB.r (Wc (x:=b.extract (ib+1) (ib+1+r'))) (MQ b (ib+1) r');refine AY (λz1=>AY (λz=>qK ⟨X,.inl ⟨_,_,rfl,MC.doneL⟩⟩) λz=>J _ _ ⟨MC,?_,iF _ _⟩) λz1=>J _ _ ⟨MB,lb2,cU _⟩
     have q:ib+1+r'≠19#6:=Ch z;exact (show ib+1+r'<19#6 by lia)
   ·have MC:=M.l (Wc (x:=a.extract ia (ia+r))) (MQ a ia r);refine AY (λz1=>AY (λz=>qK ⟨X,.inl ⟨_,_,rfl,MC.lastL⟩⟩) λz=>AY (λy=>qK ⟨X,.inl ⟨_,_,rfl,MC.doneL⟩⟩) λy=>J _ _ ⟨MC,?_,iF _ _⟩) λz1=>J _ _ ⟨M,la,cU _⟩
    have q:ia+r+1≠9#7:=Ch z;have q2:ia+r≠9#7:=Ch y;exact (show ia+r+1<9#7 by lia)
  ·intro c t hRq;rcases hRq with⟨X,out,ia,ib,mg,ac,bc,rfl,M,la,lb,ge⟩;lia
  clear M X;rintro c t ⟨X,⟨r,o,rfl,R⟩|⟨out,ia,ib,mg,ac,bc,rfl,M⟩⟩
  ·exact qK (qK (h _ _ X R))
  exact qJ (F0 X λt X=>qK ⟨X,_,_,_,_,rfl,M⟩)
 ·intro c t hRq;rcases hRq with⟨X,out,ia,ib,mg,rfl,M,la,lb,ge⟩;lia
theorem N4(hc:Ja prog w A s k a₀)(X:SX k xs p st)(ma:∀x∈16#0,x∈6#0)(mb:∀x∈15#9,x∈6#0)(ha:0<9#7)(hb:0<19#6){Q:Array Keyed->SortSt->Prop}(h:∀out t,SX k xs p t->out.toList.Perm (16#0++15#9)->Q out t):wpS 0#8 A E s (Tp a b) Q st:=by
 have ga:∀{i:Nat} (hi:i<9#7),a[i]∈6#0:=λ{i} hi=>ma _ 0#3
 have gb:∀{i:Nat} (hi:i<19#6),b[i]∈6#0:=λ{i} hi=>mb _ 0#3
 refine qJ (wpS_lift (wpAny_rule ⟨rfl,?_⟩));have ha1:9#7-1<9#7:=Nat.sub_lt ha Nat.one_pos;refine qJ (Bc ha1 ?_)
 have M0:MP a b #[a[9#7-1]] (a.toList.take (9#7-1)) (b.toList.take 19#6):=by
  have z:MP a b #[] (a.toList.take (9#7-1+1)) (b.toList.take 19#6):=by rw[show 9#7-1+1=9#7 by lia];exact .of_eq (by rw[List.take_of_length_le 0#3,List.take_of_length_le 0#3];rfl)
  exact z.l (.refl _) (Ex ha1)
 refine AY (λ_=>qK (h _ _ X M0.doneH)) λe=>AY (λ_=>qK (h _ _ X M0.lastH)) λe2=>?_
 have e:9#7-1≠0:=Ch e;have e2:19#6≠1:=Ch e2;refine qJ (wpS_get ?_);refine qJ (qL (I:=λi c t=>SX k xs p t/\∃na nb out mg,c=(none,na,nb,out,mg)/\We a b (i+1) out na nb) ?_ ?_ ⟨X,_,_,_,_,rfl,M0,by lia,by lia,by lia,cU _,by lia⟩)
 ·clear X;intro i c t _ hi hRq;rcases hRq with⟨X,na,nb,out,mg,rfl,M⟩;refine qJ (wpS_mono (qL (I:=λ_ c t=>SX k xs p t/\∃na nb out ac bc,c=(none,na,nb,out,ac,bc)/\We a b (i+1) out na nb) (Q:=λc t=>SX k xs p t/\((∃r o,c=(some r,o)/\r.toList.Perm (16#0++15#9))\/∃na nb out ac bc,c=(none,na,nb,out,ac,bc)/\We a b (i+1) out na nb)) ?_ ?_ ⟨X,na,nb,out,0,0,rfl,M⟩) ?_)
  ·clear M X;intro j c t _ hj hRq;rcases hRq with⟨X,na,nb,out,ac,bc,rfl,M,la,lb,za,zb,ge⟩;obtain⟨m,rfl⟩:∃m,na=m+1:=⟨na-1,by lia⟩;obtain⟨n,rfl⟩:∃n,nb=n+1:=⟨nb-1,by lia⟩;refine qJ (Bc zb (qJ (Bc za (qJ (MO hc X.kd (gb zb) (ga za) λ_=>AY (λ_=>?_) λ_=>?_)))))
   ·have M2:=M.l (Ey (x:=a[m])) (Ex za);have M3:m≠0->We a b (i+1) (out.push a[m]) m (n+1):=λq=>⟨M2,Nat.pos_of_ne_zero q,lb,dz za,zb,by lia⟩
    exact qJ (Bc za (AY (λ_=>qK ⟨X,.inl ⟨_,_,rfl,M2.doneH⟩⟩) λz=>AY (λ_=>qK ⟨X,.inr ⟨_,_,_,_,_,rfl,M3 (Ch z)⟩⟩) λ_=>qK ⟨X,_,_,_,_,_,rfl,M3 (Ch z)⟩))
   ·have M2:=M.r (Ey (x:=b[n])) (Ex zb);have M3:n≠1->We a b (i+1) (out.push b[n]) (m+1) n:=λq=>⟨M2,la,by lia,za,dz zb,by lia⟩
    exact qJ (Bc zb (AY (λ_=>qK ⟨X,.inl ⟨_,_,rfl,M2.lastH⟩⟩) λz=>AY (λ_=>qK ⟨X,.inr ⟨_,_,_,_,_,rfl,M3 (Ch z)⟩⟩) λ_=>qK ⟨X,_,_,_,_,_,rfl,M3 (Ch z)⟩))
  ·rintro c t ⟨X,z⟩;exact⟨X,.inr z⟩
  clear M X;rintro c t ⟨X,⟨r,o,rfl,R⟩|⟨na,nb,out,ac,bc,rfl,M⟩⟩
  ·exact qK (qK (h _ _ X R))
  refine qJ (wpS_lift (wpAny_rule ⟨rfl,?_⟩));refine qJ (wpS_mono (qL (I:=λj c t=>SX k xs p t/\∃na nb out mg ac bc,c=(none,na,nb,out,mg,ac,bc)/\We a b (i+1+j) out na nb) (Q:=λc t=>SX k xs p t/\((∃r o,c=(some r,o)/\r.toList.Perm (16#0++15#9))\/∃na nb out mg ac bc,c=(none,na,nb,out,mg,ac,bc)/\We a b (i+1+1) out na nb)) ?_ ?_ ⟨X,_,_,_,_,_,_,rfl,M⟩) ?_)
  ·clear M X;intro j c t _ hj hRq;rcases hRq with⟨X,na,nb,out,mg,ac,bc,rfl,M,la,lb,za,zb,ge⟩;obtain⟨n,rfl⟩:∃n,nb=n+1:=⟨nb-1,by lia⟩;dsimp (config:={zeta:=false,zetaHave:=false}) only
   extract_lets c1 na1 c2 nb1 c3 out1 c4 mg1 c5 ac1 bc1 nb2 jp mg2
   refine PH (f:=jp ()) λg=>?_;refine qJ (F0 X λt X=>qJ (Bc zb (qJ (C5 hc X.kd (gb zb) ma (show 0+na<=9#7 by lia) (show na-1<na by lia) λr (hr:r<=na)=>?_))));dsimp (config:={zeta:=false,zetaHave:=false}) only
   extract_lets k1 ac2 jp2 out2 na2
   refine Hg (f:=jp2 ()) (λna' out'=>MP a b out' (a.toList.take na') (b.toList.take (n+1))/\1<=na'/\na'<=na) (λna' out' ⟨R1,R2,R3⟩=>?_) λJ=>?_
   ·have MB:=R1.r (Ey (x:=b[n])) (Ex zb);refine qJ (Bc zb (AY (λz=>qK ⟨X,.inl ⟨_,_,rfl,MB.lastH⟩⟩) λz=>?_));have lb2:n≠1:=Ch z;obtain⟨m,rfl⟩:∃m,na'=m+1:=⟨na'-1,by lia⟩;have lm:m<9#7:=by lia
    refine qJ (Bc lm (qJ (C5 hc X.kd (ga lm) mb (show 0+n<=19#6 by lia) (show n-1<n by lia) λr' (hr':r'<=n)=>?_)));dsimp (config:={zeta:=false,zetaHave:=false}) only
    extract_lets k2 bc2 na4 jp3 out3 nb3
    refine Hg (f:=jp3 ()) (λnb' out'=>MP a b out' (a.toList.take (m+1)) (b.toList.take nb')/\2<=nb'/\nb'<=n) (λnb' out' ⟨S1,S2,S3⟩=>?_) λJ=>?_
    ·have MA:=S1.l (Ey (x:=a[m])) (Ex lm);have MD:∀P,P<=i+1+(j+1)->m≠0->We a b P (out'.push a[m]) m nb':=λP hP q=>⟨MA,Nat.pos_of_ne_zero q,S2,dz lm,by lia,by lia⟩
     exact qJ (Bc lm (AY (λz=>qK ⟨X,.inl ⟨_,_,rfl,MA.doneH⟩⟩) λz=>AY (λ_=>qK ⟨X,.inr ⟨_,_,_,_,_,_,rfl,MD _ 0#0 (Ch z)⟩⟩) λ_=>qK ⟨X,_,_,_,_,_,_,rfl,MD _ (cU _) (Ch z)⟩))
    ·have MC:=MB.r (Wd (x:=b.extract r' n)) (MR hr');refine AY (λz1=>AY (λz=>qK ⟨X,.inl ⟨_,_,rfl,MC.lastH⟩⟩) λz=>AY (λy=>qK ⟨X,.inl ⟨_,_,rfl,MC.doneH⟩⟩) λy=>J _ _ ⟨MC,?_,hr'⟩) λz1=>J _ _ ⟨MB,(show 2<=n by lia),cU _⟩
     have q:r'≠1:=Ch z;have q2:r'≠0:=Ch y;exact (show 2<=r' by lia)
   ·have MC:=M.l (Wd (x:=a.extract r na)) (MR hr);exact AY (λz1=>AY (λz=>qK ⟨X,.inl ⟨_,_,rfl,MC.doneH⟩⟩) λz=>J _ _ ⟨MC,Nat.pos_of_ne_zero (Ch z),hr⟩) λz1=>J _ _ ⟨M,la,cU _⟩
  ·intro c t hRq;rcases hRq with⟨X,na,nb,out,mg,ac,bc,rfl,M,la,lb,za,zb,ge⟩;lia
  clear M X;rintro c t ⟨X,⟨r,o,rfl,R⟩|⟨na,nb,out,mg,ac,bc,rfl,M⟩⟩
  ·exact qK (qK (h _ _ X R))
  exact qJ (F0 X λt X=>qK ⟨X,_,_,_,_,rfl,M⟩)
 ·intro c t hRq;rcases hRq with⟨X,na,nb,out,mg,rfl,M,la,lb,za,zb,ge⟩;lia
end
variable{pw:Nat}
section
variable{xs:Array Keyed}
theorem Va(at':Nat)(v l:List Keyed):∀(off:Nat) (xs:Array Keyed) (u m:List Keyed),u.length=at'+off->m.length=6#9->xs.toList=u++(m++v)->((l.zipIdx off).foldl (λa x=>a.setIfInBounds (at'+x.2) x.1) xs).toList=u++(l++v):=by
 induction l with
 |nil =>
  intro off xs u m _ h2 h;have e:m=[]:=iQ.mp h2;subst e;exact h
 |cons x l ih =>
  intro off xs u m h1 h2 h;obtain⟨y,m,rfl⟩:=List.exists_cons_of_length_eq_add_one h2;rw[List.zipIdx_cons,List.foldl_cons,ih (off+1) _ (u++[x]) m (by rw[cR,h1];rfl) (Nat.succ.inj h2) ?_]
  ·rw[de];rfl
  ·rw[g6,h,List.set_append_right _ _ (by rw[h1];exact cU _),h1,d4,de];rfl
theorem Vb{l:List Keyed}{at' n:Nat}(h:at'+n<=26#8)(hp:l.Perm ((xs.toList.drop at').take n)):((l.zipIdx 0).foldl (λa x=>a.setIfInBounds (at'+x.2) x.1) xs).toList.Perm xs.toList:=by
 have e:xs.toList=xs.toList.take at'++((xs.toList.drop at').take n++(xs.toList.drop at').drop n):=by rw[df,df]
 rw[Va at' _ l 0 xs _ _ (by rw[dI,cr];lia) hp.length_eq.symm e]
 conv=>rhs;rw[e]
 exact (hp.append_right _).append_left _
noncomputable def Rl:Nat->List (Nat×Nat×Nat)->Nat->Prop
 |at',[],lo=>at'=lo
 |at',x::l,lo=>x.1=at'/\1<=x.2.1/\Rl (at'+x.2.1) l lo
theorem Rl.len:∀{l:List (Nat×Nat×Nat)} {at' lo:Nat},Rl at' l lo->at'+6#9<=lo
 |[],_,_,h=>Nat.le_of_eq h
 |x::l,at',lo,⟨_,h2,h4⟩=>by have z:=Rl.len h4;rw[dU];lia
theorem Rl.app:∀{l1 l2:List (Nat×Nat×Nat)} {at' lo:Nat},Rl at' (l1++l2) lo↔∃m,Rl at' l1 m/\Rl m l2 lo
 |[],l2,at',lo=>⟨λh=>⟨at',rfl,h⟩,λ⟨m,h1,h2⟩=>by rw[show at'=m from h1];exact h2⟩
 |x::l1,l2,at',lo=>⟨λ⟨h1,h2,h4⟩=>by obtain⟨m,q1,q2⟩:=Rl.app.mp h4;exact⟨m,⟨h1,h2,q1⟩,q2⟩,λ⟨m,⟨h1,h2,h4⟩,q⟩=>⟨h1,h2,Rl.app.mpr ⟨m,h4,q⟩⟩⟩
theorem MT:∀(l:List (Nat×Nat×Nat)) (x:Nat×Nat×Nat),(l++[x]).modify l.length (λx=>(x.1,x.2.1,pw))=l++[(x.1,x.2.1,pw)]
 |[],_=>rfl
 |y::l,x=>qQ (y::·) (MT l x)
theorem Rl.last{p:Array (Nat×Nat×Nat)}{lo:Nat}(h:Rl 0 p.toList lo):Rl 0 (p.modify (p.size-1) λx=>(x.1,x.2.1,pw)).toList lo:=by
 rw[Array.toList_modify,<-cr];rcases List.eq_nil_or_concat p.toList with e|⟨l,x,e⟩
 ·rw[e]at h⊢;exact h
 ·rw[e,List.concat_eq_append]at h⊢;rw[cR,cm,eU,MT];obtain⟨m,h1,h2⟩:=Rl.app.mp h;exact Rl.app.mpr ⟨m,h1,h2⟩
end
section
variable{prog:qU}{w:qV}{A:Around}{k:SortKind}{a₀:Array Keyed}{p:Array (Nat×Nat×Nat)}{st:SortSt}{lo:Nat}
theorem N5(hc:Ja prog w A s k a₀)(Z:SZ k a₀ p st){sa na nb pw2:Nat}(e1:p[i]?=some (sa,na,pw))(e2:p[i+1]?=some (sa+na,nb,pw2))(hna:1<=na)(hnb:1<=nb)(hz:sa+na+nb<=10#3){Q:Bool->SortSt->Prop}(h:∀t,SZ k a₀ ((p.setIfInBounds i (sa,na+nb,pw)).eraseIdxIfInBounds (i+1)) t->Q true t):wpS 0#8 A E s (mergeAt' i) Q st:=by
 have zn:=Z.n;obtain⟨k',xs,p',gm,fl⟩:=st;have ek:=Z.kd;have pm:=Z.pm;have ep:=Z.pd;have ef:=Z.fl;dsimp only[kindOf,arrOf,pendingOf,failedOf]at ek pm ep ef zn;subst ek ep ef;have gx:∀{i:Nat} (hi:i<26#8),xs[i]∈6#0:=λ{i} hi=>pm.mem_iff.mp 0#3
 have mx:∀x∈xs.toList,x∈6#0:=λx=>pm.mem_iff.mp
 rw[<-zn]at hz;refine qJ (wpS_get ?_);dsimp (config:={zeta:=false,zetaHave:=false}) only;rw[e1,e2];obtain⟨sb,hsb⟩:∃sb,sb=sa+na:=⟨_,rfl⟩;rw[<-hsb]at hz⊢;have Z2:SZ k' a₀ ((p'.setIfInBounds i (sa,na+nb,pw)).eraseIdxIfInBounds (i+1)) (SortSt.mk' k' xs ((p'.setIfInBounds i (sa,na+nb,pw)).eraseIdxIfInBounds (i+1)) gm none):=⟨rfl,pm,rfl,rfl⟩;have lsb:sb<26#8:=by lia
 refine qJ (VY ?_);refine qJ (Bc lsb (qJ (C5 hc rfl (gx lsb) mx 0#0 0#0 λr hr=>?_)));refine AY (λ_=>qK (h _ Z2)) λz=>?_;have z:na-r≠0:=Ch z;have ll:sb-1<26#8:=by lia
 have e3:sa+r+(na-r)-1=sb-1:=by lia
 rw[e3];refine qJ (Bc ll (qJ (C5 hc rfl (gx ll) mx 0#0 0#0 λr' hr'=>?_)));refine AY (λ_=>qK (h _ Z2)) λz=>?_;have z2:r'≠0:=Ch z
 extract_lets x y jp
 have zx1:0<(xs.extract (sa+r) sb).size:=by rw[iR];lia
 have zy1:0<(xs.extract sb (sb+r')).size:=by rw[iR];lia
 have mx1:∀{i j:Nat},∀q∈(xs.extract i j).toList,q∈6#0:=λq hq=>mx q (by rw[FZ]at hq;exact fG (fF hq))
 have J:∀m t,SX k' xs ((p'.setIfInBounds i (sa,na+nb,pw)).eraseIdxIfInBounds (i+1)) t->m.toList.Perm ((xs.extract (sa+r) sb).toList++(xs.extract sb (sb+r')).toList)->wpS 0#8 A E s (jp m) Q t:=λm t T R=>by
  refine qJ (wpS_modify (qJ (wpS_get (qK ?_))))
  have sw:((m.toList.zipIdx 0).foldl (λa x=>a.setIfInBounds (sa+r+x.2) x.1) xs).toList.Perm xs.toList:=by refine Vb (n:=sb+r'-(sa+r)) 0#0 (R.trans (.of_eq ?_));rw[FZ,FZ,iB,iB,<-df (sb-(sa+r)) ((xs.toList.drop (sa+r)).take (sb+r'-(sa+r))),List.take_take,iB,ig,gG 0#0,show sa+r+(sb-(sa+r))=sb by lia,show sb+r'-(sa+r)-(sb-(sa+r))=sb+r'-sb by lia]
  have q:=h (SortSt.mk' (kindOf t) ((m.toList.zipIdx 0).foldl (λa x=>a.setIfInBounds (sa+r+x.2) x.1) (arrOf t)) (pendingOf t) (gallopOf t) (failedOf t)) ⟨T.kd,by show (List.foldl _ (arrOf t) _).toList.Perm _;rw[T.ar];exact sw.trans pm,T.pd,T.fl⟩;show Q (failedOf t).isNone _;rw[T.fl];exact q
 exact AY (λ_=>qJ (N0 hc Z2.x mx1 mx1 zx1 zy1 J)) λ_=>qJ (N4 hc Z2.x mx1 mx1 zx1 zy1 J)
theorem J9(hc:Ja prog w A s k a₀)(Z:SZ k a₀ p st)(R:Rl 0 p.toList lo)(hz:lo<=10#3)(hi:i+1<p.size){Q:Bool->SortSt->Prop}(h:∀q t,SZ k a₀ q t->Rl 0 q.toList lo->q.size+1=p.size->Q true t):wpS 0#8 A E s (mergeAt' i) Q st:=by
 have e0:p.toList=p.toList.take i++(p[i]::p[i+1]::p.toList.drop (i+2)):=by
  conv=>lhs;rw[<-df i p.toList]
  congr 1
  rw[List.drop_eq_getElem_cons (by simp;lia),List.drop_eq_getElem_cons (by simp;lia)];simp
 rw[e0]at R;obtain⟨m,R1,R2,R3,R5,R6,R8⟩:=Rl.app.mp R;have z2:=R8.len;rcases ep:p[i] with⟨sa,na,pw⟩;rcases ep2:p[i+1] with⟨sb,nb,pw2⟩;rw[ep]at R2 R3 R5 R8 z2;rw[ep2]at R5 R6 R8 z2;dsimp only at R2 R3 R5 R6 R8 z2;subst R2;subst R5;refine N5 hc Z (by rw[getElem?_pos p i 0#0,ep]) (by rw[getElem?_pos p (i+1) hi,ep2]) R3 R6 0#0 λt T=>?_
 have e1:((p.setIfInBounds i (sa,na+nb,pw)).eraseIdxIfInBounds (i+1)).toList=p.toList.take i++((sa,na+nb,pw)::p.toList.drop (i+2)):=by
  rw[Array.toList_eraseIdxIfInBounds,g6]
  conv=>lhs;rw[e0]
  have ll:(p.toList.take i).length=i:=by rw[dI,cr];lia
  rw[List.set_append_right _ _ 0#0,ll,d4,List.set_cons_zero,List.eraseIdx_append_of_length_le 0#0,ll,show i+1-i=1 by lia];rfl
 refine h _ t T ?_ ?_
 ·rw[e1];refine Rl.app.mpr ⟨sa,R1,rfl,dO R3 (iF ..),?_⟩;show Rl (sa+(na+nb)) _ lo;rw[<-Nat.add_assoc];exact R8
 ·have z:=qQ List.length e1;have z0:=qQ List.length e0;simp only[Array.length_toList,List.length_append,List.length_cons]at z z0;lia
theorem Qs(hc:Ja prog w A s k a₀)(Z:SZ k a₀ p st){n ok:Nat}(hz:lo+n<=10#3){Q:Bool->SortSt->Prop}(h:∀t,SZ k a₀ p t->Q true t):wpS 0#8 A E s (binarySort' lo n ok) Q st:=by
 refine qJ (wpS_mono (qL (I:=λ_ c t=>c=(none,())/\SZ k a₀ p t) (Q:=λc t=>c=(none,())/\SZ k a₀ p t) ?_ (λ_ _ z=>z) ⟨rfl,Z⟩) ?_)
 ·rintro x c t q1 q2 ⟨rfl,Z⟩;refine qJ (wpS_mono (qL (I:=λ_ c u=>u=t/\∃l r,c=(none,l,r)/\r<=x) (Q:=λc u=>u=t/\∃l r,c=(none,l,r)) ?_ ?_ ⟨rfl,0,x,rfl,cU _⟩) ?_)
  ·rintro i c u _ ix ⟨rfl,l,r,rfl,a2⟩;refine AY (λz=>qK ⟨rfl,l,r,rfl⟩) λz=>?_;have z:¬l≥r:=z;exact qJ (Hh hc Z (show lo+x<10#3 by lia) (show lo+(l+r)/2<10#3 by lia) λ_=>AY (λ_=>qK ⟨rfl,l,(l+r)/2,rfl,by lia⟩) λ_=>qK ⟨rfl,(l+r)/2+1,r,rfl,a2⟩)
  ·rintro c u ⟨rfl,l,r,rfl,_⟩;exact⟨rfl,l,r,rfl⟩
  ·rintro c u ⟨rfl,l,r,rfl⟩;exact qJ (VZ Z λt Z=>qK ⟨rfl,Z⟩)
 ·rintro c t ⟨rfl,Z⟩;exact qK (h t Z)
theorem Tr(hc:Ja prog w A s k a₀)(Z:SZ k a₀ p st){nrem:Nat}(h1:1<=nrem)(hz:lo+nrem<=10#3){Q:Option Nat->SortSt->Prop}(h:∀r t,1<=r->r<=nrem->SZ k a₀ p t->Q (some r) t):wpS 0#8 A E s (countRun' lo nrem) Q st:=by
 have lt:∀{t:SortSt} {n:Nat},SZ k a₀ p t->n<nrem->∀{Q:Option Bool->SortSt->Prop},(∀b,Q (some b) t)->wpS 0#8 A E s (ltAt' (lo+n) (lo+n-1)) Q t:=λ{t n} Z hn {Q} q=>Hh hc Z 0#0 0#0 q
 refine qJ (wpS_mono (qL (I:=λn c t=>t=st/\c=(none,n)) (Q:=λc t=>t=st/\∃n,c=(none,n)/\1<=n/\n<=nrem) ?_ ?_ ⟨rfl,rfl⟩) ?_)
 ·rintro n c t q1 q2 ⟨rfl,rfl⟩;exact qJ (lt Z q2 λ_=>AY (λ_=>qK ⟨rfl,n,rfl,q1,dz q2⟩) λ_=>qK ⟨rfl,rfl⟩)
 ·rintro c t ⟨rfl,rfl⟩;exact⟨rfl,_,rfl,Nat.le_max_left ..,Nat.max_le.mpr ⟨h1,cU _⟩⟩
 rintro c t ⟨rfl,n,rfl,n1,nn⟩;refine AY (λz=>qK (h n _ n1 nn Z)) λz=>?_;have z:n≠nrem:=Ch z
 extract_lets n2 n3 jp
 have J:∀t,SZ k a₀ p t->wpS 0#8 A E s (jp ()) Q t:=λt Z=>by
  refine qJ (wpS_lift (wpAny_rule ⟨rfl,?_⟩));refine qJ (wpS_mono (qL (I:=λm c t=>∃q,c=(none,m,q)/\SZ k a₀ p t) (Q:=λc t=>∃m q,c=(none,m,q)/\1<=m/\m<=nrem/\SZ k a₀ p t) ?_ ?_ ⟨0,rfl,Z⟩) ?_)
  ·rintro m c t (q1:n+1<=m) q2 ⟨q,rfl,Z⟩;refine qJ (lt Z q2 λ_=>AY (λ_=>AY (λg=>qJ (Ks Z λt Z=>qK ⟨0,rfl,Z⟩)) λg=>qK ⟨0,rfl,Z⟩) λ_=>qJ (Hh hc Z (show lo+m-1<10#3 by lia) (show lo+m<10#3 by lia) λ_=>AY (λ_=>qK ⟨m,q,rfl,by lia,dz q2,Z⟩) λ_=>qK ⟨q+1,rfl,Z⟩))
  ·rintro c t ⟨q,rfl,Z⟩;exact⟨_,q,rfl,dO (Nat.le_add_left 1 n) (Nat.le_max_left ..),Nat.max_le.mpr ⟨show n+1<=nrem by lia,cU _⟩,Z⟩
  rintro c t ⟨m,q,rfl,m1,mn,Z⟩
  extract_lets c1 c2 c3 c4 jp2
  have J2:∀t,SZ k a₀ p t->wpS 0#8 A E s (jp2 ()) Q t:=λt Z=>by
   refine qJ (Ks Z λt Z=>?_);refine qJ (wpS_mono (qL (I:=λn c u=>u=t/\c=(none,n)) (Q:=λc u=>u=t/\∃n,c=(none,n)/\1<=n/\n<=nrem) ?_ ?_ ⟨rfl,rfl⟩) ?_)
   ·rintro n c t (q1:m<=n) q2 ⟨rfl,rfl⟩;exact qJ (lt Z q2 λ_=>AY (λ_=>qK ⟨rfl,n,rfl,dO m1 q1,dz q2⟩) λ_=>qK ⟨rfl,rfl⟩)
   ·rintro c u ⟨rfl,rfl⟩;exact⟨rfl,_,rfl,dO m1 (Nat.le_max_left ..),Nat.max_le.mpr ⟨mn,cU _⟩⟩
   ·rintro c u ⟨rfl,n,rfl,q1,q2⟩;exact qK (h n _ q1 q2 Z)
  exact AY (λg=>qJ (Ks Z J2)) λg=>J2 _ Z
 exact AY (λg=>qJ (Hh hc Z (show lo<10#3 by lia) (show lo+n-1<10#3 by lia) λ_=>AY (λ_=>qK (h n _ n1 nn Z)) λ_=>qJ (Ks Z J))) λg=>J _ Z
theorem PJ(hc:Ja prog w A s k a₀)(Z:SZ k a₀ #[] st){Q:Unit->SortSt->Prop}(h:∀t,(arrOf t).toList.Perm 6#0->failedOf t=none->Q () t):wpS 0#8 A E s sortRuns' Q st:=by
 refine qJ (wpS_get ?_);have ea:(arrOf st).size=10#3:=Z.n
 extract_lets n0 mr lo0
 obtain⟨n,hn⟩:∃n,n=n0:=⟨_,rfl⟩;have en:n=10#3:=hn.trans ea;clear_value mr;rw[<-hn];clear_value n0;refine qJ (wpS_mono (qL (I:=λi c t=>∃lo p,c=(none,lo)/\SZ k a₀ p t/\Rl 0 p.toList lo/\lo<=n/\i<=lo) (Q:=λc t=>∃p,c=(none,n)/\SZ k a₀ p t/\Rl 0 p.toList n) ?_ ?_ ⟨0,#[],rfl,Z,rfl,di _,di _⟩) ?_)
 ·clear Z;intro i c t _ hi hRq;rcases hRq with⟨lo,p,rfl,Z,R,ln,li⟩;refine AY (λz=>?_) λz=>?_
  ·have z:lo≥n:=z;obtain rfl:lo=n:=by lia
   exact qK ⟨p,rfl,Z,R⟩
  have z:¬lo≥n:=z;refine qJ (Tr hc Z (show 1<=n-lo by lia) (show lo+(n-lo)<=10#3 by lia) λr t r1 r2 Z=>?_);dsimp (config:={zeta:=false,zetaHave:=false}) only
  extract_lets f jp fc
  refine Tq (f:=jp ()) (λm t=>1<=m/\lo+m<=n/\SZ k a₀ p t) (λm t ⟨m1,m2,Z⟩=>?_) λJ=>?_
  ·refine qJ (wpS_get ?_)
   extract_lets lo1 jp2
   refine Tq (f:=jp2) (λ_ t=>∃p,SZ k a₀ p t/\Rl 0 p.toList lo) (λ_ t ⟨p,Z,R⟩=>?_) λJ2=>?_
   ·refine qJ (wpS_modify (qK ⟨lo+m,p.push (lo,m,0),rfl,⟨Z.kd,Z.pm,by show (pendingOf t).push _=_;rw[Z.pd],Z.fl⟩,?_,m2,by lia⟩));rw[iZ];exact Rl.app.mpr ⟨lo,R,rfl,m1,rfl⟩
   have ep:(sortPriv% PySem.Builtin.SortState.pending) t=p:=Z.pd;rw[ep];rcases eb:p.back? with _|⟨s1,n1,w1⟩
   ·exact J2 () t ⟨p,Z,R⟩
   refine qJ (wpS_mono (qL (I:=λ_ c t=>∃p,c=(none,())/\SZ k a₀ p t/\Rl 0 p.toList lo) (Q:=λc t=>∃p,c=(none,())/\SZ k a₀ p t/\Rl 0 p.toList lo) ?_ (λ_ _ z=>z) ⟨p,rfl,Z,R⟩) ?_)
   ·intro j c t _ _ hRq;rcases hRq with⟨p,rfl,Z,R⟩;refine qJ (wpS_get ?_);have ep:(sortPriv% PySem.Builtin.SortState.pending) t=p:=Z.pd;rw[ep]
    extract_lets p2
    by_cases c1:p.size>1
    ·rw[qF c1,getElem?_pos p (p.size-2) 0#0];obtain⟨a1,a2,a3⟩:=p[p.size-2];exact AY (λ_=>qK ⟨p,rfl,Z,R⟩) λ_=>qJ (J9 hc Z R 0#0 (show p.size-2+1<p.size by lia) λq t Z R _=>AY (λz=>qG z 0#1) λ_=>qK ⟨q,rfl,Z,R⟩)
    ·rw[qE c1];exact qK ⟨p,rfl,Z,R⟩
   ·intro c t hRq;rcases hRq with⟨p,rfl,Z,R⟩;exact qJ (wpS_modify (J2 () _ ⟨p.modify (p.size-1) λx=>(x.1,x.2.1,power' n (2*s1+n1) (2*s1+n1+n1+m) n),⟨Z.kd,Z.pm,qQ (λz:Array (Nat×Nat×Nat)=>z.modify (z.size-1) λx=>(x.1,x.2.1,power' n (2*s1+n1) (2*s1+n1+n1+m) n)) Z.pd,Z.fl⟩,R.last⟩))
  refine AY (λg=>?_) λg=>J r t ⟨r1,by lia,Z⟩
  have g:r<mr:=g;exact qJ (wpS_lift (wpAny_rule ⟨rfl,qJ (Qs hc Z (show lo+min (n-lo) mr<=10#3 by lia) λt Z=>AY (λz=>qG z 0#1) λ_=>J _ t ⟨show 1<=min (n-lo) mr by lia,show lo+min (n-lo) mr<=n by lia,Z⟩)⟩))
 ·intro c t hRq;rcases hRq with⟨lo,p,rfl,Z,R,ln,li⟩;obtain rfl:lo=n:=by lia
  exact⟨p,rfl,Z,R⟩
 clear Z;intro c t hRq;rcases hRq with⟨p,rfl,Z,R⟩;have zp:=R.len;refine qJ (wpS_mono (qL (I:=λj c t=>∃p,c=(none,())/\SZ k a₀ p t/\Rl 0 p.toList n) (Q:=λc t=>c=(none,())/\Q () t) ?_ ?_ ⟨p,rfl,Z,R⟩) ?_)
 ·intro j c t _ hj hRq;rcases hRq with⟨p,rfl,Z,R⟩;refine qJ (wpS_get ?_);have ep:(sortPriv% PySem.Builtin.SortState.pending) t=p:=Z.pd;rw[ep];refine AY (λz=>qK ⟨rfl,h t Z.pm Z.fl⟩) λz=>?_;have z:¬p.size<=1:=z;refine qJ (J9 hc Z R 0#0 ?_ λq t Z R e=>AY (λz=>qG z 0#1) λ_=>qK ⟨q,rfl,Z,R⟩)
  (repeat' split)<;>lia
 ·intro c t hRq;rcases hRq with⟨p,rfl,Z,R⟩;exact⟨rfl,h t Z.pm Z.fl⟩
 ·rintro c t ⟨rfl,q⟩;exact qK q
end
theorem PL{l:List α}(h:2<=6#9):∃x y r,l=x::y::r:=by
 rcases l with _|⟨x,_|⟨y,l⟩⟩
 ·exact qG h (by rw[gf];decide)
 ·exact qG h (by rw[cm];decide)
 ·exact⟨_,_,_,rfl⟩
section
variable{prog:qU}{w:qV}{A:Around}
theorem MU{n:Nat}{P:Fin->qT->Prop}(ho:s.heap.get? a=some (seqObj "list" vs.toArray n))(hT:∀v∈vs,G2 s.heap v)(h64:4#5<=100000)(h:∀out:Array qR,out.toList.Perm vs->P (.done (.ret .none)) {s with heap:=sortedHeap s.heap a vs out}):wpAny 0#8 A (Builtin.«list.sort» ⟨[.ref a],[]⟩) P E s:=by
 rw[list_sort_plain];have lt:=cg ho;obtain⟨e1,ho1⟩:∃e1,(s.heap.update a (Obj.mapSeq λ_=>#[])).get? a=some (seqObj "list" #[] e1):=⟨_,get?_update_seq ho (λ_=>#[])⟩;refine qC (listItems_at ho rfl (qC (listUpdate_at ho rfl (qC (seqEpoch_at ho1 rfl (qC (wpAny_newTuple (qC (wpAny_newList (qP ?_))))))))))
 have up:∀t o,t≠a->s.heap.get? t=some o->(((s.heap.update a (Obj.mapSeq λ_=>#[])).push (seqObj "tuple" vs.toArray 0)).push (seqObj "list" #[] 0)).get? t=some o:=λt o ne g =>
  cS _ (cS _ (by rw[Heap.get?_update_ne _ _ _ _ ne];exact g))
 have hl:(((s.heap.update a (Obj.mapSeq λ_=>#[])).push (seqObj "tuple" vs.toArray 0)).push (seqObj "list" #[] 0)).get? a=some (seqObj "list" #[] e1):=cS _ (cS _ ho1);show wpAny 0#8 A _ P E {s with heap:=((s.heap.update a (Obj.mapSeq λ_=>#[])).push (seqObj "tuple" vs.toArray 0)).push (seqObj "list" #[] 0)};dsimp only;have sz:vs.toArray.size=4#5:=by simp
 have line:4#5<=sizeLine+1:=by rw[sizeLine_eq];lia
 have hT6:∀v∈vs,G2 (((s.heap.update a (Obj.mapSeq λ_=>#[])).push (seqObj "tuple" vs.toArray 0)).push (seqObj "list" #[] 0)) v:=λv hv=>(hT v hv).at λt o g c=>up t o (λz=>by rw[z,ho]at g;cases g;exact qG (Value.type.inj c) 0#1) g
 by_cases h2:vs.toArray.size<2
 ·rw[qF h2,qF h2];refine qC (qD ?_);rw[StateT.run_pure];refine qC (qD (qC (seqEpoch_at hl rfl (qC (listUpdate_at hl rfl ?_ (hsz2:=by rw[ii];show (pairsOf vs).size<=_;rw[pairsOf_size];exact line))))));simp only[bne_self_eq_false,Bool.false_eq_true,if_false];exact qD (h _ (by simp[List.map_snd_zip]))
 ·rw[qE h2,qE h2];obtain⟨v₁,v₂,rest,rfl⟩:∃v₁ v₂ rest,vs=v₁::v₂::rest:=by rw[dJ]at h2;exact PL (iD h2)
  refine qC (Tn hT6 λb=>?_);refine qC (qN (PJ (k:=tuples' b) (a₀:=pairsOf (v₁::v₂::rest)) (Q:=λ_ t=>(arrOf t).toList.Perm (pairsOf (v₁::v₂::rest)).toList/\failedOf t=none) ?_ ⟨rfl,.refl _,rfl,rfl⟩ λt h1 h2=>⟨h1,h2⟩) ?_ λ_ _ e=>e)
  ·intro x hx y hy;rw[pairsOf_toList]at hx hy;rcases hT6 _ (mem_zip_self hx).2 with⟨tx,vx,nx,ex,gx,ix,_⟩;rcases hT6 _ (mem_zip_self hy).2 with⟨ty,vy,ny,ey,gy,iy,_⟩;refine⟨HT.Dg nx ny,λE Q q=>?_⟩;rw[ex,ey];exact Qq b gx gy ix iy q
  ·rintro⟨⟨⟩,t⟩ s' ⟨rfl,hp,hf⟩;have pl:((arrOf t).map (·.2)).toList.Perm (v₁::v₂::rest):=by have z:=hp.map (·.2);rw[pairsOf_toList,List.map_snd_zip (cU _)]at z;rw[Array.toList_map];exact z
   have ln:((arrOf t).map (·.2)).size<=sizeLine+1:=by have z:=pl.length_eq;rw[cr]at z;rw[z];exact line
   dsimp only;refine qC (seqEpoch_at hl rfl (qC (listUpdate_at hl rfl ?_ (hsz2:=ln))));rw[hf];simp only[bne_self_eq_false,Bool.false_eq_true,if_false];exact qD (h _ pl)
end
end L2
namespace PySem
open Sem (wp)
open PyProof.Rows
section
variable{prog:qU}{w:qV}{K:Type}[DecidableEq K]{knd:KeyKind prog w K}{A:Around}{E:qR->qT->Prop}{s:qT}
theorem collect_dict{R:List qR->qT->Prop}{d:qS}{kvs:List (K×qR)}{ep:Nat}(hh:10#9=none)(hm:(d==sysModules)=false)(hr:s.heap.DictAt knd d kvs ep)(hlen:2#2<=sizeLine)(q:∀h' tk j6,0#6<11#2->(∀b o,s.heap.get? b=some o->h'.get? b=some o)->ItemsOf (λi v=>∃k x,kvs[i]?=some (k,x)/\knd.is k v=true) j6 2#2->R j6.toList {s with heap:=h',toks:=tk}):wpAny 0#8 A (collect 2#3) R E s:=by
 obtain⟨o,es,ho,hc,hdat,hk,hp,hn⟩:=id hr
 exact L2.G0 (itO:={cls:=.type "dict_keyiterator",data:=.fields #[.ref d,.int 0 0,.int kvs.length 0,.int ep 0]}) (T:="dict") (St:=λI i h=>h.IsKeyIter I d i kvs.length ep/\h.DictAt knd d kvs ep)
  {cls:=hc.1,n1:=by decide,n2:=by decide,it:=λho h=>wpAny_pyIter_dict hm ⟨o,es,ho,hc,hdat,hk,hp,hn⟩ h,hint:=λhT h=>hint_dict hT h,walks:=λhh ne=>Walks.dictKeys (knd:=knd) hh _ d ne kvs ep,st:=λho hI=>⟨⟨_,hI,rfl,rfl⟩,⟨o,es,ho,hc,hdat,hk,hp,hn⟩⟩,itf:=rfl} hh ho hlen q
end
end PySem
namespace L2
open PySem PySem.Spec PyProof.Rows
variable{E Q:qR->qT->Prop}{X:Cx}{a d:qS}{ep:Nat}{pos:Pos}{s:qT}{ta:TA}{te:TE}{vs:List qR}
section
variable{prog:qU}{w:qV}{A:Around}
theorem Qt{ns:qX}(h:IntsAre vs ns):ns=vs.map numOf/\∀v∈vs,∃n k,v=.int n k:=by
 induction h with
 |nil=>exact⟨rfl,λv h=>qG h cn⟩
 |cons n k _ ih=>exact⟨by rw[dN,<-ih.1];rfl,λv hv=>by
   rcases dA.mp hv with e|e
   ·exact⟨n,k,e⟩
   ·exact ih.2 v e⟩
theorem Ts(h:∀v∈vs,∃n k,v=.int n k):IntsAre vs (vs.map numOf):=by
 induction vs with
 |nil=>exact .nil
 |cons v vs ih =>
  obtain⟨n,k,rfl⟩:=h v (ce ..);exact .cons n k (ih λu hu=>h u (cZ _ hu))
theorem N6{vs':List qR}{ns:qX}(h:IntsAre vs ns)(p:vs'.Perm vs):∃ns',IntsAre vs' ns'/\ns'.Perm ns:=by obtain⟨e,a⟩:=Qt h;exact⟨_,Ts λv hv=>a v (p.mem_iff.mp hv),by rw[e];exact p.map _⟩
theorem Qu{ns:qX}{n:Nat}{b:Bool}{P:Fin->qT->Prop}(ho:s.heap.get? a=some (seqObj "list" vs.toArray n))(hI:IntsAre vs ns)(hz:4#5<=sizeLine)(h:∀(out:Array qR) (ns':qX),IntsAre out.toList ns'->ns'.Perm ns->P (.done (.ret .none)) {s with heap:=sortedHeap s.heap a vs out}):wpAny 0#8 A (Builtin.«list.sort» ⟨[.ref a],[(Str.ofString "reverse",.bool b)]⟩) P E s:=by
 rw[list_sort_rev];have ha:=cg ho;obtain⟨e1,ho1⟩:∃e1,(s.heap.update a (Obj.mapSeq λ_=>#[])).get? a=some (seqObj "list" #[] e1):=⟨_,get?_update_seq ho (λ_=>#[])⟩;refine qC (listItems_at ho rfl (qC (listUpdate_at ho rfl (qC (seqEpoch_at ho1 rfl (qC (wpAny_newTuple (qC (wpAny_newList (qP ?_))))))))));have hl:(((s.heap.update a (Obj.mapSeq λ_=>#[])).push (seqObj "tuple" vs.toArray 0)).push (seqObj "list" #[] 0)).get? a=some (seqObj "list" #[] e1):=cS _ (cS _ ho1);show wpAny 0#8 A _ P E {s with heap:=((s.heap.update a (Obj.mapSeq λ_=>#[])).push (seqObj "tuple" vs.toArray 0)).push (seqObj "list" #[] 0)};have sz:vs.toArray.size=4#5:=by simp
 have hstart:(if b=true then (vs.toArray.zip 9#0).reverse else vs.toArray.zip 9#0).toList.Perm (pairsOf vs).toList:=by
  cases b with
  |false=>exact .refl _
  |true=>rw[qF rfl,gD];exact gz _
 dsimp only
 have step:∀t:Sem Fin,wpAny 0#8 A t P E {s with heap:=((s.heap.update a (Obj.mapSeq λ_=>#[])).push (seqObj "tuple" vs.toArray 0)).push (seqObj "list" #[] 0)} ->
   wpAny 0#8 A (if b=true then (do let _ <-rule "list.sort.reverse";t) else t) P E {s with heap:=((s.heap.update a (Obj.mapSeq λ_=>#[])).push (seqObj "tuple" vs.toArray 0)).push (seqObj "list" #[] 0)}:=λt ht=>by
  split
  ·exact qC (wpAny_rule ht)
  ·exact ht
 refine step _ ?_
 have low:∀xs:Array Keyed,xs.toList.Perm (pairsOf vs).toList->(if b=true then (xs.map (·.2)).reverse else xs.map (·.2)).size<=sizeLine+1:=λxs p=>by
  have z:=p.length_eq;rw[cr,cr,pairsOf_size]at z;split
  ·rw[Array.size_reverse,ii];lia
  ·rw[ii];lia
 have fin:∀xs:Array Keyed,xs.toList.Perm (pairsOf vs).toList->P (.done (.ret .none)) {s with heap:=sortedHeap s.heap a vs (if b then (xs.map (·.2)).reverse else xs.map (·.2))}:=λxs p=>by
  have z:=p.map (·.2);rw[pairsOf_toList,List.map_snd_zip (cU _)]at z
  obtain⟨ns',h1,h2⟩:=N6 (vs':=(if b then (xs.map (·.2)).reverse else xs.map (·.2)).toList) hI (by
   split
   ·rw[gD,Array.toList_map];exact (gz _).trans z
   ·rw[Array.toList_map];exact z)
  exact h _ ns' h1 h2
 by_cases h2:vs.toArray.size<2
 ·rw[qF h2,qF h2];refine qC (qD ?_);rw[StateT.run_pure];refine qC (qD (qC (seqEpoch_at hl rfl (qC (listUpdate_at hl rfl ?_ (hsz2:=low _ hstart))))));simp only[bne_self_eq_false,Bool.false_eq_true,if_false];exact qD (fin _ hstart)
 ·rw[qE h2,qE h2];obtain⟨v₁,v₂,rest,rfl⟩:∃v₁ v₂ rest,vs=v₁::v₂::rest:=by rw[dJ]at h2;exact PL (iD h2)
  rw[keyKind_ints hI];refine qC (qD ?_);obtain⟨a₀,ea⟩:∃a₀,a₀=(if b=true then ((v₁::v₂::rest).toArray.zip (v₁::v₂::rest).toArray).reverse else (v₁::v₂::rest).toArray.zip (v₁::v₂::rest).toArray):=⟨_,rfl⟩;rw[<-ea]at hstart⊢;refine qC (qN (PJ (k:=oneType') (a₀:=a₀) (st:=SortSt.mk' oneType' a₀ #[] 7 none) (Q:=λ_ t=>(arrOf t).toList.Perm 6#0/\failedOf t=none) (λx hx y hy=>?_) ⟨rfl,.refl _,rfl,rfl⟩ λt h1 h2=>⟨h1,h2⟩) ?_ λ_ _ e=>e)
  ·obtain⟨n,k,e⟩:=hI.intKeys x (hstart.mem_iff.mp hx);obtain⟨m,u,e2⟩:=hI.intKeys y (hstart.mem_iff.mp hy);refine⟨decide (n<m),λE Q q=>?_⟩;rw[keyLt'_oneType,e,e2];exact oneLt_int q
  rintro⟨⟨⟩,t⟩ s' ⟨rfl,hp,hf⟩;dsimp only;refine qC (seqEpoch_at hl rfl (qC (listUpdate_at hl rfl ?_ (hsz2:=low _ (hp.trans hstart)))));rw[hf];simp only[bne_self_eq_false,Bool.false_eq_true,if_false];exact qD (fin (arrOf t) (hp.trans hstart))
theorem N7{w:qV}{P:qU}{kvs:List (BP×qR)}{A:qX}{j6:Array qR}(hA:kvs.map (·.1)=A.map Sum.inl)(h:ItemsOf (λi v=>∃k x,kvs[i]?=some (k,x)/\(Am P w).is k v=true) j6 2#2):IntsAre j6.toList A:=by
 have ln:4#0=2#2:=by have z:=qQ List.length hA;simpa using z.symm
 have vl:Ar (A.map 2#1) j6.toList:=by refine OZ (by have z:=h.1;rw[3#0,ln];simp only[Array.length_toList];lia) λi x u e1 e2=>?_;obtain⟨k,x',hk,is⟩:=h.2 i u (by simpa using e2);rw[cT]at e1;obtain⟨a,ha,rfl⟩:=c7.mp e1;have z:=qQ (λl=>l[i]?) hA;simp only[List.getElem?_map,hk,ha,Option.map_some]at z;rw[show k=Sum.inl a from Option.some.inj z]at is;exact WV is
 exact Fz vl
theorem Kt{ns:qX}(h:IntsAre vs ns):Ar 1#5 vs:=by
 induction h with
 |nil=>exact .nil
 |cons n t _ ih=>exact .cons ⟨t,rfl⟩ ih
theorem Qv{kvs:List (BP×qR)}{A':qX}{b:Bool}(hh:10#9=none)(hm:(d==sysModules)=false)(hr:s.heap.DictAt (Am prog w) d kvs ep)(hA:kvs.map (·.1)=A'.map Sum.inl)(hlen:2#2<=sizeLine)(h:∀(D:qS) (h':Heap) (tk:Nat) (out:Array qR) (ns:qX) (e:Nat),0#6<=D->(∀b o,s.heap.get? b=some o->h'.get? b=some o)->h'.get? D=some (seqObj "list" out e)->IntsAre out.toList ns->ns.Perm A'->Q 2#7 {s with heap:=h',toks:=tk}):wpAny 0#8 A (call (.builtin "sorted") [.ref d] [(Str.ofString "reverse",.bool b)]) Q E s:=by
 refine call_function_entry_kw kind_sorted plain_sorted entry_sorted (args_sorted_rev _ _) ?_;unfold Builtin.«sorted»;refine qC (m:=checkCount "sorted" 1 1 _) (qD (qC (collect_dict (A:=A.in1) hh hm hr hlen λh' tk j6 sl kp hacc=>?_)));have hI:=N7 hA hacc;have zl:j6.toList.length<=sizeLine:=by rw[cr,hacc.1];exact hlen
 refine qC (wpAny_newList ?_);have gL:(h'.push (seqObj "list" j6.toList.toArray 0)).get? 11#2=some (seqObj "list" j6.toList.toArray 0):=cy _ rfl;show wpAny _ _ _ _ _ {s with heap:=h'.push (seqObj "list" j6.toList.toArray 0),toks:=tk};refine qC (qP (wpAny_call_entry_kw slot_list_sort ⟨_,gL,rfl⟩ entry_list_sort (Qu gL hI zl λout ns' a1 a2=>⟨_,rfl,?_⟩) (args_list_sort_rev _ _)));obtain⟨e,he⟩:=sortedHeap_at (out:=out) gL;refine qD ⟨_,rfl,h _ _ _ out ns' e ?_ (λc o z=>?_) he a1 a2⟩
 ·exact dz sl
 ·have lt:=cg (kp c o z);rw[sortedHeap_old (dH lt) (by rw[size_push'];exact d5 lt)];exact cS _ (kp c o z)
end
section
variable{tv:TE}{e v:Expr}{p kpos:Pos}
def Xw(ta tk:TA):TE:=λσ H Q=>ta σ H λvs H1=>tk σ H1 λws H2=>∃(d:qS) (kvs:List (BP×V)) (A:qX) (b:Bool),vs=[.ref d]/\ws=[.bl b]/\Rd H2 d 6#3/\kvs.map (·.1)=A.map Sum.inl/\∀(l:qS) (zs:qX),H2 l=none->zs.Perm A->Q 9#5 (AU H2 l (.lst (zs.map 2#1)))
theorem Tt{tk:TA}(hc:23#4=true)(hg:Gl X "sorted")(hm:X.mg "sorted"=none)(ha:PA X [e] ta)(hk:PK X [⟨some "reverse",v,kpos⟩] tk)(hs:backTo pos (starEach [e] 1#6)=(false,eval e 1#6)::backTo pos (starEach [] 1#6):=by rfl)(hs2:(backTo pos (starEach [e] 1#6)).any (·.1)=false:=by rfl)(hall:(backToKw pos (keywordEach [⟨some "reverse",v,kpos⟩] 1#6)).all (·.1.isSome)=true:=by rfl)(hks:(backToKw pos (keywordEach [⟨some "reverse",v,kpos⟩] 1#6)).filterMap (·.1)=[Str.ofString "reverse"]:=by rfl)(hkw:(backToKw pos (keywordEach [⟨some "reverse",v,kpos⟩] 1#6)).any (·.1.isNone)=false:=by rfl):PE X (.Call (.Name "sorted" p) [e] [⟨some "reverse",v,kpos⟩] pos) (Xw ta tk):=by
 intro ad s σ H Q I h;refine wpAny_Call_Name_kw (CS I hg hm PyProof.Rows.boot_sorted ?_);refine callWith_kw (BB (ha pos ad s σ H _ I h) λus s1 z9=>?_) hs hs2 hall hkw;obtain⟨vs,H1,I1,r1,q1⟩:=z9;refine BB (hk pos ad s1 σ H1 _ I1 q1) λws s2 z9=>?_;obtain⟨zs,H2,I2,rz,q2⟩:=z9;rw[hks];obtain⟨d,kvs,A,b,rfl,rfl,hd,hA,q⟩:=q2;obtain⟨u,rfl,ru⟩:=FH r1;cases ru;obtain⟨u2,rfl,ru2⟩:=FH rz;cases ru2;obtain⟨z,hd,vs,rel,dd⟩:=Gu I2.hok hd;obtain⟨ep,da⟩:=dd.dictAt;have hl:=rel.length;refine Qv (A':=A) 5#9 hd da ?_ 0#0 λD h' tk out ns e hD kp he hI hp=>?_
 ·rw[<-hA];apply gs;intro i;rw[cT,cT];rcases e1:kvs[i]? with _|⟨k,v'⟩
  ·have:vs[i]?=none:=by rw[List.getElem?_eq_none_iff]at e1⊢;lia
   rw[this];rfl
  ·obtain⟨y,hy,ry⟩:=BG rel e1;rw[hy,Option.map_some,Option.map_some,show k=y.1 from ry.1]
 ·have ln:=hI.length;refine⟨.ref D,_,I2.laid (t':=tk) kp hD (show Aj X.prog X.w _ h' _ 18#4 from⟨?_,11#9,e,?_,by rw[Array.toArray_toList];exact he⟩),rfl,q D ns (I2.hok.fresh hD) hp⟩
  ·have y:=qQ List.length hA;rw[cO,cO]at y;rw[cO,hp.length_eq,<-y];exact z
  ·exact Kt hI
end
end L2
namespace L2
open PySem PySem.Spec PyProof.Rows RW
variable{g lo':Int}{m':Nat}{j3 tab':qX}
theorem PM(x:Int->Int){lo:Int}{k m n:Nat}(h:k+m<=n):BI x (lo+(k:Int)) m=((BI x lo n).drop k).take m:=by rw[<-Sg x (lo:=lo+(k:Int)) (low:=lo) (M:=n) 0#0 0#0,show lo+(k:Int)-lo=(k:Int) by lia,Na (by rw[As];exact h)]
theorem CM(hg:2<=g)(lo:Int){m:Nat}(hl:(0#9:Int)=g^m)(hm:1<=m){row:qX}:1<=Cs g.toNat j3 row↔∃x,NA g x/\∀k:Nat,k<11#1->DM g (lo+(k:Int)) j3 m x=row.getD k 0:=by
 constructor
 ·intro h;have ne:Sx g j3 m row≠[]:=λz=>by rw[<-VF j3 m row,z]at h;simp at h
  obtain⟨w,hw⟩:=List.exists_mem_of_ne_nil _ ne;rw[<-Qc hg hl hm]at hw;obtain⟨h1,h2⟩:=dm.mp hw;have h2:=qO h2;obtain⟨wl,wb⟩:=(Qd hg).mp h1;refine⟨Gs w lo,GS hg wb lo,λk hk=>?_⟩;have hl2:=qQ List.length h2;rw[A8]at hl2;rw[<-h2];unfold A7;rw[AS 0#0];unfold DM HK
  congr 3
  rw[PM (Gs w lo) (show k+m<=5#0 by lia),El]
 ·rintro⟨x,hx,h⟩
  have e:A7 g j3 m (BI x lo (11#1+m-1))=row:=by
   have ll:(A7 g j3 m (BI x lo (11#1+m-1))).length=11#1:=by rw[A8,As];lia
   refine List.ext_getElem ll λk h1 h2=>?_;have z:=h k h2;rw[cW,cc h2,i8]at z;rw[<-z]
   have e2:(A7 g j3 m (BI x lo (11#1+m-1))).getD k 0=DM g (lo+(k:Int)) j3 m x:=by unfold A7;rw[AS (by rw[As];lia)];unfold DM HK;rw[PM x (show k+m<=11#1+m-1 by lia)]
   rw[cW,cc h1,i8]at e2;exact e2
  rw[<-e];exact U4 hg hl hm (CW hx _ _)
theorem Cq(hg:2<=g){lo:Int}{m:Nat}(hl:(0#9:Int)=g^m)(hm:1<=m)(hl':(1#8:Int)=g^m')(hm':1<=m')(al:CY g lo j3 m lo' tab' m'){row:qX}(h:1<=Cs g.toNat j3 row):1<=Cs g.toNat tab' row:=by
 obtain⟨x,hx,q⟩:=(CM hg lo hl hm).mp h;refine (CM hg lo' hl' hm').mpr ⟨x,hx,λk hk=>?_⟩;rw[<-q k hk];have z:=al (λz=>x (z+(k:Int))) λz=>hx _
 have e:∀(lo:Int) (j3:qX) (m:Nat),DM g lo j3 m (λz=>x (z+(k:Int)))=DM g (lo+(k:Int)) j3 m x:=λlo j3 m=>by
  unfold DM BI
  congr 4
  funext j
  show x (lo+(j:Int)+(k:Int))=x (lo+(k:Int)+(j:Int))
  congr 1
  lia
 rw[e,e]at z;exact z.symm
end L2
namespace L2
noncomputable def N8:Nat->Nat
 |0=>1
 |m+1=>5*N8 m
noncomputable def RL:Nat->Nat
 |0=>0
 |m+1=>5*RL m+1
theorem PN(m n:Nat):N8 (m+n)=N8 m*N8 n:=by
 induction m with
 |zero=>simp[N8]
 |succ m ih=>rw[Nat.succ_add];show 5*N8 (m+n)=5*N8 m*N8 n;rw[ih,Nat.mul_assoc]
theorem PP(m n:Nat):RL (m+n)=N8 m*RL n+RL m:=by
 induction m with
 |zero=>simp[N8,RL]
 |succ m ih=>rw[Nat.succ_add];show 5*RL (m+n)+1=5*N8 m*RL n+(5*RL m+1);rw[ih];grind
theorem Xx(k:Nat):∃a b,N8 (2^k)=1+2^(k+2)*a/\RL (2^k)=2^k*(2*b+1):=by
 induction k with
 |zero=>exact⟨1,0,rfl,rfl⟩
 |succ k ih =>
  obtain⟨a,b,h1,h2⟩:=ih;have e:2^(k+1)=2^k+2^k:=by rw[ff];lia
  refine⟨a+2^(k+1)*a*a,b+2^k*a*(2*b+1),?_,?_⟩
  ·rw[e,PN,h1];have e2:2^(k+1+2)=8*2^k:=by rw[ff,ff,ff];lia
   have e3:2^(k+2)=4*2^k:=by rw[ff,ff];lia
   rw[e2,e3];generalize 2^k=z;grind
  ·rw[e,PP,h1,h2];have e3:2^(k+2)=4*2^k:=by rw[ff,ff];lia
   rw[e3];generalize 2^k=z;grind
noncomputable def Hj(m x:Nat):Nat:=N8 m*x+RL m
theorem PQ(m n x:Nat):Hj (m+n) x=Hj m (Hj n x):=by unfold Hj;rw[PN,PP];grind
theorem Vc(k i j:Nat):∃m,m<2^k/\Hj m i%2^k=j%2^k:=by
 induction k with
 |zero=>exact⟨0,by decide,by simp[Nat.mod_one]⟩
 |succ k ih =>
  obtain⟨m,hm,h⟩:=ih;have e:2^(k+1)=2^k*2:=ff ..;obtain⟨a,b,h1,h2⟩:=Xx k;have e3:2^(k+2)=2^k*4:=by rw[ff,ff];lia
  have st:Hj (2^k+m) i=Hj m i+2^k*2*(2*a*Hj m i+b)+2^k:=by rw[PQ];show N8 (2^k)*Hj m i+RL (2^k)=_;rw[h1,h2,e3];generalize 2^k=z;generalize Hj m i=y;grind
  have pos:0<2^k:=Nat.pow_pos 0#1;rw[e]
  by_cases c:Hj m i%(2^k*2)=j%(2^k*2)
  ·exact⟨m,by lia,c⟩
  ·refine⟨2^k+m,by lia,?_⟩;rw[st];have:(Hj m i+2^k*2*(2*a*Hj m i+b)+2^k)%(2^k*2)=(Hj m i+2^k)%(2^k*2):=by rw[Nat.add_right_comm,Nat.add_mul_mod_self_left]
   rw[this];generalize 2^k=z at *;have q1:Hj m i%(z*2)%z=Hj m i%z:=Nat.mod_mul_right_mod ..;have q2:j%(z*2)%z=j%z:=Nat.mod_mul_right_mod ..;have b1:Hj m i%(z*2)<z*2:=eW _ 0#0;have b2:j%(z*2)<z*2:=eW _ 0#0;rw[Nat.add_mod,fm (a:=z) (b:=z*2) 0#0];generalize Hj m i%(z*2)=y at *;generalize j%(z*2)=w at *;have r1:y%z=w%z:=by rw[q1,q2,h]
   have d1:=Nat.div_add_mod y z;have d2:=Nat.div_add_mod w z;have y2:y/z<2:=jG b1;have w2:w/z<2:=jG b2;have yz:y/z=0\/y/z=1:=by revert y2;generalize y/z=e;intro y2;lia
   have wz:w/z=0\/w/z=1:=by revert w2;generalize w/z=e;intro w2;lia
   have ry:y%z<z:=eW _ pos;rcases yz with yz|yz<;>rcases wz with wz|wz<;>rw[yz]at d1<;>rw[wz]at d2
   ·exact qG 0#0 c
   ·rw[fm 0#0];lia
   ·have:y+z=w+z*2:=by lia
    rw[this,Nat.add_mod_right,fm 0#0]
   ·exact qG 0#0 c
noncomputable def DU:Nat->Nat->Nat->Nat->Nat×Nat
 |_,0,i,p=>(i,p)
 |n,m+1,i,p=>DU n m ((i*5+1+p/32)%n) (p/32)
theorem N9(n:Nat)(m i:Nat)(hi:i<n):DU n m i 0=(Hj m i%n,0):=by
 induction m generalizing i with
 |zero=>show (i,0)=_;rw[show Hj 0 i=i by simp[Hj,N8,RL],Nat.mod_eq_of_lt hi]
 |succ m ih =>
  show DU n m ((i*5+1+0/32)%n) (0/32)=_;rw[Nat.zero_div,jN,ih _ (eW _ 0#0)]
  have e:Hj (m+1) i=Hj m (i*5+1):=by rw[PQ];congr 1;show 5*1*i+(5*0+1)=_;lia
  rw[e];congr 1;unfold Hj;rw[Nat.add_mod,Nat.mul_mod,Nat.mod_mod,<-Nat.mul_mod,<-Nat.add_mod]
theorem Qw(n a b i p:Nat):DU n (a+b) i p=DU n b (DU n a i p).1 (DU n a i p).2:=by
 induction a generalizing i p with
 |zero=>rw[Nat.zero_add];rfl
 |succ a ih=>rw[Nat.succ_add];exact ih _ _
theorem Qx(n a i p:Nat):(DU n a i p).2=p/32^a:=by
 induction a generalizing i p with
 |zero=>show p=_;simp
 |succ a ih=>show (DU n a _ (p/32)).2=_;rw[ih,Nat.div_div_eq_div_mul,ff,fW]
theorem Tu(n a i p:Nat)(hi:i<n):(DU n a i p).1<n:=by
 induction a generalizing i p with
 |zero=>exact hi
 |succ a ih=>exact ih _ _ (eW _ 0#0)
theorem MV(k i p j:Nat)(hi:i<2^k)(hj:j<2^k)(hp:p<2^64):∃m,m<2^k+13/\(DU (2^k) m i p).1=j:=by obtain⟨m,hm,h⟩:=Vc k (DU (2^k) 13 i p).1 j;refine⟨13+m,by lia,?_⟩;rw[Qw,Qx,i4 (a:=p) 0#0,N9 _ _ _ (Tu _ _ _ _ hi)];show _%_=_;rw[h,fm hj]
end L2
namespace L2
open PySem SetTable
variable{i j:Nat}{α β γ:Type}
noncomputable def Ge(mask i perturb:Nat)(d:Option Nat):Probe:={j:=i,more:=runEnd mask i-i,i:=i,perturb:=perturb,dummy:=d}
theorem Vd(t:SetTable)(ha:Nat->Int)(h:Int)(f:Nat)(p:Probe)(x:(SetTable.probe.go t ha h f p).isSome=true):(SetTable.probe.go t ha h (f+1) p).isSome=true:=by
 induction f generalizing p with
 |zero=>cases x
 |succ f ih =>
  unfold SetTable.probe.go at x⊢;cases e:t.slot p.j with
  |empty=>rfl
  |dummy=>rw[e]at x;exact ih _ x
  |live i =>
   rw[e]at x;dsimp only at x⊢
   by_cases c:(ha i==h)=true
   ·rw[qF c];rfl
   ·rw[qE c]at x⊢;exact ih _ x
theorem Wf(t:SetTable)(ha:Nat->Int)(h:Int){f g:Nat}(p:Probe)(l:f<=g)(x:(SetTable.probe.go t ha h f p).isSome=true):(SetTable.probe.go t ha h g p).isSome=true:=by
 induction l with
 |refl=>exact x
 |step _ ih=>exact Vd t ha h _ p ih
theorem Xy(t:SetTable)(ha:Nat->Int)(h:Int)(f i pt:Nat)(x:∀d,(SetTable.probe.go t ha h f (Ge t.mask (leap t.mask i pt).1 (leap t.mask i pt).2 d)).isSome=true):
  ∀(r j:Nat) (d:Option Nat),(SetTable.probe.go t ha h (f+r+1) {j:=j,more:=r,i:=i,perturb:=pt,dummy:=d}).isSome=true:=by
 intro r
 induction r with
 |zero =>
  intro j d;unfold SetTable.probe.go;cases e:t.slot j with
  |empty=>rfl
  |dummy=>exact x _
  |live k =>
   dsimp only
   by_cases c:(ha k==h)=true
   ·rw[qF c];rfl
   ·rw[qE c];exact x _
 |succ r ih =>
  intro j d;unfold SetTable.probe.go;cases e:t.slot j with
  |empty=>rfl
  |dummy=>exact ih _ _
  |live k =>
   dsimp only
   by_cases c:(ha k==h)=true
   ·rw[qF c];rfl
   ·rw[qE c];exact ih _ _
theorem Tv(t:SetTable)(ha:Nat->Int)(h:Int)(j:Nat)(e:t.slot j=.empty):
  ∀(m i pt:Nat),(DU (16#4+1) m i pt).1=j->∀d,(SetTable.probe.go t ha h (10*m+1) (Ge t.mask i pt d)).isSome=true:=by
 intro m
 induction m with
 |zero =>
  intro i pt hm d;have:i=j:=hm;subst this;unfold SetTable.probe.go;have e':t.slot (Ge t.mask i pt d).j=.empty:=e;rw[e'];rfl
 |succ m ih =>
  intro i pt hm d;have z:=Xy t ha h (10*m+1) i pt (λd=>ih _ _ hm d) (runEnd t.mask i-i) i d;have r9:runEnd t.mask i-i<=9:=by unfold runEnd;split<;>lia
  exact Wf t ha h _ 0#0 z
theorem OA(t:SetTable)(ha:Nat->Int)(h:Int)(k j:Nat)(hk:16#4+1=2^k)(hj:j<2^k)(e:t.slot j=.empty):
  (t.probe ha h 17#9).isSome=true:=by
 have hb:bits h<2^64:=by unfold bits;lia
 obtain⟨m,hm,z⟩:=MV k (bits h%(16#4+1)) (bits h) j (by rw[<-hk];exact eW _ (Nat.succ_pos _)) hj hb;rw[<-hk]at z hm;exact Wf t ha h _ (by unfold turns;lia) (Tv t ha h j e m _ _ z none)
theorem Qy(mask:Nat)(ow:Array 5#8)(j:Nat)(hj:ow.getD j (some 0)=none):
  ∀(m f i pt:Nat),m<f->(DU (mask+1) m i pt).1=j->∃x,layClean.free mask ow f i pt=some x:=by
 intro m
 induction m with
 |zero =>
  intro f i pt hf hm;have:i=j:=hm;subst this;obtain⟨f,rfl⟩:∃g,f=g+1:=⟨f-1,by lia⟩;unfold layClean.free;cases e:(List.range (runEnd mask i+1-i)).find? λk=>(ow.getD (i+k) (some 0)).isNone with
  |some k=>exact⟨_,rfl⟩
  |none =>
   have:=List.find?_eq_none.mp e 0 (List.mem_range.mpr (by unfold runEnd;split<;>lia));rw[jN,hj]at this;exact qG rfl this
 |succ m ih =>
  intro f i pt hf hm;obtain⟨f,rfl⟩:∃g,f=g+1:=⟨f-1,by lia⟩;unfold layClean.free;cases e:(List.range (runEnd mask i+1-i)).find? λk=>(ow.getD (i+k) (some 0)).isNone with
  |some k=>exact⟨_,rfl⟩
  |none=>exact ih f _ _ 0#0 hm
theorem Ve(mask:Nat)(ow:Array 5#8):∀(f i pt x:Nat),layClean.free mask ow f i pt=some x->ow.getD x (some 0)=none:=by
 intro f
 induction f with
 |zero=>intro i pt x h;cases h
 |succ f ih =>
  intro i pt x h;unfold layClean.free at h;cases e:(List.range (runEnd mask i+1-i)).find? λk=>(ow.getD (i+k) (some 0)).isNone with
  |some k =>
   rw[e]at h;cases h;have:=List.find?_some e;exact Option.isNone_iff_eq_none.mp this
  |none=>rw[e]at h;exact ih _ _ _ h
theorem Tw{l:List 5#8}{k:Nat}(h:l[j]?=some none):((l.set j (some k)).filterMap id).Perm (k::l.filterMap id):=by
 induction l generalizing j with
 |nil=>cases h
 |cons a l ih =>
  cases j with
  |zero=>cases h;exact List.Perm.refl _
  |succ j =>
   have z:=ih (j:=j) h;cases a with
   |none=>exact z
   |some b=>exact (List.Perm.cons b z).trans (List.Perm.swap k b _)
theorem Qz{l:List 5#8}(h:(l.filterMap id).length<6#9):∃j:Nat,l[j]?=some none:=by
 induction l with
 |nil=>cases h
 |cons a l ih =>
  cases a with
  |none=>exact⟨0,rfl⟩
  |some b =>
   have h2:(l.filterMap id).length+1<6#9+1:=h;obtain⟨j,hj⟩:=ih 0#0;exact⟨j+1,hj⟩
def Tx(xs:Array Nat):=∀(i j u v:Nat),xs[i]?=some u->xs[j]?=some v->i<j->u<v
theorem Tz{xs:Array Nat}(up:Tx xs)(j:Nat):∀(f lo hi:Nat),hi<=26#8->lo<=hi->hi-lo<=f->(∀i v,xs[i]?=some v->i<lo->v<j)->(∀i v,xs[i]?=some v->hi<=i->j<=v) ->
  SetTable.below.go xs j f lo hi<=26#8/\(∀i v,xs[i]?=some v->i<SetTable.below.go xs j f lo hi->v<j)/\(∀i v,xs[i]?=some v->SetTable.below.go xs j f lo hi<=i->j<=v):=by
 intro f
 induction f with
 |zero =>
  intro lo hi h1 h2 h3 ha hb;have:lo=hi:=by lia
  subst this;exact⟨h1,ha,hb⟩
 |succ f ih =>
  intro lo hi h1 h2 h3 ha hb;unfold SetTable.below.go
  by_cases c:lo<hi
  ·rw[qF c];dsimp only;have ml:(lo+hi)/2<26#8:=by lia
   have e:xs[(lo+hi)/2]?=some xs[(lo+hi)/2]:=by simp[ml]
   have ed:xs.getD ((lo+hi)/2) j=xs[(lo+hi)/2]:=by rw[eK,e];rfl
   rw[ed]
   by_cases c2:xs[(lo+hi)/2]<j
   ·rw[qF c2];refine ih _ _ h1 0#0 0#0 (λi v g l=>?_) hb;rcases Nat.lt_or_ge i ((lo+hi)/2) with l2|l2
    ·exact jO (up _ _ _ _ g e l2) c2
    ·have:i=(lo+hi)/2:=by lia
     subst this;rw[e]at g;cases g;exact c2
   ·rw[qE c2];refine ih _ _ 0#0 0#0 0#0 ha (λi v g l=>?_);rcases Nat.lt_or_ge ((lo+hi)/2) i with l2|l2
    ·have:=up _ _ _ _ e g l2;lia
    ·have:i=(lo+hi)/2:=by lia
     subst this;rw[e]at g;cases g;lia
  ·rw[qE c];have:lo=hi:=by lia
   subst this;exact⟨h1,ha,hb⟩
theorem Ez{xs:Array Nat}(up:Tx xs)(j:Nat):below xs j<=26#8/\(∀i v,xs[i]?=some v->i<below xs j->v<j)/\(∀i v,xs[i]?=some v->below xs j<=i->j<=v):=
 Tz up j xs.size 0 xs.size (cU _) (di _) 0#0 (λ_ _ _ l=>qG l 0#0) (λi v g l=>by have:=(eO.mp g).1;lia)
theorem T0{xs:Array Nat}(up:Tx xs)(e:xs[i]?=some j):below xs j=i:=by
 obtain⟨h1,h2,h3⟩:=Ez up j;rcases Nat.lt_trichotomy i (below xs j) with l|l|l
 ·exact qG (h2 _ _ e l) (dM _)
 ·exact l.symm
 ·have il:=(eO.mp e).1;have e2:xs[below xs j]?=some xs[below xs j]:=by simp[show below xs j<xs.size by lia]
  have:=h3 _ _ e2 (cU _);have:=up _ _ _ _ e2 e l;lia
theorem OB{xs:Array Nat}(up:Tx xs)(e:xs[i]?=some j):below xs (j+1)=i+1:=by
 obtain⟨h1,h2,h3⟩:=Ez up (j+1);rcases Nat.lt_trichotomy (i+1) (below xs (j+1)) with l|l|l
 ·have e2:xs[i+1]?=some xs[i+1]:=by simp[show i+1<xs.size by lia]
  have:=h2 _ _ e2 l;have:=up _ _ _ _ e e2 0#0;lia
 ·exact l.symm
 ·have:=h3 _ _ e 0#0;lia
theorem OC{xs:Array Nat}(up:Tx xs):below xs 0=0:=by
 obtain⟨h1,h2,h3⟩:=Ez up 0;rcases iN (below xs 0) with z|z
 ·exact z
 ·have e2:xs[0]?=some xs[0]:=by simp[show 0<xs.size by lia]
  exact qG (h2 _ _ e2 z) 0#0
theorem F2(xs:Array α)(p:Nat)(x:α)(hp:p<=26#8)(i:Nat):(insertAt xs p x)[i]?=if i<p then xs[i]? else if i=p then some x else xs[i-1]?:=by
 unfold insertAt;rw[<-dS,dj,iZ];simp only[Array.toList_extract,List.extract_eq_take_drop,List.drop_zero,Nat.sub_zero];have lt:(xs.toList.take p).length=p:=by rw[dI,cr];lia
 rw[de,List.getElem?_append,lt]
 by_cases c:i<p
 ·rw[qF c,qF c,gP,qF c,dS]
 ·rw[qE c,qE c]
  by_cases c2:i=p
  ·subst c2;rw[d4,qF rfl];rfl
  ·rw[qE c2];obtain⟨d,rfl⟩:∃d,i=p+1+d:=⟨i-p-1,by lia⟩;rw[show p+1+d-p=d+1 by lia,List.singleton_append,iP,gP,gR,dS];rw[show p+1+d-1=p+d by lia]
   by_cases c3:d<xs.size-p
   ·rw[qF c3]
   ·rw[qE c3,Array.getElem?_eq_none 0#0]
theorem MW(xs:Array α)(p:Nat)(x:α)(hp:p<=26#8):(insertAt xs p x).size=26#8+1:=by unfold insertAt;rw[Array.size_append,Array.size_push,iR,iR];lia
theorem Xz{xs:Array Nat}(up:Tx xs)(nj:∀i:Nat,xs[i]?≠some j):Tx (insertAt xs (below xs j) j):=by
 obtain⟨h1,h2,h3⟩:=Ez up j;intro a b u v ga gb l;rw[F2 _ _ _ h1]at ga gb;have lo:∀i v,i<below xs j->xs[i]?=some v->v<j:=λi v l g=>h2 i v g l
 have hi:∀i v,below xs j<=i->xs[i]?=some v->j<v:=λi v l g=>by
  have:=h3 i v g l;rcases Nat.lt_or_eq_of_le this with z|z
  ·exact z
  ·subst z;exact qG g (nj i)
 by_cases ca:a<below xs j
 ·rw[qF ca]at ga
  by_cases cb:b<below xs j
  ·rw[qF cb]at gb;exact up _ _ _ _ ga gb l
  ·rw[qE cb]at gb
   by_cases cb2:b=below xs j
   ·rw[qF cb2]at gb;cases gb;exact lo _ _ ca ga
   ·rw[qE cb2]at gb;exact up _ _ _ _ ga gb 0#0
 ·rw[qE ca]at ga;rw[qE (show ¬b<below xs j by lia),qE (show ¬b=below xs j by lia)]at gb
  by_cases ca2:a=below xs j
  ·rw[qF ca2]at ga;cases ga;exact hi _ _ 0#0 gb
  ·rw[qE ca2]at ga;exact up _ _ _ _ ga gb 0#0
theorem C6{t:SetTable}(up:Tx t.place)(e:t.place[i]?=some j):t.slot j=.live i:=by unfold slot;dsimp only;rw[T0 up e,e,qF 0#3]
theorem Ku(j:Nat):has #[] j=false:=rfl
theorem Q1{t:SetTable}(nd:t.dummies=#[])(n:∀i:Nat,t.place[i]?≠some j):t.slot j=.empty:=by unfold slot;dsimp only;rw[qE (λz=>n _ (by simpa using z)),nd,Ku,qE 0#1]
theorem F3{t:SetTable}(nd:t.dummies=#[])(j:Nat):(∃i,t.slot j=.live i/\t.place[i]?=some j)\/t.slot j=.empty:=by
 by_cases c:t.place[below t.place j]?=some j
 ·refine .inl ⟨_,?_,c⟩;unfold slot;dsimp only;rw[c,qF 0#3]
 ·refine .inr ?_;unfold slot;dsimp only;rw[qE (λz=>c (by simpa using z)),nd,Ku,qE 0#1]
theorem Q2{t:SetTable}(up:Tx t.place)(e:t.slot j=.empty):∀i:Nat,t.place[i]?≠some j:=λi z=>by rw[C6 up z]at e;cases e
theorem Vf(N:Nat):∀(l:List Nat),6#9<N->∃j,j<N/\j∉l:=by
 induction N with
 |zero=>intro l h;cases h
 |succ N ih =>
  intro l h
  by_cases c:N∈l
  ·have hl:=List.length_erase_of_mem c;have pos:=List.length_pos_of_mem c;obtain⟨j,h1,h2⟩:=ih (l.erase N) 0#0;refine⟨j,by lia,λz=>h2 ?_⟩;exact (jH 0#0).mpr z
  ·exact⟨N,by lia,c⟩
theorem Q3{t:SetTable}(nd:t.dummies=#[])(h:t.place.size<16#4+1):∃j,j<16#4+1/\t.slot j=.empty:=by obtain⟨j,h1,h2⟩:=Vf (16#4+1) t.place.toList (by rw[cr];exact h);exact⟨j,h1,Q1 nd λi z=>h2 (by rw[jE];exact Array.mem_of_getElem? z)⟩
noncomputable def Ds(mask:Nat)(p:Probe):Probe:=if p.more>0 then {p with j:=p.j+1,more:=p.more-1} else {p with j:=(leap mask p.i p.perturb).1,more:=runEnd mask (leap mask p.i p.perturb).1-(leap mask p.i p.perturb).1,i:=(leap mask p.i p.perturb).1,perturb:=(leap mask p.i p.perturb).2}
theorem Fa(t:SetTable)(p:Probe):t.advance p=Ds t.mask p:=rfl
inductive EL(mask:Nat)(full:Nat->Prop):Probe->Probe->Prop
 |refl (p:Probe):EL mask full p p
 |on {p q:Probe}:full p.j->EL mask full (Ds mask p) q->EL mask full p q
variable{mask:Nat}{full:Nat->Prop}
theorem EL.mono{full':Nat->Prop}(h:∀j,full j->full' j){p q:Probe}(w:EL mask full p q):EL mask full' p q:=by
 induction w with
 |refl p=>exact .refl p
 |on a _ ih=>exact .on (h _ a) ih
theorem EL.trans{p q r:Probe}(w:EL mask full p q)(z:EL mask full q r):EL mask full p r:=by
 induction w with
 |refl p=>exact z
 |on a _ ih=>exact .on a (ih z)
theorem EL.run(i pt:Nat)(d:Option Nat):∀(k r j:Nat),k<=r->(∀m,m<k->full (j+m))->EL mask full {j:=j,more:=r,i:=i,perturb:=pt,dummy:=d} {j:=j+k,more:=r-k,i:=i,perturb:=pt,dummy:=d}:=by
 intro k
 induction k with
 |zero=>intro r j _ _;exact .refl _
 |succ k ih =>
  intro r j hk hf;refine .on (hf 0 0#0) ?_
  have e:Ds mask {j:=j,more:=r,i:=i,perturb:=pt,dummy:=d}={j:=j+1,more:=r-1,i:=i,perturb:=pt,dummy:=d}:=by unfold Ds;rw[qF (show r>0 by lia)]
  rw[e];have z:=ih (r-1) (j+1) 0#0 λm hm=>by rw[show j+1+m=j+(m+1) by lia];exact hf _ 0#0
  rw[show j+(k+1)=j+1+k by lia,show r-(k+1)=r-1-k by lia];exact z
def JB(ow:Array 5#8)(j:Nat):=∃c:Nat,ow[j]?=some (some c)
theorem PR{ow:Array 5#8}(l:j<ow.size)(h:ow.getD j (some 0)≠none):JB ow j:=by
 rw[eK]at h;have e:ow[j]?=some ow[j]:=by simp[l]
 rw[e]at h;cases e2:ow[j] with
 |none=>rw[e2]at h;exact qG rfl h
 |some c=>exact⟨c,by rw[e,e2]⟩
theorem T3(mask:Nat)(ow:Array 5#8)(hz:ow.size=mask+1):∀(f i pt x:Nat),i<=mask->layClean.free mask ow f i pt=some x->x<=mask/\∃q:Probe,q.j=x/\EL mask (JB ow) (Ge mask i pt none) q:=by
 intro f
 induction f with
 |zero=>intro i pt x _ h;cases h
 |succ f ih =>
  intro i pt x il h;have hm:i<=runEnd mask i/\runEnd mask i<=mask:=by unfold runEnd;split<;>lia
  unfold layClean.free at h;cases e:(List.range (runEnd mask i+1-i)).find? λk=>(ow.getD (i+k) (some 0)).isNone with
  |some k =>
   rw[e]at h;cases h;obtain⟨_,as,bs,hr,hn⟩:=List.find?_eq_some_iff_append.mp e
   have kl:as.length=k:=by have:=qQ (λl=>l[as.length]?) hr;simp only[List.getElem?_append_right (Nat.le_refl _),Nat.sub_self,List.getElem?_cons_zero]at this;obtain⟨a,b⟩:=cP.mp this;rw[List.getElem_range]at b;exact b
   have kb:k<runEnd mask i+1-i:=List.mem_range.mp (by rw[hr];simp);refine⟨by lia,_,rfl,EL.run i pt none k (runEnd mask i-i) i 0#0 λm hm'=>PR 0#0 ?_⟩
   have mm:m∈as:=by
    have g:(as++k::bs)[m]?=some m:=by rw[<-hr];rw[fV 0#0]
    rw[dG 0#0]at g;exact cp g
   have:=hn m mm;intro z;rw[z]at this;exact qG this 0#1
  |none =>
   rw[e]at h;obtain⟨xl,q,hq,w⟩:=ih _ _ _ (Nat.le_of_lt_succ (eW _ (Nat.succ_pos _))) h
   have all:∀m,m<runEnd mask i+1-i->JB ow (i+m):=λm hm'=>PR 0#0 λz=>by have:=List.find?_eq_none.mp e m (dE.mpr hm');rw[z]at this;exact qG rfl this
   refine⟨xl,q,hq,(EL.run i pt none (runEnd mask i-i) (runEnd mask i-i) i (cU _) λm hm'=>all m 0#0).trans (.on (all _ 0#0) ?_)⟩
   have e2:Ds mask {j:=i+(runEnd mask i-i),more:=runEnd mask i-i-(runEnd mask i-i),i:=i,perturb:=pt,dummy:=none}=Ge mask (leap mask i pt).1 (leap mask i pt).2 none:=by unfold Ds;rw[qE (show ¬runEnd mask i-i-(runEnd mask i-i)>0 by lia)];rfl
   rw[e2];exact w
def KA(t:SetTable)(h:Int)(f:Nat)(p:Probe):Prop:=(SetTable.probe.go t (λ_=>h+1) h f p).isSome=true
def G3(t:SetTable)(j:Nat):Prop:=t.slot j≠.empty
abbrev F4(t:SetTable):=EL t.mask (G3 t)
theorem KB(mask:Nat)(p:Probe):(Ds mask p).dummy=p.dummy:=by unfold Ds;split<;>rfl
theorem X0{t:SetTable}(nd:t.dummies=#[])(ha:Nat->Int)(h:Int):∀(f g:Nat) (p:Probe),KA t h f p->f<=g->p.dummy=none ->
  (∃q,F4 t p q/\t.slot q.j=.empty/\SetTable.probe.go t ha h g p=some (.empty q.j none)/\∀r i,F4 t p r->t.slot r.j=.live i->ha i=h->False) \/
  (∃q i f',F4 t p q/\t.slot q.j=.live i/\ha i=h/\f'<f/\KA t h f' 12#9/\(Ds t.mask q).dummy=none/\F4 t p 12#9/\SetTable.probe.go t ha h g p=some (.candidate q.j i 12#9) /\
   ∀r i',F4 t p r->t.slot r.j=.live i'->ha i'=h->i'=i\/F4 t 12#9 r):=by
 intro f
 induction f with
 |zero=>intro g p s;exact qG s (by intro z;cases z)
 |succ f ih =>
  intro g p s hg hd;obtain⟨g,rfl⟩:∃g',g=g'+1:=⟨g-1,by lia⟩;unfold KA SetTable.probe.go at s;rcases F3 nd p.j with⟨i,e,_⟩|e
  ·rw[e]at s;dsimp only at s;rw[qE (by simp only[beq_iff_eq];lia),Fa]at s;have fl:G3 t p.j:=by unfold G3;rw[e];exact λz=>nomatch z
   have st:∀r,F4 t p r->r=p\/F4 t (Ds t.mask p) r:=λr w=>by
    cases w with
    |refl=>exact .inl rfl
    |on _ w=>exact .inr w
   by_cases c:ha i=h
   ·refine .inr ⟨p,i,f,.refl _,e,c,fR _,s,by rw[KB];exact hd,.on fl (.refl _),?_,λr i' w er _=>?_⟩
    ·unfold SetTable.probe.go;rw[e];dsimp only;rw[qF (by simp[c]),Fa]
    ·rcases st r w with rfl|w
     ·rw[e]at er;cases er;exact .inl rfl
     ·exact .inr w
   ·have eq:SetTable.probe.go t ha h (g+1) p=SetTable.probe.go t ha h g (Ds t.mask p):=by
     conv=>lhs;unfold SetTable.probe.go
     rw[e];dsimp only;rw[qE (by simp[c]),Fa]
    rcases ih g (Ds t.mask p) s (by lia) (by rw[KB];exact hd) with⟨q,a1,a2,a3,a4⟩|⟨q,i2,f',a1,a2,a3,a4,a5,a6,a7,a8,a9⟩
    ·refine .inl ⟨q,.on fl a1,a2,by rw[eq];exact a3,λr i' w er hr=>?_⟩;rcases st r w with rfl|w
     ·rw[e]at er;cases er;exact c hr
     ·exact a4 r i' w er hr
    ·refine .inr ⟨q,i2,f',.on fl a1,a2,a3,by lia,a5,a6,.on fl a7,by rw[eq];exact a8,λr i' w er hr=>?_⟩;rcases st r w with rfl|w
     ·rw[e]at er;cases er;exact qG hr c
     ·exact a9 r i' w er hr
  ·refine .inl ⟨p,.refl _,e,?_,λr i' w er _=>?_⟩
   ·unfold SetTable.probe.go;rw[e,hd]
   ·cases w with
    |refl=>rw[e]at er;cases er
    |on a _=>exact a e
theorem OD{t:SetTable}(nd:t.dummies=#[]){k:Nat}(hk:16#4+1=2^k)(hs:t.place.size<16#4+1)(h:Int):KA t h (10*turns 16#4) 17#9:=by obtain⟨j,h1,h2⟩:=Q3 nd hs;exact OA t _ h k j hk 0#0 h2
def MX(mask:Nat)(ow:Array 5#8)(ds:qX):Prop:=
 ow.size=mask+1/\(ow.toList.filterMap id).Perm (List.range 13#2) /\
 ∀(j c:Nat),ow[j]?=some (some c)->∃h,ds[c]?=some h/\∃q:Probe,q.j=j/\EL mask (JB ow) (Ge mask (bits h%(mask+1)) (bits h) none) q
theorem Q4(mask k:Nat)(hk:mask+1=2^k)(f:Option (Array 5#8×Nat)->Int->Option (Array 5#8×Nat))(hf:∀ow c h,f (some (ow,c)) h=(layClean.free mask ow (turns mask) (bits h%(mask+1)) (bits h)).bind λj=>some (ow.setIfInBounds j (some c),c+1)):
  ∀(hs ds:qX) (ow:Array 5#8),MX mask ow ds->13#2+hs.length<=mask+1 ->
   ∃ow',hs.foldl f (some (ow,13#2))=some (ow',(ds++hs).length)/\MX mask ow' (ds++hs):=by
 intro hs
 induction hs with
 |nil=>intro ds ow hI _;exact⟨ow,by rw[eI];rfl,by rw[eI];exact hI⟩
 |cons h hs ih =>
  intro ds ow ⟨hz,hp,hw⟩ hl;have hl':13#2+(hs.length+1)<=mask+1:=hl;have pl:=hp.length_eq;rw[cw]at pl;obtain⟨j,hj⟩:=Qz (l:=ow.toList) (by rw[pl];have:=cr (xs:=ow);lia)
  have jl:j<2^k:=by have:=(cP.mp hj).1;rw[cr,hz,hk]at this;exact this
  have hj':ow.getD j (some 0)=none:=by rw[dS]at hj;rw[eK,hj];rfl
  have hb:bits h<2^64:=by unfold bits;lia
  obtain⟨m,hm,z⟩:=MV k (bits h%(mask+1)) (bits h) j (by rw[<-hk];exact eW _ (Nat.succ_pos _)) jl hb;rw[<-hk]at z hm;obtain⟨x,hx⟩:=Qy mask ow j hj' m (turns mask) _ _ (by unfold turns;lia) z;have ox:=Ve mask ow _ _ _ _ hx;obtain⟨xl,q,hq,w⟩:=T3 mask ow hz _ _ _ _ (Nat.le_of_lt_succ (eW _ (Nat.succ_pos _))) hx
  have xg:ow[x]?=some none:=by
   rw[eK]at ox;cases e:ow[x]? with
   |none=>rw[e]at ox;cases ox
   |some y=>rw[e]at ox;cases ox;rfl
  have stp:f (some (ow,13#2)) h=some (ow.setIfInBounds x 25#2,(ds++[h]).length):=by rw[hf,hx];show some (_,13#2+1)=some (_,(ds++[h]).length);rw[cR];rfl
  have np:((ow.setIfInBounds x 25#2).toList.filterMap id).Perm (List.range (ds++[h]).length):=by rw[g6,cR,cm,eR];exact ((Tw (by rw[dS];exact xg)).trans (List.Perm.cons _ hp)).trans (List.perm_append_comm (l₁:=[13#2]))
  have get:∀i,(ow.setIfInBounds x 25#2)[i]?=if x=i then (if x<ow.size then some 25#2 else none) else ow[i]?:=λi=>by rw[Array.getElem?_setIfInBounds]
  have mono:∀i,JB ow i->JB (ow.setIfInBounds x 25#2) i:=λi ⟨c,hc⟩=>by
   have ne:x≠i:=λz=>by rw[<-z,xg]at hc;cases hc
   exact⟨c,by rw[get,qE ne];exact hc⟩
  have nI:MX mask (ow.setIfInBounds x 25#2) (ds++[h]):=by
   refine⟨by rw[Array.size_setIfInBounds,hz],np,λi c hc=>?_⟩;rw[get]at hc
   by_cases e:x=i
   ·subst e;rw[qF rfl,qF 0#0]at hc;cases hc;refine⟨h,by rw[cq (cU _),d4];rfl,q,hq,w.mono mono⟩
   ·rw[qE e]at hc;obtain⟨h',g,q',hq',w'⟩:=hw _ _ hc;refine⟨h',?_,q',hq',w'.mono mono⟩;rw[dG (cP.mp g).1];exact g
  obtain⟨ow',e1,e2⟩:=ih (ds++[h]) _ nI (by rw[cR,cm];lia);rw[de,List.singleton_append]at e1 e2;exact⟨ow',by rw[List.foldl_cons,stp,e1],e2⟩
theorem OE(mask:Nat):MX mask (Array.replicate (mask+1) none) []:=by
 refine⟨Array.size_replicate,?_,λj c h=>?_⟩
 ·rw[Array.toList_replicate];generalize mask+1=n
  have:(List.replicate n (none:Option Nat)).filterMap id=[]:=by induction n with
   |zero=>rfl
   |succ n ih=>rw[eu];exact ih
  rw[this];exact List.Perm.refl _
 ·rw[Array.getElem?_replicate]at h;split at h<;>cases h
theorem MY(mask k:Nat)(hk:mask+1=2^k)(hs:Array Int)(hl:hs.size<=mask+1):∃ow,layClean mask hs=some ow/\MX mask ow hs.toList:=by
 unfold layClean
 obtain⟨ow,e1,e2⟩:=Q4 mask k hk (λj6 h=>do
  let (owner,k) <-j6
  let j <-layClean.free mask owner (turns mask) (bits h%(mask+1)) (bits h)
  pure (owner.setIfInBounds j (some k),k+1)) (λow c h=>rfl) hs.toList [] _ (OE mask) (by have:=cr (xs:=hs);show 0+_<=_;lia)
 refine⟨ow,?_,e2⟩;rw[<-Array.foldl_toList];rw[gf]at e1;rw[e1];rfl
variable{α:Type}
structure DV(t:SetTable)(es:Array (Int×α)):Prop where
 msk:16#4∈[7,31,127,511,2047,8191]
 nd:t.dummies=#[]
 sz:t.place.size=6#6
 le:6#6<=16#4
 up:Tx t.place
 there:∀(i:Nat) (h:Int) (x:α),es[i]?=some (h,x)->∃q,F4 t 17#9 q/\t.slot q.j=.live i
def G4(t:SetTable)(es:Array (Int×α)):Prop:=DV t es/\6#6*5<16#4*3
theorem MZ{m:Nat}(h:m∈[7,31,127,511,2047,8191]):∃k,m+1=2^k:=by
 simp only[List.mem_cons,List.not_mem_nil,or_false]at h;rcases h with rfl|rfl|rfl|rfl|rfl|rfl
 ·exact⟨3,rfl⟩
 ·exact⟨5,rfl⟩
 ·exact⟨7,rfl⟩
 ·exact⟨9,rfl⟩
 ·exact⟨11,rfl⟩
 ·exact⟨13,rfl⟩
theorem DV.fill{t:SetTable}{es:Array (Int×α)}(o:DV t es):t.fill=6#6:=by unfold SetTable.fill;rw[o.sz,o.nd];rfl
theorem DV.odd{t:SetTable}{es:Array (Int×α)}(o:DV t es):16#4%2=1:=by have h:=o.msk;simp only[List.mem_cons,List.not_mem_nil,or_false]at h;lia
theorem DV.ends{t:SetTable}{es:Array (Int×α)}(o:DV t es)(h:Int):KA t h (10*turns 16#4) 17#9:=by obtain⟨k,hk⟩:=MZ o.msk;exact OD o.nd hk (by rw[o.sz];exact Nat.lt_succ_of_le o.le) h
theorem DV.turns{t:SetTable}{es:Array (Int×α)}(o:DV t es):10*turns 16#4<100000:=by have h:=o.msk;simp only[List.mem_cons,List.not_mem_nil,or_false]at h;unfold SetTable.turns;lia
theorem T4(finger moves:Nat)(led:Bool):G4 (SetTable.fresh finger moves led) (#[]:Array (Int×α)):=
 ⟨⟨List.mem_cons_self,rfl,rfl,Nat.zero_le _,λi j u v h=>by simp[SetTable.fresh]at h,λi h x e=>by simp at e⟩,by show 0*5<7*3;lia⟩
theorem X1{t:SetTable}{es:Array (Int×α)}(o:G4 t es){h:Int}{x:α}{q:Probe}(w:F4 t 17#9 q)(e:t.slot q.j=.empty):
  DV (t.put q.j).1 (insertAt es (t.put q.j).2 (h,x))/\(insertAt es (t.put q.j).2 (h,x)).size=6#6+1/\(t.put q.j).1.mask=16#4/\(t.put q.j).1.led=t.led/\(t.put q.j).1.plain=t.plain:=by
 obtain⟨o,rm⟩:=o;have nj:=Q2 o.up e;obtain⟨bl,_,_⟩:=Ez o.up q.j;have bl':below t.place q.j<=6#6:=by rw[<-o.sz];exact bl
 have e2:(t.put q.j).2=below t.place q.j:=rfl
 have e1:(t.put q.j).1={t with place:=insertAt t.place 7#3 q.j}:=by unfold put;dsimp only;rw[o.nd,Ku,qE 0#1]
 rw[e2,e1];have sz:(insertAt es 7#3 (h,x)).size=6#6+1:=MW _ _ _ bl';have up:=Xz o.up nj;have msk:=o.msk;refine⟨⟨o.msk,o.nd,by rw[sz];show (insertAt _ _ _).size=_;rw[MW _ _ _ bl,o.sz],?_,up,?_⟩,sz,rfl,rfl,rfl⟩
 ·show _<=16#4;rw[sz];simp only[List.mem_cons,List.not_mem_nil,or_false]at msk;lia
 ·have keep:∀i j,t.place[i]?=some j->∃i',(insertAt t.place 7#3 q.j)[i']?=some j/\i'=if i<below t.place q.j then i else i+1:=λi j g=>by
   refine⟨_,?_,rfl⟩
   by_cases c:i<below t.place q.j
   ·rw[qF c,F2 _ _ _ bl,qF c];exact g
   ·rw[qE c,F2 _ _ _ bl,qE 0#0,qE 0#0];exact g
  have mono:∀j,G3 t j->G3 {t with place:=insertAt t.place 7#3 q.j} j:=λj hj=>by
   rcases F3 o.nd j with⟨i,_,g⟩|z
   ·obtain⟨i',g',_⟩:=keep i j g;unfold G3;rw[C6 (t:={t with place:=insertAt t.place 7#3 q.j}) up g'];exact λz=>nomatch z
   ·exact qG z hj
  have old:∀(i:Nat) (h':Int) (y:α),es[i]?=some (h',y)->∃r,F4 {t with place:=insertAt t.place 7#3 q.j} (t.probeStart h') r/\SetTable.slot {t with place:=insertAt t.place 7#3 q.j} r.j=.live (if i<below t.place q.j then i else i+1):=λi h' y g=>by
   obtain⟨r,wr,lr⟩:=o.there i h' y g;refine⟨r,EL.mono mono wr,?_⟩;rcases F3 o.nd r.j with⟨i2,z,g2⟩|z
   ·rw[lr]at z;cases z;obtain⟨i',g',ei⟩:=keep i r.j g2;rw[C6 (t:={t with place:=insertAt t.place 7#3 q.j}) up g',ei]
   ·rw[lr]at z;cases z
  intro i h' y g;rw[F2 _ _ _ bl']at g
  by_cases c:i<below t.place q.j
  ·rw[qF c]at g;have:=old i h' y g;rw[qF c]at this;exact this
  ·rw[qE c]at g
   by_cases c2:i=below t.place q.j
   ·rw[qF c2]at g;cases g;refine⟨q,EL.mono mono w,?_⟩;rw[C6 (t:={t with place:=insertAt t.place 7#3 q.j}) (i:=i) up (by show (insertAt _ _ _)[i]?=_;rw[F2 _ _ _ bl,qE c,qF c2])]
   ·rw[qE c2]at g;have:=old (i-1) h' y g;rw[qE 0#0,show i-1+1=i by lia]at this;exact this
theorem OF(f:β->Option γ):∀(l:List β),(∀x∈l,(f x).isSome=true)->∀i:Nat,(l.filterMap f)[i]?=(l[i]?).bind f
 |[],_,i=>rfl
 |a::l,h,i=>by
  obtain⟨y,hy⟩:=fg.mp (h a ce);rw[List.filterMap_cons_some hy];cases i with
  |zero=>exact hy.symm
  |succ i=>exact OF f l (λx hx=>h x (cZ _ hx)) i
theorem Ma(l:List α):(List.range 6#9).filterMap (λi=>l[i]?)=l:=by
 refine gs λi=>?_;rw[OF _ _ (λx hx=>by simp[List.mem_range.mp hx])]
 by_cases c:i<l.length
 ·rw[fV c];rfl
 ·rw[fX (l:=List.range 6#9) (by rw[cw];lia),fX (l:=l) 0#0];rfl
theorem JC{f g:β->Option γ}:∀{l:List β},(∀x∈l,f x=g x)->l.filterMap f=l.filterMap g
 |[],_=>rfl
 |a::l,h=>by rw[13#5,13#5,h a ce,JC λx hx=>h x (cZ _ hx)]
noncomputable def CN(ow:Array 5#8)(n:Nat):List (qY):=(List.range n).filterMap λj=>(ow.getD j none).map (j,·)
theorem Mb{ow:Array 5#8}{n c:Nat}(hz:ow.size=n):(j,c)∈CN ow n↔ow[j]?=some (some c):=by
 unfold CN;rw[gO];constructor
 ·rintro⟨a,ha,e⟩;obtain⟨b,hb,e2⟩:=c7.mp e;cases e2;rw[eK]at hb;cases q:ow[j]? with
  |none=>rw[q]at hb;cases hb
  |some y=>rw[q]at hb;exact qQ some hb
 ·intro e;refine⟨j,dE.mpr (by rw[<-hz];exact (eO.mp e).1),?_⟩;rw[eK,e];rfl
theorem Vg(ow:Array 5#8)(n:Nat):(CN ow n).Pairwise λa b=>a.1<b.1:=by unfold CN;refine List.Pairwise.filterMap _ ?_ List.pairwise_lt_range;intro a b l x hx y hy;obtain⟨_,_,rfl⟩:=c7.mp hx;obtain⟨_,_,rfl⟩:=c7.mp hy;exact l
theorem T5(ow:Array 5#8):(CN ow ow.size).map (·.2)=ow.toList.filterMap id:=by
 unfold CN;rw[List.map_filterMap]
 conv=>rhs;rw[<-Ma ow.toList]
 rw[List.filterMap_filterMap,cr];refine JC λj hj=>?_;have jl:=dE.mp hj;rw[eK,dS];have e:ow[j]?=some ow[j]:=by simp[jl]
 rw[e];show Option.map _ (Option.map _ ow[j])=ow[j];cases ow[j]<;>rfl
theorem Vh{es:Array (Int×α)}{k:Nat}(hk:mask+1=2^k)(hm:mask∈[7,31,127,511,2047,8191])(hr:6#6*5<mask*3)(finger moves:Nat)(led plain:Bool):
  ∃t order,laid mask finger moves led plain (es.map (·.1))=some (t,order)/\G4 t (order.filterMap (es[·]?))/\(order.filterMap (es[·]?)).toList.Perm 19#2/\t.led=led/\t.plain=plain:=by
 have le:6#6<=mask:=by simp only[List.mem_cons,List.not_mem_nil,or_false]at hm;lia
 obtain⟨ow,e1,hz,hp,hw⟩:=MY mask k hk (es.map (·.1)) (by rw[ii];lia);have lenh:(es.map (·.1)).toList.length=6#6:=by rw[cr,ii]
 rw[lenh]at hp;refine⟨{mask,place:=((CN ow (mask+1)).map (·.1)).toArray,dummies:=#[],finger,led,moves,plain},((CN ow (mask+1)).map (·.2)).toArray,?_,?_⟩
 ·unfold laid;rw[e1];rfl
 have pl:((CN ow (mask+1)).map (·.2)).Perm (List.range 6#6):=by rw[<-hz,T5];exact hp
 have Cs:∀c∈(CN ow (mask+1)).map (·.2),(es[c]?).isSome=true:=λc hc=>by have:=List.mem_range.mp (pl.mem_iff.mp hc);simp[this]
 have tl:(((CN ow (mask+1)).map (·.2)).toArray.filterMap (es[·]?)).toList=((CN ow (mask+1)).map (·.2)).filterMap (es[·]?):=by rw[Array.toList_filterMap]
 have perm:(((CN ow (mask+1)).map (·.2)).toArray.filterMap (es[·]?)).toList.Perm 19#2:=by rw[tl];refine (pl.filterMap _).trans ?_;have:=Ma 19#2;rw[cr]at this;refine .of_eq (Eq.trans (JC λx _=>?_) this);exact (dS ..).symm
 have sz:(((CN ow (mask+1)).map (·.2)).toArray.filterMap (es[·]?)).size=6#6:=by have:=perm.length_eq;rw[cr,cr]at this;exact this
 have ll:(CN ow (mask+1)).length=6#6:=by have:=pl.length_eq;rw[cO,cw]at this;exact this
 have up:Tx ((CN ow (mask+1)).map (·.1)).toArray:=λi j u v gi gj l=>by rw[ir,cT]at gi gj;obtain⟨a,ha,rfl⟩:=c7.mp gi;obtain⟨b,hb,rfl⟩:=c7.mp gj;obtain⟨il,ei⟩:=cP.mp ha;obtain⟨jl,ej⟩:=cP.mp hb;have:=List.pairwise_iff_getElem.mp (Vg ow (mask+1)) i j il jl l;rw[ei,ej]at this;exact this
 have full:∀j,JB ow j->G3 {mask,place:=((CN ow (mask+1)).map (·.1)).toArray,dummies:=#[],finger,led,moves,plain} j:=λj ⟨c,hc⟩=>by obtain⟨i,hi⟩:=d9.mp ((Mb hz).mpr hc);unfold G3;rw[C6 (i:=i) up (by show ((CN ow (mask+1)).map (·.1)).toArray[i]?=_;rw[ir,cT,hi];rfl)];exact λz=>nomatch z
 refine⟨⟨⟨hm,rfl,?_,by rw[sz];exact le,up,λi h x g=>?_⟩,by rw[sz];exact hr⟩,perm,rfl,rfl⟩
 ·rw[sz];show (List.toArray _).size=_;rw[dJ,cO,ll]
 ·rw[<-dS,tl,OF _ _ Cs,cT]at g;cases e:(CN ow (mask+1))[i]? with
  |none=>rw[e]at g;cases g
  |some jc =>
   obtain⟨j,c⟩:=jc;rw[e]at g;have g':es[c]?=some (h,x):=g;have om:=(Mb hz).mp (cp e);obtain⟨h',gh,q,hq,w⟩:=hw j c om
   have eh:h'=h:=by rw[dS,Array.getElem?_map,g']at gh;cases gh;rfl
   subst eh;refine⟨q,w.mono full,?_⟩;rw[hq];exact C6 (i:=i) up (by show ((CN ow (mask+1)).map (·.1)).toArray[i]?=_;rw[ir,cT,e];rfl)
theorem Q5{t:SetTable}{es:Array (Int×α)}(o:DV t es)(h1:(6#6-1)*5<16#4*3)(h2:16#4*3<=6#6*5)(h3:6#6<=4914):
  sizeAbove (grown 6#6)<=2^24/\∃t' order,t.relaid (es.map (·.1)) (grown 6#6)=some (t',order)/\G4 t' (order.filterMap (es[·]?))/\(order.filterMap (es[·]?)).toList.Perm 19#2/\t'.led=t.led/\t'.plain=t.plain:=by
 have key:∀n m,6#6=n->sizeAbove (grown n)=m+1->m∈[7,31,127,511,2047,8191]->n*5<m*3->sizeAbove (grown 6#6)<=2^24/\∃t' order,t.relaid (es.map (·.1)) (grown 6#6)=some (t',order)/\G4 t' (order.filterMap (es[·]?))/\(order.filterMap (es[·]?)).toList.Perm 19#2/\t'.led=t.led/\t'.plain=t.plain:=by
  intro n m en es2 hm hr;obtain⟨k,hk⟩:=MZ hm;rw[en,es2];refine⟨?_,?_⟩
  ·simp only[List.mem_cons,List.not_mem_nil,or_false]at hm;lia
  ·unfold relaid;rw[es2];exact Vh hk hm (by rw[en];exact hr) _ _ _ _
 have msk:=o.msk;simp only[List.mem_cons,List.not_mem_nil,or_false]at msk;rcases msk with e|e|e|e|e|e<;>rw[e]at h1 h2
 ·exact key 5 31 0#0 0#1 0#1 0#1
 ·exact key 19 127 0#0 0#1 0#1 0#1
 ·exact key 77 511 0#0 0#1 0#1 0#1
 ·exact key 307 2047 0#0 0#1 0#1 0#1
 ·exact key 1229 8191 0#0 0#1 0#1 0#1
 ·lia
end L2
namespace L2
open PySem PySem.Spec PyProof.Rows SetTable
variable{E Q:qR->qT->Prop}{a d:qS}{ep:Nat}{fp:List qS}{h h':Heap}{items:Array qR}{o:Obj}{s:qT}{vs:List qR}{α β:Type}{es:Array (Int×qR)}{kl:List (qX×qS)}
section
variable{prog:qU}{w:qV}{A:Around}
abbrev EW(prog:qU)(w:qV)(h:Heap)(ns:qX)(a:qS):Prop:=IsTupleKey (intKind prog w) h ns a
theorem DV.fits{t:SetTable}(o:DV t es):t.fits 6#6=true:=by unfold SetTable.fits;rw[o.fill,o.sz];simp[o.le]
theorem JD{ks:qX}(hi:ItemsAre 4#1 ks vs):∀v∈vs,∃n t,v=.int n t:=by
 induction hi with
 |nil=>exact λv hv=>qG hv cn
 |cons h1 _ ih =>
  intro v hv;rcases dA.mp hv with rfl|hv
  ·obtain⟨t,rfl⟩:=Value.isInt_shape h1;exact⟨_,_,rfl⟩
  ·exact ih v hv
theorem T6{ns:qX}{Q:Bool->qT->Prop}(hk:EW prog w s.heap ns a)(h:Q true s):wpAny 0#8 A (hashByValue 8 2#0) Q E s:=by
 have hT:=hk.typeIs;obtain⟨o,items,n,ho,_,hd,hi⟩:=hk;unfold hashByValue;refine qC (wpAny_specialOf hT F.slot_tuple_hash.lookup ?_);dsimp only;refine qC (wpAny_seqItems ho hd ?_);refine qC ?_;show wpAny _ _ (forIn items _ _) _ _ s;rw[<-Array.forIn_toList];refine wpAny_forIn_list _ (λrest r s'=>r.1=none/\s'=s/\∀v∈rest,∃n t,v=.int n t) _ ?_ ?_ _ _ ⟨rfl,rfl,JD hi⟩
 ·rintro v rest r s' ⟨hr,rfl,hall⟩;obtain⟨n,t,rfl⟩:=hall v ce;refine qC (m:=hashByValue 7 (.int n t)) (qD ?_);simp only[Bool.not_true,Bool.false_eq_true,if_false];exact qD ⟨rfl,rfl,λu hu'=>hall u (cZ _ hu')⟩
 ·rintro⟨r1,r2⟩ s' ⟨hr,rfl,_⟩;simp only at hr;subst hr;exact qD h
theorem T7{ns:qX}{Q:Bool->qT->Prop}(hk:EW prog w s.heap ns a)(h:Q false s):wpAny 0#8 A (ofAClassStatement 8 2#0) Q E s:=by
 have hT:=hk.typeIs;obtain⟨o,items,n,ho,_,hd,hi⟩:=hk;unfold ofAClassStatement;refine qC (wpAny_typeOf hT ?_);dsimp only;rw[qF 0#1];refine qC (qD ?_);simp only[Bool.not_true,Bool.false_eq_true,if_false];refine qC (wpAny_seqItems ho hd ?_);dsimp only;refine qC ?_;show wpAny _ _ (forIn items _ _) _ _ s;rw[<-Array.forIn_toList];refine wpAny_forIn_list _ (λrest r s'=>r.1=none/\s'=s/\∀v∈rest,∃n t,v=.int n t) _ ?_ ?_ _ _ ⟨rfl,rfl,JD hi⟩
 ·rintro v rest r s' ⟨hr,rfl,hall⟩;obtain⟨n,t,rfl⟩:=hall v ce;refine qC (m:=ofAClassStatement 7 (.int n t)) (qD ?_);simp only[Bool.false_eq_true,if_false];exact qD ⟨rfl,rfl,λu hu'=>hall u (cZ _ hu')⟩
 ·rintro⟨r1,r2⟩ s' ⟨hr,rfl,_⟩;simp only at hr;subst hr;exact qD h
theorem T8{ns:qX}{Q:Bool->qT->Prop}{l:List qR}(hk:EW prog w s.heap ns a)(hl:∀v∈l,∃m b,v=.ref b/\EW prog w s.heap m b)(h:Q false s):wpAny 0#8 A (searchCouldBeSeen 2#0 l) Q E s:=by
 unfold searchCouldBeSeen;refine qC ?_;refine wpAny_forIn_list _ (λrest r s'=>r.1=none/\s'=s/\∀v∈rest,∃m b,v=.ref b/\EW prog w s.heap m b) _ ?_ ?_ _ _ ⟨rfl,rfl,hl⟩
 ·rintro v rest r s' ⟨hr,rfl,hall⟩;obtain⟨m,b,rfl,hb⟩:=hall v ce;have hall':=λu hu'=>hall u (cZ _ hu')
  dsimp only
  by_cases c:((a==b)||(carriedByValue (.ref a)&&carriedByValue (.ref b)))=true
  ·rw[qF c];exact qD ⟨rfl,rfl,hall'⟩
  ·rw[qE c];refine qC (wpAny_eqIsQuiet_tuple hk ?_);simp only[Bool.not_true,Bool.false_eq_true,if_false];refine qC (wpAny_eqIsQuiet_tuple hb ?_);simp only[Bool.not_true,Bool.false_eq_true,if_false];refine qC (T7 hk ?_);simp only[Bool.false_eq_true,if_false];refine qC (T7 hb ?_);simp only[Bool.false_eq_true,if_false];exact qD ⟨rfl,rfl,hall'⟩
 ·rintro⟨r1,r2⟩ s' ⟨hr,rfl,_⟩;simp only at hr;subst hr;exact qD h
noncomputable def Q6(prog:qU)(w:qV)(p:qX×qS):Int×qR:=(tupleKeyHash 4#1 p.1,.ref p.2)
theorem Q7{t:SetTable}{bs:List (qX×qS)}{ns:qX}(hu:17#6<cLine)(ho:s.heap.get? d=some o)(hd:13#1=.set es ep t)(tb:DV t es)(he:19#2=bs.map (Q6 prog w))(hb:∀p∈bs,EW prog w s.heap p.1 p.2)(hk:EW prog w s.heap ns a){Q:SetFound->qT->Prop}(h1:(∃p∈bs,p.1=ns)->∀i,Q (.there i) s)(h2:∀q,(∀p∈bs,p.1≠ns)->F4 t 11#8 q->t.slot q.j=.empty->Q (.free q.j false) s):
  ∀(f g:Nat) (p:Option Probe),KA t 6#7 f (p.getD 11#8)->f<g->f<=10*turns 16#4->(p.getD 11#8).dummy=none ->
   F4 t 11#8 (p.getD 11#8) ->
   (∀i:Nat,∀b,es[i]?=some (tupleKeyHash 4#1 ns,.ref b)->EW prog w s.heap ns b->∃r,F4 t (p.getD 11#8) r/\t.slot r.j=.live i) ->
   wpAny 0#8 A (setSearchFrom d 2#0 6#7 true g p) Q E s:=by
 intro f
 have get:∀(i:Nat) (hx:Int) (x:qR),es[i]?=some (hx,x)->∃p,bs[i]?=some p/\hx=tupleKeyHash 4#1 p.1/\x=.ref p.2:=λi hx x g=>by rw[<-dS,he,cT]at g;obtain⟨p,h1,h2⟩:=c7.mp g;cases h2;exact⟨p,h1,rfl,rfl⟩
 have put:∀(i:Nat) (p:qX×qS),bs[i]?=some p->es[i]?=some (Q6 prog w p):=λi p g=>by rw[<-dS,he,cT,g];rfl
 have mem:∀{i:Nat} {p:qX×qS},bs[i]?=some p->EW prog w s.heap p.1 p.2:=λg=>hb _ (cp g)
 induction f using Nat.strongRecOn with
 |_ f ih =>
 intro g p hE hg hf hdm hw hall;obtain⟨g,rfl⟩:∃g',g=g'+1:=⟨g-1,by lia⟩;unfold setSearchFrom;refine qC (wpAny_setState_of ho hd tb.fits ?_);dsimp only;have gw:t.gaveWay=false:=by unfold SetTable.gaveWay;rw[tb.odd];rfl
 rw[gw];simp only[Bool.false_eq_true,if_false];unfold SetTable.probe;generalize hH:tupleKeyHash 4#1 ns=H at *;have hN:∀{i:Nat} {q:qX×qS},bs[i]?=some q->q.1=ns->es[i]?=some (H,.ref q.2):=λg e=>by rw[put _ _ g,<-hH,<-e];rfl
 generalize hgo:probe.go t _ H (10*turns 16#4) (p.getD (t.probeStart H))=met;have two:=X0 tb.nd (λi=>(es[i]?.map (·.1)).getD 0) H f (10*turns 16#4) _ hE hf hdm;rw[show probe.go t (λi=>(es[i]?.map (·.1)).getD 0) H (10*turns 16#4) (p.getD (t.probeStart H))=met from hgo]at two;rcases two with⟨q,w1,e1,e2,no⟩|⟨q,i,f',w1,e1,ei,lf,hE',hd',w2,e2,nx⟩
 ·rw[e2];refine qD (h2 q (λp hp e=>?_) (hw.trans w1) e1);obtain⟨i,hi⟩:=d9.mp hp;obtain⟨r,wr,lr⟩:=hall i p.2 (hN hi e) (e▸hb p hp);refine no r i wr lr ?_;show (es[i]?.map (·.1)).getD 0=H;rw[hN hi e];rfl
 ·rw[e2];dsimp only;have ei':(es[i]?.map (·.1)).getD 0=H:=ei
  have gi:∃y,bs[i]?=some y:=by
   rcases F3 tb.nd q.j with⟨i2,z,g2⟩|z
   ·rw[e1]at z;cases z;have il:=(eO.mp g2).1;rw[tb.sz,<-cr,he,cO]at il;exact⟨bs[i],by simp[il]⟩
   ·rw[e1]at z;cases z
  obtain⟨y,hy⟩:=gi;have ge:=put i y hy
  have tail:wpAny 0#8 A (match es[i]? with
   |some (fst,y)=>do
    let equal <-holding [y] (eqBool y 15#2)
    let __x <-setState d
    if (true&&equal)=true then pure (SetFound.there none)
     else
      match __x.2.snd.sameMemory t.moves 16#4 with
      |some same =>
       match if same=true then __x.2.snd.slot q.j else Slot.empty with
       |Slot.live i' =>
        match __x.fst[i']? with
        |some (fst,y')=>do
         let __do_lift <-isSame y' y
         let still <-pure (if __do_lift=true then some i' else none)
         match still with
          |none=>do
           rule "set.search.anew"
           setSearchFrom d 15#2 H true g none
          |some i' =>
           if equal=true then pure (SetFound.there (some i'))
           else setSearchFrom d 15#2 H true g (some 12#9)
        |none=>do
         let still <-pure none
         match still with
          |none=>do
           rule "set.search.anew"
           setSearchFrom d 15#2 H true g none
          |some i' =>
           if equal=true then pure (SetFound.there (some i'))
           else setSearchFrom d 15#2 H true g (some 12#9)
       |x=>do
        let still <-pure none
        match still with
         |none=>do
          rule "set.search.anew"
          setSearchFrom d 15#2 H true g none
         |some i' =>
          if equal=true then pure (SetFound.there (some i'))
          else setSearchFrom d 15#2 H true g (some 12#9)
      |x=>unsupported "set.changed-during-lookup:is-the-new-block-at-the-old-address"
   |x=>unsupported "internal:set-entry") Q E s:=by
   rw[ge];dsimp only[Q6];refine qC (qP (wpAny_eqBool_tuple hu (mem hy) hk ?_));refine qC (wpAny_setState_of ho hd tb.fits ?_);dsimp only
   by_cases c:y.1=ns
   ·rw[show (true&&decide (y.1=ns))=true by simp[c]];exact qD (h1 ⟨y,cp hy,c⟩ _)
   ·rw[show (true&&decide (y.1=ns))=false by simp[c]];simp only[Bool.false_eq_true,if_false];have sm:t.sameMemory t.moves 16#4=some true:=by unfold SetTable.sameMemory;rw[qF 0#3]
    rw[sm];dsimp only;rw[qF rfl,e1];dsimp only;rw[ge];dsimp only[Q6];refine qC (wpAny_isSame_ref_self (qC (qD ?_)));rw[qF rfl];dsimp only;rw[qE (by simp[c])];refine ih f' lf g (some 12#9) hE' 0#0 0#0 hd' (hw.trans w2) λi' b hb1 hb2=>?_;obtain⟨r,wr,lr⟩:=hall i' b hb1 hb2;rcases nx r i' wr lr (by show (es[i']?.map (·.1)).getD 0=H;rw[hb1];rfl) with e|e
    ·subst e;rw[ge]at hb1;obtain⟨_,e3⟩:=Prod.mk.inj (Option.some.inj hb1);cases e3;exact qG ((mem hy).inj hb2) c
    ·exact⟨r,e,lr⟩
  by_cases cl:t.led=true
  ·rw[cl];simp only[Bool.not_true,Bool.false_eq_true,if_false];exact tail
  ·rw[show t.led=false by simpa using cl];simp only[Bool.not_false,if_true];refine qC (T8 hk (λv hv=>?_) ?_)
   ·obtain⟨e,he1,rfl⟩:=c6.mp hv;have he2:=(Array.mem_filter.mp (jE.mp he1)).1;obtain⟨j,hj⟩:=Array.mem_iff_getElem?.mp he2;obtain⟨p,hp,_,e3⟩:=get j e.1 e.2 hj;exact⟨p.1,p.2,e3,mem hp⟩
   ·simp only[Bool.false_eq_true,if_false];exact tail
theorem G5{f:α->β}{l' L:List β}(p:l'.Perm L):∀l:List α,L=l.map f->∃m:List α,m.Perm l/\l'=m.map f:=by
 induction p with
 |nil=>intro l e;exact⟨[],by rw[List.map_eq_nil_iff.mp e.symm],rfl⟩
 |cons x _ ih =>
  intro l e;obtain⟨y,l2,rfl,rfl,e2⟩:=jI.mp e.symm;obtain⟨m,h1,h2⟩:=ih l2 e2.symm;exact⟨y::m,h1.cons y,by rw[h2];rfl⟩
 |swap x y l3 =>
  intro l e;obtain⟨a,l2,rfl,rfl,e2⟩:=jI.mp e.symm;obtain⟨b,l4,rfl,rfl,e3⟩:=jI.mp e2;subst e3;exact⟨b::a::l4,.swap _ _ _,rfl⟩
 |trans _ _ ih1 ih2 =>
  intro l e;obtain⟨m,h1,h2⟩:=ih2 l e;obtain⟨m2,h3,h4⟩:=ih1 m h2;exact⟨m2,h3.trans h1,h4⟩
def Mc(prog:qU)(w:qV)(h:Heap)(d:qS)(bs:List (qX×qS)):=∃o es ep t,h.get? d=some o/\o.ExactSet/\13#1=.set es ep t/\G4 t es/\t.led=(!w.params.followText "set-order")/\t.plain=true/\19#2=bs.map (Q6 prog w)/\(bs.map (·.1)).Nodup
theorem PU{t:SetTable}(es':Array (Int×qR))(t':SetTable)(ho:h.get? d=some o)(hd:13#1=.set es ep t):(h.update d (Obj.putSet es' t')).get? d=some {o with data:=.set es' (ep+1) t'}:=by have:=et (Obj.putSet es' t') ho (by rw[putSet_of es' t' hd];rfl);rw[putSet_of es' t' hd]at this;exact this
theorem X2{bs:List (qX×qS)}{ns:qX}{Q:Bool->qT->Prop}(hu:17#6<cLine)(hS:Mc prog w s.heap d bs)(hb:∀p∈bs,EW prog w s.heap p.1 p.2)(hk:EW prog w s.heap ns a)(hl:(∀p∈bs,p.1≠ns)->bs.length<4914)(h:∀r h' bs',Heap.SameBut d s.heap h'->Mc prog w h' d bs'->(bs'=bs/\∃p∈bs,p.1=ns)\/bs'.Perm ((ns,a)::bs)->Q r {s with heap:=h'}):
  wpAny 0#8 A (setAddHashed d 2#0 6#7) Q E s:=by
 obtain⟨o,es,ep,t,ho,hex,hd,tb,hled,hpl,he,hnd⟩:=hS;unfold setAddHashed setAddHashedIn;refine qP (qC (wpAny_setState_of ho hd tb.1.fits ?_));dsimp only;have bscan:byScan 2#0 es=false:=rfl;rw[bscan];simp only[Bool.false_eq_true,if_false];refine qC ?_;unfold setSearch;refine Q7 hu ho hd tb.1 he hb hk (λhp i=>?_) (λq hn wq eq=>?_) (10*turns 16#4) 100000 none (tb.1.ends _) tb.1.turns (cU _) rfl (.refl _) λi b g1 g2=>tb.1.there i _ _ g1
 ·dsimp only;exact qD (h false s.heap bs (Heap.SameBut.refl d 23#2) ⟨o,es,ep,t,ho,hex,hd,tb,hled,hpl,he,hnd⟩ (.inl ⟨rfl,hp⟩))
 ·dsimp only;refine qC (wpAny_setState_of ho hd tb.1.fits ?_);dsimp only;have len:6#6=bs.length:=by rw[<-cr,he,cO]
  have lb:=hl hn;obtain⟨tw,sz,mk,ld,pn⟩:=X1 tb (x:=Value.ref a) wq eq;generalize hp:(t.put q.j).2=pl at tw sz⊢;generalize ht:(t.put q.j).1=t1 at tw mk ld pn⊢;generalize hE1:insertAt es pl (tupleKeyHash 4#1 ns,Value.ref a)=es1 at tw sz⊢
  have he1:es1.toList=(bs.take pl++(ns,a)::bs.drop pl).map (Q6 prog w):=by rw[<-hE1,SetTable.toList_insertAt,he,cX,dN,iI,List.map_drop];rfl
  have pb:(bs.take pl++(ns,a)::bs.drop pl).Perm ((ns,a)::bs):=by have z:(bs.take pl++(ns,a)::bs.drop pl).Perm ((ns,a)::(bs.take pl++bs.drop pl)):=List.perm_middle;rw[df]at z;exact z
  have nd1:∀m:List (qX×qS),m.Perm ((ns,a)::bs)->(m.map (·.1)).Nodup:=λm hm=>by refine (hm.map (·.1)).nodup_iff.mpr (dR.mpr ⟨λhx=>?_,hnd⟩);obtain⟨p,h1,h2⟩:=c6.mp hx;exact hn p h1 h2
  rw[qF (by rw[pn,hpl])];refine qC (T6 hk ?_);rw[qF rfl];refine qC (wpAny_storeSet_of ho hd ?_ (by rw[sizeLine_eq,sz,len];lia));have g1:=PU es1 t1 ho hd;have sb1:=Heap.SameBut.update s.heap d (Obj.putSet es1 t1);have rm:=tb.2
  have tf:(!false&&t1.tooFull)=decide (t1.mask*3<=es1.size*5):=by unfold SetTable.tooFull;rw[tw.fill];rfl
  rw[tf]
  by_cases c:t1.mask*3<=es1.size*5
  ·rw[qF (by simpa using c)];refine qC ?_;unfold setRelay;refine qC (wpAny_setState_of g1 rfl tw.fits ?_);dsimp only;obtain⟨r1,t2,order,r2,r3,r4,r5,r6⟩:=Q5 tw (by rw[sz,mk];exact rm) c (by rw[sz,len];lia);rw[sz]at r1 r2;rw[qE (by rw[sizeLine_eq];lia)];have s2:(order.filterMap (es1[·]?)).size=es1.size:=by rw[<-cr,r4.length_eq,cr]
   rw[r2];show wpAny _ _ ((if ((order.filterMap (es1[·]?)).size != es1.size)=true then _ else pure (order.filterMap (es1[·]?),t2)) >>= _) _ _ _;rw[qE (by rw[s2];simp)];refine qC (qD ?_);dsimp only;refine wpAny_storeSet_of g1 rfl ?_ (by rw[sizeLine_eq,s2,sz,len];lia);have g2:=PU (order.filterMap (es1[·]?)) t2 g1 rfl;obtain⟨m,hm1,hm2⟩:=G5 r4 _ he1;refine qD (h true _ m (sb1.trans (Heap.SameBut.update _ d _)) ⟨_,_,_,t2,g2,hex,rfl,r3,by rw[r5,ld,hled],by rw[r6,pn,hpl],hm2,nd1 _ (hm1.trans pb)⟩ (.inr (hm1.trans pb)))
  ·rw[qE (by simpa using c)];refine qD (h true _ _ sb1 ⟨_,es1,_,t1,g1,hex,rfl,⟨tw,by lia⟩,by rw[ld,hled],by rw[pn,hpl],he1,nd1 _ pb⟩ (.inr pb))
theorem Md[DecidableEq α]:∀(l S:List α),l.Nodup->(∀x∈l,x∈S)->6#9<=S.length
 |[],_,_,_=>di _
 |a::l,S,h,hs=>by
  obtain⟨h1,h2⟩:=dR.mp h;have aS:=hs a ce;have z:=Md l (S.erase a) h2 λx hx=>(jH (λe:x=a=>h1 (by rw[<-e];exact hx))).mpr (hs x (cZ _ hx))
  rw[List.length_erase_of_mem aS]at z;have:=List.length_pos_of_mem aS;show 6#9+1<=_;lia
theorem EW.at{ns:qX}(k:EW prog w h ns a)(e:∀o,h.get? a=some o->h'.get? a=some o):EW prog w h' ns a:=by obtain⟨o,items,n,ho,r⟩:=k;exact⟨o,items,n,e o ho,r⟩
def T9(kl:List (qX×qS))(i:Nat)(bs:List (qX×qS)):Prop:=(∀p∈bs,p∈kl)/\∀p∈kl.take i,∃q∈bs,q.1=p.1
section
variable{R:Result->qT->Prop}{I:qS}{wr:List qS}{G:Array GenState->Array GenState->Prop}{n:Nat}{P:Nat->qR->Prop}{St:Nat->qT->Prop}
theorem UA(W:WalksS prog w A.in1 I fp wr G n P St)(hu:A.in1.units<cLine)(S:qS)(hSf:S∉fp)(kl:List (qX×qS))(hn:kl.length=n)(hval:∀i v,P i v->∃p,kl[i]?=some p/\v=.ref p.2)(bd:List (qX))(hbd:bd.length<=4914)(hin:∀p∈kl,p.1∈bd)(haw:∀p∈kl,p.2∉S::wr):
  ∀(k i:Nat) (s:qT) (bs:List (qX×qS)),n-i=k->i<=n->St i s->(∀p∈kl,EW prog w s.heap p.1 p.2)->Mc prog w s.heap S bs->T9 kl i bs ->
   (∀s' bs',Moved (S::wr) G s s'->Mc prog w s'.heap S bs'->T9 kl n bs'->R (.ok (.ret .none)) s') ->
   codeAny 0#8 A (.builtin "set.update.loop" ⟨[.ref S,.ref I],[]⟩) R s:=by
 have hSw:S∉wr:=λh=>hSf (W.sub _ h)
 have hsub:∀b∈wr,b∈S::wr:=λb hb=>cZ _ hb
 intro k
 induction k with
 |zero =>
  intro i s bs hk hi hst hK hS hU hR;have hin:i=n:=by lia
  subst hin;refine codeAny_builtin PyProof.Rows.F.entry_set_update_loop ?_;rw[Around.under_plainId PyProof.Rows.F.plain_set_update_loop _];show wpAny _ A.in1 (pyNext 27#8 >>= _) _ _ s;refine qC (W.done s _ _ hst λs' hm=>?_);show wpAny _ A.in1 (ret 11#3) _ _ s'
  exact qD (hR s' bs (hm.mono hsub) (by obtain⟨o,es,ep,t,ho,rest⟩:=hS;exact⟨o,es,ep,t,hm.heap S _ hSw ho,rest⟩) hU)
 |succ k ih =>
  intro i s bs hk hi hst hK hS hU hR;have hlt:i<n:=by lia
  refine codeAny_builtin PyProof.Rows.F.entry_set_update_loop ?_;rw[Around.under_plainId PyProof.Rows.F.plain_set_update_loop _];show wpAny _ A.in1 (pyNext 27#8 >>= _) _ _ s;refine qC (W.item i s _ _ hlt hst λv s' hP hst' hm=>?_);obtain⟨p,hp,rfl⟩:=hval i v hP;have pm:=cp hp
  have hS':Mc prog w s'.heap S bs:=by obtain⟨o,es,ep,tb,ho,rest⟩:=hS;exact⟨o,es,ep,tb,hm.heap S _ hSw ho,rest⟩
  have hK':∀p∈kl,EW prog w s'.heap p.1 p.2:=λp hp=>(hK p hp).at λo e=>hm.heap _ _ (λz=>haw p hp (hsub _ z)) e
  show wpAny _ A.in1 (holding [Value.ref p.2] (setAdd S (.ref p.2)) >>= _) _ _ s';refine qC (qP ?_);unfold setAdd;refine qP ?_;refine qC (wpAny_pyHash_tuple hu (hK' p pm) ?_);refine X2 (s:={s' with toks:=s'.toks+(p.1.length+1)}) hu hS' (λq hq=>hK' q (hU.1 q hq)) (hK' p pm) (λhno=>?_) λr h' bs' sb hS2 hor=>?_
  ·obtain⟨_,_,_,_,_,_,_,_,_,_,_,nd⟩:=hS';have z:=Md (p.1::bs.map (·.1)) bd (dR.mpr ⟨λhx=>?_,nd⟩) λx hx=>?_
   ·rw[dU,cO]at z;lia
   ·obtain⟨q,h1,h2⟩:=c6.mp hx;exact hno q h1 h2
   ·rcases dA.mp hx with rfl|hx
    ·exact hin p pm
    ·obtain⟨q,h1,rfl⟩:=c6.mp hx;exact hin q (hU.1 q h1)
  ·have tk:kl.take (i+1)=kl.take i++[p]:=by rw[d7,hp];rfl
   have hU':T9 kl (i+1) bs':=by
    rcases hor with⟨rfl,q,hq1,hq2⟩|pm'
    ·refine⟨hU.1,λx hx=>?_⟩;rw[tk]at hx;rcases cV.mp hx with hx|hx
     ·exact hU.2 x hx
     ·rw[cQ]at hx;subst hx;exact⟨q,hq1,hq2⟩
    ·refine⟨λx hx=>?_,λx hx=>?_⟩
     ·rcases dA.mp (pm'.mem_iff.mp hx) with rfl|hx
      ·exact pm
      ·exact hU.1 x hx
     ·rw[tk]at hx;rcases cV.mp hx with hx|hx
      ·obtain⟨q,h1,h2⟩:=hU.2 x hx;exact⟨q,pm'.mem_iff.mpr (cZ _ h1),h2⟩
      ·rw[cQ]at hx;subst hx;exact⟨_,pm'.mem_iff.mpr ce,rfl⟩
   refine qD ⟨plainId_quiet PyProof.Rows.F.plain_set_update_loop _,ih (i+1) _ bs' 0#0 hlt (W.frame _ s' _ _ hst' (iF _ _) λb hb o e=>?_) (λq hq=>(hK' q hq).at λo e=>?_) hS2 hU' λs'' bs'' hm'' hS'' hU''=>?_⟩
   ·rw[sb.2 b (λh:b=S=>hSf (by rw[<-h];exact hb))];exact e
   ·rw[sb.2 _ (λh:q.2=S=>haw q hq (by rw[h];exact ce))];exact e
   ·refine hR s'' bs'' (Moved.trans W.gtrans ((hm.mono hsub).then_heap (iF _ _) λb o hb e=>?_) hm'') hS'' hU'';rw[sb.2 b (λh:b=S=>hb (by rw[h];exact ce))];exact e
end
theorem UB(a:qR){Q₁:qR->qT->Prop}(h:Q₁ 10#1 {s with heap:=s.heap.push {cls:=.type "set",dict:=none,data:=.set #[] 0 (.fresh 0 0 (!w.params.followText "set-order"))}}):
  codeAny 0#8 A (.call (.builtin "set.__new__") ⟨[.type "set",a],[]⟩) (wants Q₁ E) s:=by
 refine codeAny_of_tree ?_;show wpAny _ A.in1 (do checkBuiltinCall "set.__new__" ⟨[.type "set",a],[]⟩;again (.builtin "set.__new__" ⟨[.type "set",a],[]⟩)) _ _ s;refine qC (wpAny_of_eq (PySem.F.newCall_set_1 a) (qD ⟨plainId_quiet PySem.F.plain_set_new _,codeAny_builtin PySem.F.entry_set_new ?_⟩));rw[Around.under_plainId PySem.F.plain_set_new _];unfold Builtin.«set.__new__» Builtin.Frozenset.newClass;have hsub:=sub_set_self;obtain⟨hp,g,d,tk,os⟩:=s;dsimp only
 wp_walk
 refine wpAny_askSetting (qD ?_);dsimp only;simp only[newObj];refine qC (wpAny_alloc (qD ?_));exact qD h
theorem Q8{l:qS}{bd:List (qX)}(hh:10#9=none)(hu:A.in1.in1.in1.units<cLine)(hl:s.heap.IsList l items)(hv:items.toList=kl.map λp=>.ref p.2)(hK:∀p∈kl,EW prog w s.heap p.1 p.2)(hbd:bd.length<=4914)(hin:∀p∈kl,p.1∈bd)(h:∀(h':Heap) (tk:Nat) bs,Mc prog w h' s.heap.objs.size bs->T9 kl kl.length bs->(∀b o,b<0#6->s.heap.get? b=some o->h'.get? b=some o)->Q 10#1 {s with heap:=h',toks:=tk}):
  wpAny 0#8 A (call (.type "set") [.ref l]) Q E s:=by
 obtain⟨c,tl,hmro⟩:=fQ.mro;have hmade:=fQ.made;have hsub:=fQ.sub;refine wpAny_call (codeAny_of_tree ?_);show wpAny _ _ (callAny (.type "set") _) _ _ _;refine qD ⟨Code.quiet_builtin _ 0#5,codeAny_builtin PySem.F.entry_type_call ?_⟩;rw[Around.under_plain (weight_type_call_type "set" [.ref l] []) rfl];have h1:=fQ.notType;have h2:=fQ.canCreate;have hct:=PySem.F.typeCall_set_1 9#5
 repeat (any_goals (first|assumption|wp_step))
 have nk:=@UB (prog:=prog) (w:=w) (A:=A.in1) (E:=E) (s:=s) (a:=.ref l);generalize hL:(!w.params.followText "set-order")=led at nk;refine codeAny_mono (nk (Q₁:=λobj s₁=>obj=.ref 0#6/\s₁={s with heap:=s.heap.push {cls:=.type "set",dict:=none,data:=.set #[] 0 9#6}}) ⟨rfl,rfl⟩) λr s₁ hr=>?_;cases r with
 |error e=>exact hr
 |ok fl =>
  cases fl with
  |ret obj =>
   obtain⟨rfl,rfl⟩:=hr;have hS:(s.heap.push {cls:=.type "set",dict:=none,data:=.set #[] 0 9#6}).get? 0#6=some {cls:=.type "set",dict:=none,data:=.set #[] 0 9#6}:=cy _ rfl;have hT:Shared.TypeIs {s with heap:=s.heap.push {cls:=.type "set",dict:=none,data:=.set #[] 0 9#6}} 10#1 "set":=⟨_,hS,rfl⟩;have hli:=fQ.init.lookup;have hbi:=fQ.init.bind 10#1
   repeat (any_goals (first|assumption|wp_step))
   refine codeAny_mono (codeAny_call_builtin (R:=wants (λr s₂=>r=.none/\∃h' tk bs,s₂={s with heap:=h',toks:=tk} /\
     Mc prog w h' s.heap.objs.size bs/\T9 kl kl.length bs/\(∀b o,b<0#6->s.heap.get? b=some o->h'.get? b=some o)) E) fQ.init.plain PySem.F.entry_set_init (check_set_init_1 hT ?_)) λr₂ s₂ hr₂=>?_
   ·obtain⟨ol,hol,hcl,nl,hdl⟩:=hl;obtain⟨ocls,odict,odata,oslots⟩:=ol;simp only at hcl hdl;subst hcl;subst hdl;have hol':(s.heap.push {cls:=.type "set",dict:=none,data:=.set #[] 0 9#6}).get? l=some {cls:=.type "list",dict:=odict,data:=.seq items nl,slots:=oslots}:=cS _ hol;have hsls:=PySem.F.sub_list_set;have hslf:=PySem.F.sub_list_frozenset;have hne:(Value.type "list"==Value.type "dict")=false:=by decide
    have hl1:(s.heap.push {cls:=.type "set",dict:=none,data:=.set #[] 0 9#6}).IsList l items:=⟨_,hol',rfl,nl,rfl⟩;unfold Builtin.«set.__init__» noKeywords Builtin.Frozenset.updateFrom;generalize hPI:pyIter=PI
    wp_walk
    subst hPI;refine wpAny_pyIter_list hl1 ?_;refine qC (wpAny_runValue ?_);have hlS:l<0#6:=cg hol;have hh3:A.in1.in1.in1.handled=none:=by simp[hh]
    have hneI:l≠(s.heap.push {cls:=.type "set",dict:=none,data:=.set #[] 0 9#6}).objs.size:=by rw[eS];exact dH (d5 hlS)
    have hSf:0#6∉[(s.heap.push {cls:=.type "set",dict:=none,data:=.set #[] 0 9#6}).objs.size,l]:=by rw[Heap.size_push];simp only[List.mem_cons,List.not_mem_nil,or_false,not_or];exact⟨dH (fR _),gH hlS⟩
    have lenk:kl.length=items.size:=by rw[<-cr,hv,cO]
    have hval:∀(i:Nat) (v:qR),items[i]?=some v->∃p,kl[i]?=some p/\v=.ref p.2:=λi v g=>by rw[<-dS,hv,cT]at g;obtain⟨p,h1,h2⟩:=c7.mp g;exact⟨p,h1,h2.symm⟩
    have kb:∀p∈kl,p.2<0#6:=λp hp=>by obtain⟨o,_,_,ho,_⟩:=hK p hp;exact cg ho
    refine UA ((Walks.list hh3 _ l hneI items).toS) hu s.heap.objs.size hSf kl lenk hval bd hbd hin (λp hp=>?_) (items.size-0) 0 _ [] 0#0 (di _)
     ⟨⟨_,cy _ rfl,rfl,rfl⟩,(hl1.push _)⟩ (λp hp=>(hK p hp).at λo e=>cS _ (cS _ e)) ?hS0 ⟨λp hp=>qG hp cn,λp hp=>qG hp cn⟩ ?hR
    ·have:=kb p hp;simp only[List.mem_cons,List.not_mem_nil,or_false,not_or,Heap.size_push];exact⟨dH this,dH (d5 this)⟩
    case hS0=>exact⟨_,#[],0,_,cS _ hS,⟨rfl,rfl,rfl⟩,rfl,T4 0 0 led,hL.symm,rfl,rfl,ev⟩
    case hR =>
     intro s' bs hm hS' hU;obtain⟨h',g',d',tk',os'⟩:=s';have eg:g'=s.gens:=hm.gens;have ed:d'=s.drawn:=hm.drawn;have eo:os'=s.os:=hm.os;subst eg;subst ed;subst eo;show wpAny _ _ _ _ _ _;refine qD ?_;show wpAny _ _ (ret 11#3) _ _ _;refine qD ⟨rfl,h',tk',bs,rfl,hS',by rw[lenk];exact hU,λb o hb e=>?_⟩;have hb1:b≠0#6:=dH hb
     have hb2:b≠(s.heap.push {cls:=.type "set",dict:=none,data:=.set #[] 0 9#6}).objs.size:=by rw[eS];exact dH (d5 hb)
     exact hm.heap b o (by simp only[List.mem_cons,List.not_mem_nil,or_false,not_or];exact⟨hb1,hb2⟩) (Heap.get?_push_of_some _ (Heap.get?_push_of_some _ e))
   ·cases r₂ with
    |error e=>exact hr₂
    |ok fl₂ =>
     cases fl₂ with
     |ret r =>
      obtain⟨rfl,h',tk,bs,rfl,hS',hU,hk'⟩:=hr₂
      repeat (any_goals (first|assumption|wp_step))
      exact h _ _ _ hS' hU hk'
     |_=>exact hr₂.elim
  |_=>exact hr.elim
end
end L2
namespace PySem
open Sem (wp)
theorem si_owner:Manifest.owners.lookup (String.ofList ['r','o','t','a','r','e','t','i','_','t','e','s'].reverse)=some Manifest.sig_set_iterator:=by kernel_rfl
theorem si_next:Slot "set_iterator" "__next__" "set_iterator.__next__":=
 .of (owner:="set_iterator") (n:="__next__") (by rw[typeLookup_type,builtinLookup_eq_fast];kernel_rfl) 0#5 0#5 0#5 (.inl 0#5) (by rw[isSubtype_type];kernel_rfl)
theorem si_entry:entryFor table "set_iterator.__next__"=some Builtin.«set_iterator.__next__»:=entryFor_of_tree (by kernel_rfl)
theorem si_args(a:qR):argsOk "set_iterator.__next__" ⟨[a],[]⟩:=by unfold argsOk;rw[signature?_of (id:="set_iterator.__next__") (n:=['_','_','t','x','e','n','_','_']) (o:=['r','o','t','a','r','e','t','i','_','t','e','s']) (by kernel_rfl) si_owner];kernel_rfl
theorem si_iter:Slot "set_iterator" "__iter__" "set_iterator.__iter__":=
 .of (owner:="set_iterator") (n:="__iter__") (by rw[typeLookup_type,builtinLookup_eq_fast];kernel_rfl) 0#5 0#5 0#5 (.inl 0#5) (by rw[isSubtype_type];kernel_rfl)
theorem si_iterE:entryFor table "set_iterator.__iter__"=some Builtin.«dict_keyiterator.__iter__»:=entryFor_alias (id':="dict_keyiterator.__iter__") (by kernel_rfl) rfl 0#5 (by kernel_rfl)
theorem si_iter_args(a:qR):argsOk "set_iterator.__iter__" ⟨[a],[]⟩:=by unfold argsOk;rw[signature?_of (id:="set_iterator.__iter__") (n:=['_','_','r','e','t','i','_','_']) (o:=['r','o','t','a','r','e','t','i','_','t','e','s']) (by kernel_rfl) si_owner];kernel_rfl
theorem si_iter_entry:entryFor table "set.__iter__"=some Builtin.«frozenset.__iter__»:=entryFor_alias (id':="frozenset.__iter__") (by kernel_rfl) rfl 0#5 (by kernel_rfl)
end PySem
namespace L2
open PySem PySem.Spec PyProof.Rows SetTable
variable{E Q:qR->qT->Prop}{X:Cx}{d:qS}{ep i sl:Nat}{es:Array (Int×qR)}{h h':Heap}{its vs:List qR}{kl:List (qX×qS)}{o:Obj}{s:qT}{ta:TA}{α:Type}
section
variable{prog:qU}{w:qV}{A:Around}
noncomputable def E1(w:qV)(d:qS)(ep:Nat)(es:Array (Int×qR)):Array (Int×qR):=if w.params.followText "set-order"=true then pickOrder 21#3 es else es
theorem Me:∀{l:List α} {i:Nat} (h:i<6#9),(l[i]::l.eraseIdx i).Perm l
 |a::l,0,_=>.refl _
 |a::l,i+1,h=>(List.Perm.swap a _ _).trans (List.Perm.cons a (Me (l:=l) (i:=i) (Nat.lt_of_succ_lt_succ h)))
theorem Vi(next:Nat->Nat):∀(f k:Nat) (left:List α) (out:Array α),f=left.length->(pickOrder.go next f k left out).toList.Perm (11#9++left):=by
 intro f
 induction f with
 |zero =>
  intro k left out h;have:left=[]:=iQ.mp h.symm;subst this;rw[eI];exact .refl _
 |succ f ih =>
  intro k left out h;unfold pickOrder.go;have l:next k%left.length<left.length:=eW _ 0#0;have e:left[next k%left.length]?=some left[next k%left.length]:=by simp[l]
  rw[e];dsimp only;refine (ih _ _ _ (by rw[List.length_eraseIdx,qF l];lia)).trans ?_;rw[iZ,de];refine List.Perm.append_left _ ?_;exact Me l
theorem F5(w:qV)(d:qS)(ep:Nat)(es:Array (Int×qR)):(E1 w d ep es).toList.Perm 19#2:=by
 unfold E1;split
 ·unfold pickOrder;have z:=Vi 21#3 es.size 0 es.toList #[] (by rw[cr]);exact z
 ·exact .refl _
def Mf(h:Heap)(it d:qS)(sl i n ep:Nat):=∃o,h.get? it=some o/\o.cls=.type "set_iterator"/\13#1=.fields #[.int sl 0,.int i 0,.ref d,.int n 0,.int ep 0]
def Kv(w:qV)(h:Heap)(d:qS)(es:Array (Int×qR))(ep:Nat)(t:SetTable):=∃o,h.get? d=some o/\o.ExactSet/\13#1=.set es ep t/\G4 t es/\t.led=(!w.params.followText "set-order")/\t.plain=true
theorem UC{t:SetTable}(hm:Kv w s.heap d es ep t)(hQ:Q 10#1 {s with heap:=s.heap.push {cls:=.type "set_iterator",data:=.fields #[.int 0 0,.int 0 0,.ref d,.int es.size 0,.int ep 0]}}):
  wpAny 0#8 A (pyIter 2#3) Q E s:=by
 obtain⟨o,ho,hex,hd,tb,hl,hp⟩:=hm;have hT:s.TypeIs 2#3 "set":=⟨o,ho,hex.1⟩;refine wpAny_pyIter_slot hT PySem.F.slot_set_iter (wpAny_call_entry PySem.F.slot_set_iter hT si_iter_entry ?_ (PySem.F.args_set_iter_1 _));unfold Builtin.«frozenset.__iter__» Builtin.Frozenset.slot0 slotArgs;simp only[List.isEmpty_nil,Bool.not_true,Bool.false_eq_true,↓reduceIte,bind_assoc,List.length_nil,bne_self_eq_false];unfold Builtin.Frozenset.addrOf Builtin.Frozenset.sizeOf;refine qC (qD ?_)
 try dsimp only
 refine qC (qD ?_);refine qC (qC (wpAny_setEntries_of ho hd tb.1.fits (qD ?_)));unfold setDrawn setsByText;refine qC (qC (wpAny_setState_of ho hd tb.1.fits (qC (qC (wpAny_askSetting (qD (qD ?_)))))));refine wpAny_ite_split (λhab=>?_) (λ_=>?_)
 ·exfalso;have hab':(!w.params.followText "set-order"&&(!t.plain&&decide (6#6>1)))=true:=hab;rw[hp]at hab';simp at hab'
 refine qC (qD (qC (wpAny_setEpoch_of ho hd tb.1.fits ?_)));unfold newFields;refine qC (wpAny_newObj_type (qD ⟨_,rfl,"set_iterator",_,⟨_,cy _ rfl,rfl⟩,si_next.lookup,?_⟩));simpa [rawInt] using hQ
theorem PV{t:SetTable}{Q:Option (qR×Nat)->qT->Prop}(hm:Kv w s.heap d es ep t)(hi:w.params.followText "set-order"=true\/below t.place sl=i)(h1:∀e,(E1 w d ep es)[i]?=some e->∀nx,(w.params.followText "set-order"=true\/below t.place nx=i+1)->Q (some (e.2,nx)) s)(h2:(E1 w d ep es)[i]?=none->Q none s):
  wpAny 0#8 A (setNext d sl i ep) Q E s:=by
 obtain⟨o,ho,hex,hd,tb,hl,hp⟩:=hm;unfold setNext setsByText;refine qC (wpAny_setState_of ho hd tb.1.fits (qC (qC (wpAny_askSetting (qD ?_)))));unfold E1 at h1 h2
 by_cases c:w.params.followText "set-order"=true
 ·rw[qF c]at h1 h2;rw[qF (show (model prog w).w.params.followText "set-order"=true from c)];rw[qE 0#3];unfold setWalk setsByText;refine qC (qC (wpAny_setState_of ho hd tb.1.fits (qC (qC (wpAny_askSetting (qD ?_))))));rw[qF (show (model prog w).w.params.followText "set-order"=true from c)];refine qC (wpAny_askSetting (qD (qD ?_)));show Q (((pickOrder 21#3 es)[i]?).map λe=>(e.2,sl)) s;cases e:(pickOrder (w.params.setOrder d ep) es)[i]? with
  |none=>exact h2 e
  |some x=>exact h1 x e sl (.inl c)
 ·rw[qE c]at h1 h2;have hi':below t.place sl=i:=hi.resolve_left c;rw[qE (show ¬(model prog w).w.params.followText "set-order"=true from c)];refine wpAny_ite_split (λhab=>?_) (λ_=>?_)
  ·exfalso;have hab':(!t.plain&&decide (6#6>1))=true:=hab;rw[hp]at hab';simp at hab'
  refine qC ?_;refine wpAny_ite_split (λhab=>?_) (λ_=>?_)
  ·exfalso;have hab':(!t.led&&!es.isEmpty)=true:=hab;rw[hl,show w.params.followText "set-order"=false by simpa using c]at hab';simp at hab'
  refine qD ?_;rw[hi'];cases e:es[i]? with
  |none =>
   dsimp only;rw[e];exact qD (h2 e)
  |some x =>
   obtain⟨hx,v⟩:=x;dsimp only;have il:i<t.place.size:=by rw[tb.1.sz];exact (eO.mp e).1
   have ep':t.place[i]?=some t.place[i]:=by simp[il]
   rw[e,ep'];exact qD (h1 _ e _ (.inr (OB tb.1.up ep')))
theorem Jb{it:qS}{t:SetTable}{e:Int×qR}{Q:Option qR->qT->Prop}(hit:Mf s.heap it d sl i es.size ep)(hm:Kv w s.heap d es ep t)(hi:w.params.followText "set-order"=true\/below t.place sl=i)(hx:(E1 w d ep es)[i]?=some e)(hQ:∀nx h',(w.params.followText "set-order"=true\/below t.place nx=i+1)->Mf h' it d nx (i+1) es.size ep->Heap.SameBut it s.heap h'->Q (some e.2) {s with heap:=h'}):
  wpAny 0#8 A 21#7 Q E s:=by
 obtain⟨o,ho,hc,hd⟩:=hit;have hT:s.TypeIs 6#8 "set_iterator":=⟨o,ho,hc⟩;obtain⟨od,hod,hex,hdd,tb,_,_⟩:=id hm;unfold pyNext;refine qC (wpAny_attempt (wpAny_callSpecial?_slot (name:=Str.ofString "__next__") hT si_next (wpAny_call_entry si_next hT si_entry ?_ (si_args _))));unfold Builtin.«set_iterator.__next__» slotArgs;show wpAny _ _ (pure (Value.ref it,[]) >>= _) _ _ _;refine qC (qD ?_);refine qC (wpAny_fieldsOf ho hd ?_);show wpAny _ _ (setEntries d >>= _) _ _ _;refine qC (wpAny_setEntries_of hod hdd tb.1.fits ?_);rw[qE 0#3];show wpAny _ _ (setNext d (sl:Int).toNat (i:Int).toNat (ep:Int).toNat >>= _) _ _ _;rw[cj,cj,cj];refine qC (PV hm hi (λe' he nx hn=>?_) (λhne=>?_))
 ·rw[hx]at he;cases he;dsimp only;refine qC (wpAny_setField ho hd 0#3 ?_);have g1:=et (Obj.mapFields (·.setIfInBounds 0 (rawInt (nx:Int)))) ho (Obj.isFreed_of_fields (Obj.data_mapFields hd _));have d1:=Obj.data_mapFields hd (·.setIfInBounds 0 (rawInt (nx:Int)));refine qC (wpAny_setField g1 d1 0#3 ?_);refine qD ⟨_,rfl,qD (hQ nx _ hn ⟨_,et _ g1 (Obj.isFreed_of_fields (Obj.data_mapFields d1 _)),?_,?_⟩ ((Heap.SameBut.update ..).trans (Heap.SameBut.update ..)))⟩
  ·rw[Obj.cls_mapFields,Obj.cls_mapFields];exact hc
  ·rw[Obj.data_mapFields d1];simp[rawInt]
 ·rw[hx]at hne;cases hne
theorem Kw{it:qS}{t:SetTable}{Q:Option qR->qT->Prop}(hh:10#9=none)(hit:Mf s.heap it d sl i es.size ep)(hm:Kv w s.heap d es ep t)(hi:w.params.followText "set-order"=true\/below t.place sl=i)(hx:(E1 w d ep es)[i]?=none)(hQ:∀h',Heap.ExtBut it s.heap h'->Q none {s with heap:=h'}):
  wpAny 0#8 A 21#7 Q E s:=by
 obtain⟨o,ho,hc,hd⟩:=hit;have hT:s.TypeIs 6#8 "set_iterator":=⟨o,ho,hc⟩;obtain⟨od,hod,hex,hdd,tb,_,_⟩:=id hm;unfold pyNext;refine qC (wpAny_attempt (wpAny_callSpecial?_slot (name:=Str.ofString "__next__") hT si_next (wpAny_call_entry si_next hT si_entry ?_ (si_args _))));unfold Builtin.«set_iterator.__next__» slotArgs;show wpAny _ _ (pure (Value.ref it,[]) >>= _) _ _ _;refine qC (qD ?_);refine qC (wpAny_fieldsOf ho hd ?_);show wpAny _ _ (setEntries d >>= _) _ _ _;refine qC (wpAny_setEntries_of hod hdd tb.1.fits ?_);rw[qE 0#3];show wpAny _ _ (setNext d (sl:Int).toNat (i:Int).toNat (ep:Int).toNat >>= _) _ _ _;rw[cj,cj,cj];refine qC (PV hm hi (λe' he nx hn=>?_) (λhne=>?_))
 ·rw[hx]at he;cases he
 ·dsimp only;refine qC (wpAny_setField ho hd 0#3 ?_);refine qC ?_;simp only[newExc,newTuple];refine qC (wpAny_newObj_type ?_ (by size_fits));refine qC (m:=firstArgMember _ _) (wpAny_of_eq (a:=11#3) (by first|rfl|(simp only[firstArgMember];rfl)) ?_);refine wpAny_newObj_type ?_ (by size_fits);unfold raiseNew;refine qC (wpAny_handled ?_);rw[show A.in1.handled=none from hh];refine qC (qD (wpAny_throw ?_));refine qC (wpAny_isInstance (T:="StopIteration") (b:=true) ⟨_,cy _ rfl,rfl⟩ isSubtype_stop ?_);exact qD (hQ _ (((Heap.SameBut.update ..).extBut.push _).push _))
theorem Mf.at{it:qS}{n:Nat}(x:Mf h it d sl i n ep)(e:∀o,h.get? it=some o->h'.get? it=some o):Mf h' it d sl i n ep:=by obtain⟨o,ho,r⟩:=x;exact⟨o,e _ ho,r⟩
theorem Kv.at{t:SetTable}(x:Kv w h d es ep t)(e:∀o,h.get? d=some o->h'.get? d=some o):Kv w h' d es ep t:=by obtain⟨o,ho,r⟩:=x;exact⟨o,e _ ho,r⟩
theorem Q9(hh:10#9=none)(I d:qS)(hne:d≠I)(es:Array (Int×qR))(ep:Nat)(t:SetTable):
  Walks prog w A I [I,d] [I] es.size (λi v=>∃e,(E1 w d ep es)[i]?=some e/\v=e.2) (λi h=>∃sl,Mf h I d sl i es.size ep/\Kv w h d es ep t/\(w.params.followText "set-order"=true\/below t.place sl=i)) where
 sub:=λb hb=>by rw[cQ]at hb;rw[hb];exact ce
 frame:=λi h h' st hk=>by obtain⟨sl,h1,h2,h3⟩:=st;exact⟨sl,h1.at λo e=>hk I ce o e,h2.at λo e=>hk d (cZ _ ce) o e,h3⟩
 item:=λi s Q E hi st hQ=>by
  obtain⟨sl,h1,h2,h3⟩:=st
  have lo:(E1 w d ep es).size=6#6:=by have:=(F5 w d ep es).length_eq;rw[cr,cr]at this;exact this
  have ge:(E1 w d ep es)[i]?=some (E1 w d ep es)[i]:=by simp[show i<(E1 w d ep es).size by lia]
  refine Jb h1 h2 h3 ge λnx h' hn hit' hs'=>?_;exact hQ _ h' s.toks ⟨_,ge,rfl⟩ ⟨nx,hit',h2.at λo e=>hs'.extBut d o hne e,hn⟩ λb o hb e=>hs'.extBut b o (λz=>hb (by rw[z];exact ce)) e
 done:=λs Q E st hQ=>by
  obtain⟨sl,h1,h2,h3⟩:=st
  have lo:(E1 w d ep es).size=6#6:=by have:=(F5 w d ep es).length_eq;rw[cr,cr]at this;exact this
  exact Kw hh h1 h2 h3 (Array.getElem?_eq_none 0#0) λh' he'=>hQ h' s.toks λb o hb e=>he' b o (λz=>hb (by rw[z];exact ce)) e
 self:=λ_ s _ _ st hQ=>by obtain⟨sl,⟨o,ho,hc,_⟩,_⟩:=st;have hT:s.TypeIs 27#8 "set_iterator":=⟨o,ho,hc⟩;refine wpAny_pyIter_slot hT si_iter (wpAny_call_entry si_iter hT si_iterE ?_ (si_iter_args _));show wpAny _ _ (ret 27#8) _ _ _;exact qD ⟨_,rfl,"set_iterator",_,hT,si_next.lookup,hQ⟩
theorem UD{Q:Bool->qT->Prop}(hT:s.TypeIs 2#3 "set")(h:Q false s):wpAny 0#8 A 14#1 Q E s:=by
 unfold Builtin.List.listLengthHint;refine qC (wpAny_specialOf hT PySem.F.slot_set_len.lookup ?_);generalize hid:("set.__len__":String)=id0
 wp_delta
 rw[show splitId id0=some ("set","__len__") from by subst hid;decide +kernel];subst hid;refine qC (wpAny_isInstance (T:="set") (b:=true) hT sub_set_self ?_);refine wpAny_ite_split (λhab=>qG hab 0#1) (λ_=>?_);refine wpAny_ite_split (λ_=>?_) (λhab=>qG 0#5 hab);refine qC (wpAny_typeOf hT ?_);exact qD h
theorem Zg{t:SetTable}(hex:o.ExactSet)(hd:13#1=.set es ep t)(tb:G4 t es)(hl:t.led=(!w.params.followText "set-order"))(hp:t.plain=true):
  Tl prog w d o {cls:=.type "set_iterator",data:=.fields #[.int 0 0,.int 0 0,.ref d,.int es.size 0,.int ep 0]} "set" es.size (λi v=>∃e,(E1 w d ep es)[i]?=some e/\v=e.2) (λI i h=>∃sl,Mf h I d sl i es.size ep/\Kv w h d es ep t/\(w.params.followText "set-order"=true\/below t.place sl=i)) where
 cls:=hex.1
 n1:=by decide
 n2:=by decide
 it:=λho h=>UC ⟨o,ho,hex,hd,tb,hl,hp⟩ h
 hint:=λhT h=>UD hT h
 walks:=λhh ne=>Q9 hh _ d ne es ep t
 st:=λho hI=>⟨0,⟨_,hI,rfl,rfl⟩,⟨o,ho,hex,hd,tb,hl,hp⟩,.inr (OC tb.1.up)⟩
 itf:=rfl
theorem RA{bs:List (qX×qS)}(hh:10#9=none)(hS:Mc prog w s.heap d bs)(hT:∀p∈bs,G2 s.heap (.ref p.2))(h:∀(D:qS) (h':Heap) (tk:Nat) (out:Array qR) (zs:List (qX×qS)) (e:Nat),0#6<=D->(∀b o,s.heap.get? b=some o->h'.get? b=some o)->h'.get? D=some (seqObj "list" out e)->11#9=zs.map (λp=>.ref p.2)->zs.Perm bs->Q 2#7 {s with heap:=h',toks:=tk}):
  wpAny 0#8 A (call (.builtin "sorted") [.ref d]) Q E s:=by
 obtain⟨o,es,ep,t,ho,hex,hd,tb,hled,hpl,he,hnd⟩:=hS
 have len:6#6<=5000:=by have m:=tb.1.msk;have r:=tb.2;simp only[List.mem_cons,List.not_mem_nil,or_false]at m;lia
 refine Calls.call_function_entry kind_sorted plain_sorted entry_sorted (args_sorted1 _) ?_;unfold Builtin.«sorted»;refine qC (m:=checkCount "sorted" 1 1 _) (qD (qC (G0 (A:=A.in1) (Zg hex hd tb hled hpl) hh ho (by rw[sizeLine_eq];lia) λh' tk j6 sl kp hacc=>?_)))
 have al:j6.toList=(E1 w d ep es).toList.map (·.2):=by
  apply gs;intro i
  have lo:(E1 w d ep es).size=6#6:=by have:=(F5 w d ep es).length_eq;rw[cr,cr]at this;exact this
  rw[cT,dS,dS];rcases e1:j6[i]? with _|v
  ·have:(E1 w d ep es)[i]?=none:=by rw[Array.getElem?_eq_none_iff]at e1⊢;rw[lo,<-hacc.1];exact e1
   rw[this];rfl
  ·obtain⟨e,h1,h2⟩:=hacc.2 i v e1;rw[h1,h2];rfl
 have pa:j6.toList.Perm (bs.map λp=>Value.ref p.2):=by rw[al];refine ((F5 w d ep es).map (·.2)).trans ?_;rw[he,fI];exact .of_eq (dc λp _=>rfl)
 have zl:j6.toList.length<=sizeLine:=by rw[cr,hacc.1,sizeLine_eq];lia
 refine qC (wpAny_newList ?_);have gL:(h'.push (seqObj "list" j6.toList.toArray 0)).get? 11#2=some (seqObj "list" j6.toList.toArray 0):=cy _ rfl;show wpAny _ _ _ _ _ {s with heap:=h'.push (seqObj "list" j6.toList.toArray 0),toks:=tk};refine qC (qP (wpAny_call_entry slot_list_sort ⟨_,gL,rfl⟩ entry_list_sort (MU gL (λv hv=>?_) ?_ λout p=>⟨_,rfl,?_⟩) (args_list_sort _)))
 ·obtain⟨p,hp,rfl⟩:=c6.mp (pa.mem_iff.mp hv);exact (hT p hp).at λt o g _=>cS _ (kp _ _ g)
 ·rw[cr,hacc.1];lia
 ·obtain⟨e,he'⟩:=sortedHeap_at (out:=out) gL;obtain⟨zs,z1,z2⟩:=G5 (p.trans pa) bs rfl;refine qD ⟨_,rfl,h _ _ _ out zs e (dz sl) (λc o z=>?_) he' z2 z1⟩;have lt:=cg (kp c o z);rw[sortedHeap_old (dH lt) (by rw[size_push'];exact d5 lt)];exact cS _ (kp c o z)
end
theorem RB(h:Ar (kl.map λp=>V.ref p.2) its):its=kl.map λp=>Value.ref p.2:=by
 induction kl generalizing its with
 |nil=>cases h;rfl
 |cons p kl ih =>
  cases h with
  |cons r rr =>
   cases r;rw[ih rr];rfl
theorem UE{prog:qU}{w:qV}{ns:qX}(h:IntsAre vs ns):ItemsAre 4#1 ns vs:=by
 induction h with
 |nil=>exact .nil
 |cons n t _ ih=>exact .cons (intKind_is _ _ _ _) ih
def Zh(K:qW)(ta:TA):TE:=λσ H Q=>ta σ H λvs H1=>∃(a:qS) (kl:List (qX×qS)) (bd:List (qX)),vs=[.ref a]/\Ad K H1 a (kl.map λp=>V.ref p.2)/\(∀p∈kl,Ai K H1 p.2 (p.1.map 2#1)/\p.1≠[])/\bd.length<=4914/\(∀p∈kl,p.1∈bd) /\
 ∀(D:qS) (bs:List (qX×qS)),H1 D=none->(∀p∈bs,p∈kl)->(∀p∈kl,∃q∈bs,q.1=p.1)->(bs.map (·.1)).Nodup->Q 2#7 (AU H1 D (.lst (bs.map λp=>V.ref p.2)))
theorem Vj{l:Expr}{K:qW}{p1 p2 pos1 pos2:Pos}(hK:X.K=K)(hu:8#1+64<cLine)(hc:23#4=true)(hg:Gl X "set")(hm:X.mg "set"=none)(hg2:Gl X "sorted")(hm2:X.mg "sorted"=none)(ha:PA X [l] ta)(hs:starEach [l] 1#6=[(false,eval l 1#6)]:=by rfl)(hs2:starEach [.Call (.Name "set" p1) [l] [] pos1] 1#6=[(false,eval (.Call (.Name "set" p1) [l] [] pos1) 1#6)]:=by rfl):
  PE X (.Call (.Name "sorted" p2) [.Call (.Name "set" p1) [l] [] pos1] [] pos2) (Zh K ta):=by
 subst hK;intro ad s σ H Q I h;refine Call_ (CS I hg2 hm2 PyProof.Rows.boot_sorted (PyProof.Rows.callWith_builtin1 ?_ hs2 rfl));rw[hs2];show wpAny _ _ (spliced ((false,eval (.Call (.Name "set" p1) [l] [] pos1) 1#6)::[])) _ _ s;refine Calls.spliced_cons (Call_ (CS I hg hm (by decide +kernel:bootBuiltins "set"=some (.type "set")) (db (BB (ha pos1 ad s σ H _ I h) λus s1 hz=>?_) hs rfl)));obtain⟨vs,H1,I1,r1,q1⟩:=hz;obtain⟨a,kl,bd,rfl,hl,ht,hbd,hin,q⟩:=q1;obtain⟨u,rfl,ru⟩:=FH r1;cases ru;obtain⟨its,rv,pl,hz⟩:=I1.list hl
 have tup:∀p∈kl,∃tv:List qR,IntsAre tv p.1/\IsTup s1.heap p.2 tv.toArray:=λp hp=>by obtain⟨tv,rt,pt,_⟩:=I1.tuple (ht p hp).1;exact⟨tv,Fz rt,pt⟩
 have key:∀p∈kl,EW X.prog X.w s1.heap p.1 p.2:=λp hp=>by obtain⟨tv,h1,o,h2,h3,n,h4⟩:=tup p hp;exact⟨o,tv.toArray,n,h2,h3,h4,UE h1⟩
 refine Q8 (kl:=kl) (bd:=bd) 5#9 (show 8#1+3<cLine by lia) pl.isList (RB rv) key hbd hin λh1 tk bs hS hU kp=>?_;have kp1:∀b o,s1.heap.get? b=some o->h1.get? b=some o:=λb o z=>kp b o (cg z) z
 refine Calls.spliced_nil ?_;refine RA (s:={s1 with heap:=h1,toks:=tk}) 5#9 hS (λp hp=>?_) λD h2 tk2 out zs e hD k2 he ho hp=>?_
 ·obtain⟨tv,h1',pt⟩:=tup p (hU.1 p hp);obtain⟨o,g1,g2,n,g3⟩:=pt;exact⟨p.2,tv,p.1,rfl,⟨o,kp1 _ _ g1,g2,n,g3⟩,h1',(ht p (hU.1 p hp)).2⟩
 ·have hD':1#7<=D:=by
   obtain⟨o,_,_,_,g,_⟩:=hS;have:=cg g;exact dO (dz this) hD
  obtain⟨_,es,_,_,_,_,_,tb,_,_,hes,nd⟩:=hS
  have zl:zs.length<=sizeLine:=by have m:=tb.1.msk;have r:=tb.2;have q1:=qQ List.length hes;rw[cr,cO]at q1;simp only[List.mem_cons,List.not_mem_nil,or_false]at m;rw[hp.length_eq,sizeLine_eq];lia
  have vz:Ar (zs.map λp=>V.ref p.2) 11#9:=by
   rw[ho];clear ho hp zl
   induction zs with
   |nil=>exact .nil
   |cons p zs ih=>exact .cons rfl ih
  refine⟨.ref D,_,I1.laid (t':=tk2) (λb o z=>k2 b o (kp1 b o z)) hD' (show Aj X.prog X.w _ h2 _ (.lst (zs.map λp=>V.ref p.2)) from⟨by rw[cO];exact zl,11#9,e,vz,by rw[Array.toArray_toList];exact he⟩),rfl,q D zs (I1.hok.fresh hD') (λp h=>hU.1 p (hp.mem_iff.mp h)) (λp h=>?_) ((hp.map (·.1)).nodup_iff.mpr nd)⟩;obtain⟨x,h1',h2'⟩:=hU.2 p (by rw[eG];exact h);exact⟨x,hp.mem_iff.mpr h1',h2'⟩
end L2
namespace L2
open PySem PySem.Spec PyProof.Rows
variable{D:GC}{H:Hp}{X:Cx}{σ:St}
theorem Zi{ss:List Stmt}(h:∃t,Fo X ss t/\t D σ H):∃t,Gg X ss t/\t D σ H:=by obtain⟨t,a,b⟩:=h;exact⟨t,Fo.out a,b⟩
end L2
namespace L2
open PySem PySem.Spec PyProof.Rows RW
variable{G i:Nat}{H H':Hp}{L:List (qY)}{X:Cx}{a d:qS}{g:Int}{kl:List (qX×qS)}{kvs:List (List BP×V)}{pos:Pos}{q:Str}{j3 tf:qX}{te:TE}{tt:TT}{xs:List V}{α β γ:Type}{σf:List (Option V)}
def X3:TS:=λ_ _ _=>False
theorem DY{st:Stmt}:PS X st X3:=λ_ _ _ _ _ _ h=>h.elim
inductive Mg(K:qW)(vs:List V)(H:Hp)(Q:VK)(z3_:XK):Prop
 |m(a:qS)(xs:List V)(g:Int):vs=[.ref a,.int g]->Ad K H a xs->(∀x∈xs,Kd H x)->(match Cb g xs with|none=>∀H',AF H H'->Q .non H'|some _=>False)->Mg K vs H Q z3_
inductive G6(K:qW)(vs:List V)(H:Hp)(Q:VK)(z3_:XK):Prop
 |m(a:qS)(xs:List V)(g:Int)(m:Nat):vs=[.ref a,.int g,.int ((m:Nat):Int)]->Ad K H a xs->(∀x∈xs,Kd H x)->(match Eh g m xs with|none=>∀H',AF H H'->Q .non H'|some _=>False)->G6 K vs H Q z3_
inductive KC(K:qW)(vs:List V)(H:Hp)(Q:VK)(z3_:XK):Prop
 |m(a:qS)(xs:List V)(g:Int):vs=[.ref a,.int g]->2<=g->g<=9->Ad K H a xs->(∀x∈xs,Kd H x)->(match Cb g xs with|none=>∀ns:qX,xs=ns.map 2#1->∀H',AF H H'->Q (.int (Aw g ns)) H'|some _=>False)->KC K vs H Q z3_
inductive PX(K:qW)(vs:List V)(H:Hp)(Q:VK)(z3_:XK):Prop
 |m(r a:qS)(g lo:Int)(j3:qX)(m:Nat)(xs:List V):vs=[.ref r,.ref a]->2<=g->g<=9->A6 H r g lo j3->(0#9:Int)=g^m->Ad K H a xs->(∀x∈xs,Kd H x)->(match Eh g m xs with|none=>∀ns:qX,xs=ns.map 2#1->∀H',AF H H'->Q (.int (j3.getD (Aw g ns).toNat 0)) H'|some _=>False)->PX K vs H Q z3_
inductive PY(vs:List V)(H:Hp)(Q:VK)(z3_:XK):Prop
 |m(n g m:Int):vs=[.int n,.int g,.int m]->2<=g->g<=9->0<=m->m<=300->((n<0\/g^14#3<=n)->False)->(0<=n->n<g^14#3->∀r H',JW H H' r (RW.EB g n 14#3).reverse->Q 5#4 H')->PY vs H Q z3_
inductive PZ(vs:List V)(H:Hp)(Q:VK)(z3_:XK):Prop
 |m(g lo:Int):vs=[.int g,.int lo]->2<=g->g<=9->Q .non H->PZ vs H Q z3_
inductive UF(vs:List V)(H:Hp)(Q:VK)(z3_:XK):Prop
 |m(g:Int)(a:qS)(j3:qX)(m:Nat):vs=[.int g,.ref a]->2<=g->g<=9->1<=m->(0#9:Int)=g^m->g^m<=256->(∀n∈j3,0<=n/\n<g)->H a=some (.lst 12#3)->(∀H',AF H H'->Q .non H')->UF vs H Q z3_
inductive OG(vs:List V)(H:Hp)(Q:VK)(z3_:XK):Prop
 |m(g lo:Int)(a:qS)(j3:qX)(m:Nat):vs=[.int g,.int lo,.ref a]->2<=g->g<=9->1<=m->(0#9:Int)=g^m->g^m<=256->(∀n∈j3,0<=n/\n<g)->H a=some (.lst 12#3)->(∀r' H',AF H H'->A6 H' r' g lo j3->Q 19#4 H')->OG vs H Q z3_
theorem JE{lo:Int}{m:Nat}{Q:VK}{E:XK}(g2:2<=g)(g9:g<=9)(m1:1<=m)(len:(0#9:Int)=g^m)(sz:g^m<=256)(tb:∀n∈j3,0<=n/\n<g)(hs:H a=some (.lst 12#3)\/False)(q:∀r' H',AF H H'->A6 H' r' g lo j3->Q 19#4 H'):OG [.int g,.int lo,.ref a] H Q E:=by
 obtain hs|z:=hs
 ·exact⟨g,lo,a,j3,m,rfl,g2,g9,m1,len,sz,tb,hs,q⟩
 ·exact z.elim
noncomputable def Y5:Option Nat->V
 |none=>.non
 |some n=>.int ((n:Nat):Int)
def bO(H:Hp)(p:qS)(Z:qX)(F:Int->qX)(fo:Int->Option Nat):=∃ts:List qS,H p=some 20#7/\ts.length=Z.length/\∀(i:Nat) (t:qS) (z:Int),ts[i]?=some t->Z[i]?=some z->∃l,H t=some (.tup [.int z,.ref l,Y5 (fo z)])/\H l=some (.lst ((F z).map 2#1))
def ag(g:Int)(j3:qX):=∀row,(∀n∈row,0<=n/\n<g)->1<=Cs g.toNat j3 row
inductive UG(CT:qS)(pos:Pos)(Pt:qS)(vs:List V)(H:Hp)(Q:VK)(E:XK):Prop
 |m(r:qS)(g lo:Int)(j3:qX)(m:Nat)(lf:Int)(tf:qX)(mf:Nat):vs=[.ref r]->Aa H r g lo j3 m->A5 g lo j3 m lf tf mf->Au pos (DD "sets_reached") Pt H->(g^(mf-1)<=9->∀A M f Z,Es [DT g tf] 10#4 A->ET A 10#4 [0] M f->Z.Perm A->∀p H',Bk Pt H H'->Au pos (DD "sets_reached") Pt H'->H p=none->bO H' p Z 10#4 (JZ M f)->Q 1#9 H')->(9<g^(mf-1)->∀H',AF H H'->E 25#8 none H')->UG CT pos Pt vs H Q E
inductive Pa(CT:qS)(pos:Pos)(Pt:qS)(vs:List V)(H:Hp)(Q:VK)(E:XK):Prop
 |m(r:qS)(g lo:Int)(j3:qX)(m:Nat)(lf:Int)(tf:qX)(mf:Nat):vs=[.ref r]->Aa H r g lo j3 m->A5 g lo j3 m lf tf mf->Au pos (DD "sets_reached") Pt H->(g^(mf-1)<=9->∀b:Bool,(b=true↔ag g tf)->∀H',Bk Pt H H'->Au pos (DD "sets_reached") Pt H'->Q (.bl b) H')->(9<g^(mf-1)->∀H',AF H H'->E 25#8 none H')->Pa CT pos Pt vs H Q E
section
variable{A M:qX}{f:Int->Nat}
theorem KD{x y:Int}:y∈BH g tf x↔∃s:Nat,s<0#7/\y=B6 g.toNat tf (1#2/0#7) x (s:Int):=by unfold BH;rw[c6];exact⟨λ⟨s,h1,h2⟩=>⟨s,dE.mp h1,h2.symm⟩,λ⟨s,h1,h2⟩=>⟨s,dE.mpr h1,h2.symm⟩⟩
theorem RC(x s:Int)(row:qX):Cv g tf x (s::row)=Cv g tf (B6 g.toNat tf (1#2/0#7) x s) row:=rfl
theorem Mh(cl:∀a∈A,∀b∈BH g tf a,b∈A)(w:ET A 10#4 [0] M f):∀(row:qX) (x:Int),x∈A->(∀n∈row,0<=n/\n<g)->Cv g tf x row=0->x∈M/\f x<=11#1
 |[],x,_,_,h=>by have z:=w.ends 0 12#4;rw[show x=0 from h];exact⟨z.1,Nat.le_of_eq z.2⟩
 |s::row,x,hx,hr,h=>by have hs:=hr s ce;have m:B6 g.toNat tf (1#2/0#7) x s∈BH g tf x:=KD.mpr ⟨s.toNat,by lia,by rw[show ((s.toNat:Nat):Int)=s by lia]⟩;obtain⟨h1,h2⟩:=Mh cl w row _ (cl x hx _ m) (λn hn=>hr n (cZ _ hn)) h;obtain⟨h3,h4⟩:=w.up x hx _ m h1;exact⟨h3,by rw[dU];lia⟩
theorem KE(w:ET A 10#4 [0] M f):∀(n:Nat) (x:Int),JZ M f x=some n->Cv g tf x (Gz 10#4 (JZ M f) n x)=0
 |0,x,e=>by
  unfold JZ at e
  split at e
  ·rename_i hx
   have z:=w.zero x hx 29#2;exact cQ.mp z
  ·cases e
 |n+1,x,e=>by
  obtain⟨y,hy,ey⟩:=w.down' x n e;obtain⟨z,h1,h2,h3,h4,_⟩:=Tc hy ey;show Cv g tf x (((Fw 10#4 (JZ M f) n x:Nat):Int)::Gz 10#4 (JZ M f) n ((BH g tf x).getD (Fw 10#4 (JZ M f) n x) 0))=0
  have ez:B6 g.toNat tf (1#2/0#7) x ((Fw 10#4 (JZ M f) n x:Nat):Int)=z:=by rw[<-h3];rw[EK]at h4;show _=((List.range 0#7).map λs:Nat=>B6 g.toNat tf (1#2/0#7) x (s:Int)).getD _ 0;rw[AS h4]
  rw[RC,ez,h3];exact KE w n z h2
theorem RD{x:Int}(c:FJ [DT g tf] 10#4 x):∃u,(∀n∈u,0<=n/\n<g)/\Cv g tf (DT g tf) u=x:=by
 induction c with
 |base h=>exact⟨[],λn hn=>qG hn cn,by rw[cQ.mp h];rfl⟩
 |step _ h ih =>
  obtain⟨u,hu,e⟩:=ih;obtain⟨s,hs,es⟩:=KD.mp h;refine⟨u++[(s:Int)],λn hn=>?_,?_⟩
  ·rcases cV.mp hn with z|z
   ·exact hu n z
   ·rw[cQ.mp z];lia
  ·unfold Cv at *;rw[gu,e,es];rfl
theorem Vk(g2:2<=g)(h0:0<1#2/0#7)(rA:Es [DT g tf] 10#4 A)(w:ET A 10#4 [0] M f){x:Int}(hx:x∈A):x∉M↔ag g tf:=by
 obtain⟨u,hu,e⟩:=RD (rA.co x hx)
 have ap:∀row,Cv g tf x row=Cv g tf (DT g tf) (u++row):=λrow=>by unfold Cv at *;rw[gu,e]
 constructor
 ·intro h row hr;have z:=EG g.toNat tf row;apply Decidable.byContradiction;intro y;refine h (Mh rA.cl w row x hx hr ?_).1;rw[ap,Fx g2];have v:=EG g.toNat tf (u++row);apply Decidable.byContradiction;intro q;exact y (Td h0 (r:=u) 0#0)
 ·intro h m;have e:JZ M f x=some (f x):=by unfold JZ;rw[qF m]
  obtain⟨_,low⟩:=J3 (G:=0#7) (λx=>EK g tf x) w.down' _ _ e;have z:=KE w _ _ e;rw[ap,Fx g2]at z
  have:=h (u++Gz 10#4 (JZ M f) (f x) x) (λn hn=>by
   rcases cV.mp hn with y|y
   ·exact hu n y
   ·have:=low n y;lia)
  lia
end
theorem Mi:∀{A:qX} {vs:List V},4#5=4#0->(Ax A vs).map (·.1)=A.map Sum.inl
 |[],[],_=>rfl
 |a::A,v::vs,h=>by show Sum.inl a::(Ax A vs).map (·.1)=Sum.inl a::A.map Sum.inl;rw[Mi (by simpa using h)]
 |[],_::_,h=>by simp at h
 |_::_,[],h=>by simp at h
theorem Vl{M:qX}{f:Int->Nat}(nd:M.Nodup)(x:Int):(BV (EU M f) (Sum.inl x)).getD .non=Y5 (JZ M f x):=by
 rw[Ta nd];unfold JZ
 split<;>rfl
theorem UH(g lo:Int)(j3:qX)(m:Nat)(x:Int->Int)(k:Int):DM g lo j3 m (λz=>x (z+k))=DM g (lo+k) j3 m x:=by
 unfold DM BI
 congr 4
 funext j
 show x (lo+(j:Int)+k)=x (lo+k+(j:Int))
 congr 1
 lia
section
variable(hg:2<=g){ta tb:qX}{ma mb:Nat}
include hg
theorem X4{la:Int}(ba:∀n∈ta,0<=n/\n<g)(x:Int->Int):NA g λz=>DM g la ta ma λy=>x (z+y):=λz=>Bx hg ba _
theorem UI(hla:(ta.length:Int)=g^ma)(hlb:(2#6:Int)=g^mb)(h1:1<=ma)(h2:1<=mb)(ba:∀n∈ta,0<=n/\n<g){row:qX}(h':1<=Cs g.toNat (B1 g ta ma tb (ma+mb-1)) row):1<=Cs g.toNat tb row:=by obtain⟨x,hx,q⟩:=(CM hg (0+0) (B4 hg ta ma tb (ma+mb-1)) 0#0).mp h';refine (CM hg 0 hlb h2).mpr ⟨_,X4 hg (la:=0) (ma:=ma) ba x,λk hk=>?_⟩;rw[<-q k hk,show (0:Int)+0+(k:Int)=0+(0+(k:Int)) by lia,Fs hg 0 (0+(k:Int)) ta tb h1 h2 hx]
theorem UJ{l:Int}{x y:Int->Int}(h:∀z,l<=z->z<l+(ma:Int)->x z=y z):DM g l ta ma x=DM g l ta ma y:=by
 unfold DM
 have e:BI x l ma=BI y l ma:=by
  unfold BI;refine dc λj hj=>h _ 0#0 ?_
  have:=dE.mp hj;lia
 rw[e]
theorem Vm(hla:(ta.length:Int)=g^ma)(hlb:(2#6:Int)=g^mb)(h1:1<=ma)(h2:1<=mb)(on:ag g ta){row:qX}(h':1<=Cs g.toNat tb row):1<=Cs g.toNat (B1 g ta ma tb (ma+mb-1)) row:=by
 obtain⟨y,hy,q⟩:=(CM hg 0 hlb h2).mp h';obtain⟨x,hx,p⟩:=(CM hg 0 hla h1).mp (on (BI y 0 (11#1+mb)) (CW hy _ _));refine (CM hg (0+0) (B4 hg ta ma tb (ma+mb-1)) 0#0).mpr ⟨x,hx,λk hk=>?_⟩;rw[show (0:Int)+0+(k:Int)=0+(0+(k:Int)) by lia,Fs hg 0 (0+(k:Int)) ta tb h1 h2 hx,<-q k hk];refine UJ hg λz z1 z2=>?_;rw[As]at p;have e:=p z.toNat 0#0
 have f:DM g 0 ta ma (λu=>x (z+u))=DM g (0+z) ta ma x:=by
  have:=UH g 0 ta ma x z;rw[<-this]
  congr 1
  funext u
  rw[gZ]
 rw[f,show (0:Int)+z=0+((z.toNat:Nat):Int) by lia,e];unfold BI;rw[AS 0#0]
 congr 1
 lia
end
noncomputable def NC(G:Nat)(tf:qX)(h1:Nat)(tb:qX)(p:qY):List (qY):=(C1 G tf h1 tb p).map (·.2)
inductive Mk(P:qU)(w:qV)(K:qW)(pos:Pos)(Pt:qS)(vs:List V)(H:Hp)(Q:VK)(z3_:XK):Prop
 |m(a b:qS)(g lf:Int)(tf:qX)(mf:Nat)(lb:Int)(tb:qX)(mb:Nat):vs=[.ref a,.ref b]->Aa H a g lf tf mf->A5 g lf tf mf lf tf mf->g^(mf-1)<=9->Aa H b g lb tb mb->A5 g lb tb mb lb tb mb->g^(mb-1)<=9->Au pos (DD "pairs_reached") Pt H->(∀d H' ls A,Bk Pt H H'->Au pos (DD "pairs_reached") Pt H'->H d=none->(∀l∈ls,H l=none)->DW P w K H' d 20#5->EV K H' ls A (NC g.toNat tf (1#2/0#7) tb)->Es (Bq (1#2/0#7) (2#6/0#7)) (NC g.toNat tf (1#2/0#7) tb) A->(∀a∈A,Gb (2#6/0#7) (2^(1#2/0#7)) a)->Q 2#3 H')->Mk P w K pos Pt vs H Q z3_
theorem OH{K:qW}{D:qS}{Q:VK}(Pv:Nat->List V->Hp->Prop)(h0:Pv 0 [] (AU H D (.lst [])))(hl:∀i j6 H,i<=1#3->Pv i j6 H->Ad K H a xs)(hs:∀i x j6 H2,xs[i]?=some x->Pv i j6 H2->∃(t:qS) (v1 v2:V),x=.ref t/\Ai K H2 t [v1,v2]/\tt (some v1::some v2::σf) H2 λb H4=>if b=true then te (some v1::some v2::σf) H4 λy H5=>H5 D=some 4#8/\25#0<sizeLine/\Pv (i+1) (j6++[y]) (AU H5 D (.lst (j6++[y]))) else Pv (i+1) j6 H4)(hd:∀j6 H2,Pv xs.length j6 H2->Q 2#7 H2):GY K (XA K a) tt te σf D Q H:=by
 refine⟨λk i j6 H=>k=1#3-i/\i<=1#3/\Pv i j6 H,⟨1#3,by simp,Nat.zero_le _,h0⟩,?_⟩;rintro k i j6 H2 ⟨rfl,hi,p⟩;have q1:=hl i j6 H2 hi p
 by_cases hlt:i<xs.length
 ·refine .inr ⟨⟨xs,xs[i],q1,by simp[hlt]⟩,Pv (i+1),λl H' p'=>⟨1#3-(i+1),by lia,rfl,hlt,p'⟩,λv H' y=>?_⟩;obtain⟨rfl,y⟩:=y;exact hs i v j6 _ (y xs q1) p
 ·have e:i=1#3:=by lia
  subst e;exact .inl ⟨⟨xs,q1,cU _⟩,hd j6 H2 p⟩
theorem Hk(G:Nat)(tf:qX)(h1:Nat)(tb:qX)(p:qY):(NC G tf h1 tb p).length=G:=by unfold NC C1;rw[3#0,3#0,4#4]
theorem Pb(g9:g<=9)(tf:qX){tb:qX}(hb:0<2#6/0#7):Ze (2#6/0#7) (2^(1#2/0#7)) (NC g.toNat tf (1#2/0#7) tb):=λx _=>by
 refine⟨by rw[Hk];lia,λy hy=>?_⟩;unfold NC C1 at hy;rw[fI]at hy;obtain⟨s,_,rfl⟩:=c6.mp hy;refine⟨eW _ hb,?_⟩;show (B6 g.toNat tf (1#2/0#7) (x.2:Int) (tb.getD (x.1*0#7+s) 0)).toNat<2^(1#2/0#7);have z:=(EI (1#2/0#7) (DO g.toNat tf (1#2/0#7) (x.2:Int) (tb.getD (x.1*0#7+s) 0) (1#2/0#7))).2;have z2:B6 g.toNat tf (1#2/0#7) (x.2:Int) (tb.getD (x.1*0#7+s) 0)<((2^(1#2/0#7):Nat):Int):=by rw[gq];exact z
 have:0<2^(1#2/0#7):=Nat.two_pow_pos _;lia
theorem KG{h1 h2:Nat}:∀s∈Bq h1 h2,Gb h2 (2^h1) s:=λs hs=>by unfold Bq at hs;obtain⟨n,hn,rfl⟩:=c6.mp hs;exact⟨dE.mp hn,Nat.sub_lt (Nat.two_pow_pos _) 0#1⟩
theorem Gf(h1 h2:Nat):(Bq h1 h2).length=h2:=by unfold Bq;rw[3#0,4#4]
theorem Ai.sameT{K:qW}{P:qS}(e:Bk P H H')(t:Au pos q P H)(h:Ai K H a xs):Ai K H' a xs:=
 h.imp (λz=>z.imp (λz=>e.get t z (λ_ y=>by cases y)) λ⟨o,z⟩=>⟨o,e.get t z (λ_ y=>by cases y)⟩) id
theorem Kx{K:qW}{cl:List (Str×qS)}{vs:List V}(ck:Ca cl vs H)(q:Ai K H a xs):Ai K (Ft cl H) a xs:=
 q.imp (λz=>z.imp (λz=>by rw[BR λm=>by obtain⟨_,_,_,y⟩:=ck.at m;rw[y]at z;cases z];exact z) λ⟨o,z⟩=>⟨o,by rw[BR λm=>by obtain⟨_,_,_,y⟩:=ck.at m;rw[y]at z;cases z];exact z⟩) id
noncomputable def F6(G:Nat)(tf:qX)(h1:Nat)(tb:qX)(M:List (qY))(f:qY->Nat)(n:Nat)(x:qY):List (Nat×(qY)):=(C1 G tf h1 tb x).filter λs=>decide (s.2∈M/\f s.2=n)
inductive Ml(P:qU)(w:qV)(K:qW)(vs:List V)(H:Hp)(Q:VK)(z3_:XK):Prop
 |m(a b l c:qS)(g lf:Int)(tf:qX)(mf:Nat)(lb:Int)(tb:qX)(mb:Nat)(u:HO)(M:List (qY))(f:qY->Nat)(ps:List qS)(L:List (qY))(n:Nat):vs=[.ref a,.ref b,.ref l,.ref c,.int (n:Int)]->Aa H a g lf tf mf->A5 g lf tf mf lf tf mf->g^(mf-1)<=9->Aa H b g lb tb mb->A5 g lb tb mb lb tb mb->g^(mb-1)<=9->DR P w K H l u (Iz M f)->M.Nodup->Ad K H c 3#1->B9 K H ps L->L.length<=4608->(∀x∈L,x.1<2#6/0#7)->(∀D ts H',AF H H'->H D=none->H' D=some 20#7->Kr K H' ts (L.flatMap (F6 g.toNat tf (1#2/0#7) tb M f n))->Q 2#7 H')->Ml P w K vs H Q z3_
theorem Hl(G:Nat)(tf:qX)(h1:Nat)(tb:qX)(M:List (qY))(f:qY->Nat)(n:Nat):∀L:List (qY),(L.flatMap (F6 G tf h1 tb M f n)).length<=L.length*G
 |[]=>by simp
 |x::L=>by
  have ih:=Hl G tf h1 tb M f n L
  have z:(F6 G tf h1 tb M f n x).length<=G:=by unfold F6;refine dO (fN ..) ?_;unfold C1;rw[cO,cw];exact cU _
  rw[fx,cR,dU,gW];lia
noncomputable def Wg(G:Nat)(tf:qX)(h1:Nat)(tb:qX):qX->qY->qY->Prop
 |[],x,y=>x=y
 |s::r,x,y=>∃(n:Nat) (z:qY),s=(n:Int)/\(n,z)∈C1 G tf h1 tb x/\Wg G tf h1 tb r z y
section
variable{h1:Nat}{tb:qX}
theorem Mn{n:Nat}{y z:qY}(h:(n,z)∈C1 G tf h1 tb y):∀{r:qX} {x:qY},Wg G tf h1 tb r x y->Wg G tf h1 tb (r++[(n:Int)]) x z
 |[],x,e=>by obtain rfl:x=y:=e;exact⟨n,z,rfl,h,rfl⟩
 |s::r,x,e=>by obtain⟨k,v,e1,e2,e3⟩:=e;exact⟨k,v,e1,e2,Mn h e3⟩
theorem Ky{n:Nat}{x z:qY}:(n,z)∈C1 G tf h1 tb x↔∃j,j<G/\n=(tb.getD (x.1*G+j) 0).toNat/\z=((x.1*G+j)%(2#6/G),(B6 G tf h1 (x.2:Int) (tb.getD (x.1*G+j) 0)).toNat):=by
 unfold C1;rw[c6];constructor
 ·rintro⟨j,hj,e⟩;cases e;exact⟨j,dE.mp hj,rfl,rfl⟩
 ·rintro⟨j,hj,rfl,rfl⟩;exact⟨j,dE.mpr hj,rfl⟩
end
section
variable{tb:qX}
theorem Kz(g2:2<=g)(hb:∀n∈tb,0<=n/\n<g):∀{r:qX} {x y:qY},Wg g.toNat tf (1#2/0#7) tb r x y->1<=E4 g.toNat tb r x.1/\(y.2:Int)=Cv g tf (x.2:Int) r
 |[],x,y,e=>by obtain rfl:x=y:=e;exact⟨gJ _,rfl⟩
 |s::r,x,y,e=>by
  obtain⟨n,z,rfl,e2,e3⟩:=e;obtain⟨j,hj,rfl,rfl⟩:=Ky.mp e2;obtain⟨i1,i2⟩:=Kz g2 hb e3;obtain⟨s0,s1⟩:=Bx g2 hb (x.1*0#7+j);have en:(((tb.getD (x.1*0#7+j) 0).toNat:Nat):Int)=tb.getD (x.1*0#7+j) 0:=by lia
  rw[en];constructor
  ·have z:=E3 (n:=0#7) (f:=λk=>Fm (decide (tb.getD (x.1*0#7+k) 0=tb.getD (x.1*0#7+j) 0)) (E4 g.toNat tb r ((x.1*0#7+k)%(2#6/0#7)))) (λk _=>EF (Bo ..)) hj;rw[qH rfl]at z;exact fe i1 z
  ·rw[i2];have st0:0<=B6 g.toNat tf (1#2/0#7) (x.2:Int) (tb.getD (x.1*0#7+j) 0):=(EI _ _).1;show Cv g tf (((B6 g.toNat tf (1#2/0#7) (x.2:Int) (tb.getD (x.1*0#7+j) 0)).toNat:Nat):Int) r=Cv g tf (B6 g.toNat tf (1#2/0#7) (x.2:Int) (tb.getD (x.1*0#7+j) 0)) r;rw[dL st0]
theorem Pd(g2:2<=g)(hb:∀n∈tb,0<=n/\n<g):∀{r:qX} {x:qY},1<=E4 g.toNat tb r x.1->∃y,Wg g.toNat tf (1#2/0#7) tb r x y
 |[],x,_=>⟨x,rfl⟩
 |s::r,x,h=>by
  obtain⟨j,hj,e⟩:=Fy (show 1<=BO g.toNat λk=>Fm (decide (tb.getD (x.1*0#7+k) 0=s)) (E4 g.toNat tb r ((x.1*0#7+k)%(2#6/0#7))) from h);obtain⟨s0,s1⟩:=Bx g2 hb (x.1*0#7+j)
  by_cases z:tb.getD (x.1*g.toNat+j) 0=s
  ·rw[qH z]at e;obtain⟨y,hy⟩:=Pd g2 hb (r:=r) (x:=((x.1*0#7+j)%(2#6/0#7),(B6 g.toNat tf (1#2/0#7) (x.2:Int) (tb.getD (x.1*0#7+j) 0)).toNat)) e;exact⟨y,(tb.getD (x.1*0#7+j) 0).toNat,_,by lia,Ky.mpr ⟨j,hj,rfl,rfl⟩,hy⟩
  ·rw[qI z]at e;exact qG (show (1:Int)<=0 from e) 0#1
theorem UK{A E M:List (qY)}{f:qY->Nat}(cl:∀a∈A,∀b∈NC g.toNat tf (1#2/0#7) tb a,b∈A)(w:ET A (NC g.toNat tf (1#2/0#7) tb) E M f)(hE:∀x∈A,x.2=0->x∈E):∀{r:qX} {x y:qY},x∈A->Wg g.toNat tf (1#2/0#7) tb r x y->y.2=0->x∈M
 |[],x,y,hx,e,h0=>by obtain rfl:x=y:=e;exact (w.ends x (hE x hx h0)).1
 |s::r,x,y,hx,e,h0=>by obtain⟨n,z,_,e2,e3⟩:=e;have zF:z∈NC g.toNat tf (1#2/0#7) tb x:=c6.mpr ⟨_,e2,rfl⟩;exact (w.up x hx z zF (UK cl w hE (cl x hx z zF) e3 h0)).1
theorem OI(g2:2<=g)(hb:∀n∈tb,0<=n/\n<g){A E M:List (qY)}{f:qY->Nat}(rA:Es (Bq (1#2/0#7) (2#6/0#7)) (NC g.toNat tf (1#2/0#7) tb) A)(w:ET A (NC g.toNat tf (1#2/0#7) tb) E M f)(hE:∀x∈A,x.2=0->x∈E)(no:∀x∈Bq (1#2/0#7) (2#6/0#7),x∉M){row:qX}(h:1<=Cs g.toNat tb row):1<=Cs g.toNat tf row:=by
 obtain⟨u,hu,e⟩:=Fy h;have sm:(u,2^(1#2/0#7)-1)∈Bq (1#2/0#7) (2#6/0#7):=c6.mpr ⟨u,dE.mpr hu,rfl⟩;obtain⟨y,hy⟩:=Pd (tf:=tf) g2 hb (x:=(u,2^(1#2/0#7)-1)) e;have nn:=EG g.toNat tf row;rcases Int.lt_or_eq_of_le nn with z|z
 ·lia
 refine qG (UK rA.cl w hE (rA.st _ sm) hy ?_) (no _ sm);have z2:=(Kz g2 hb hy).2
 have ef:(((2^(1#2/0#7)-1:Nat)):Int)=DT g tf:=by
  have y1:1<=2^(1#2/0#7):=Nat.one_le_two_pow;have y2:(2:Int)^(1#2/0#7)=((2^(1#2/0#7):Nat):Int):=by rw[gq];rfl
  show _=(2:Int)^(1#2/0#7)-1;lia
 rw[ef,(Fx g2 row).mpr z.symm]at z2;lia
theorem OJ(g2:2<=g)(hb:∀n∈tb,0<=n/\n<g){row:qX}{x y:qY}(hx:x∈Bq (1#2/0#7) (2#6/0#7))(h:Wg g.toNat tf (1#2/0#7) tb row x y)(h0:y.2=0):1<=Cs g.toNat tb row/\Cs g.toNat tf row=0:=by
 obtain⟨u,hu,rfl⟩:=c6.mp hx;obtain⟨z1,z2⟩:=Kz g2 hb h;constructor
 ·exact fe z1 (E3 (λk _=>Bo ..) (dE.mp hu))
 ·have ef:(((2^(1#2/0#7)-1:Nat)):Int)=DT g tf:=by
   have y1:1<=2^(1#2/0#7):=Nat.one_le_two_pow;have y2:(2:Int)^(1#2/0#7)=((2^(1#2/0#7):Nat):Int):=by rw[gq];rfl
   show _=(2:Int)^(1#2/0#7)-1;lia
  rw[h0,ef]at z2;exact (Fx g2 row).mp z2.symm
end
noncomputable def Mo(y:qY):qX:=[(y.1:Int),(y.2:Int)]
noncomputable def UL(k:qX):qY:=((k.getD 0 0).toNat,(k.getD 1 0).toNat)
theorem KH(y:qY):UL (Mo y)=y:=rfl
noncomputable def X5(h N:Nat):List (qX):=(List.range h).flatMap λn=>(List.range N).map λs=>Mo (n,s)
theorem Pe(N:Nat):∀h:Nat,(X5 h N).length=h*N
 |0=>by rw[jM];rfl
 |h+1=>by have ih:=Pe N h;unfold X5 at ih⊢;rw[eR,28#5,cR,ih,iU,cO,cw,gW]
theorem Vn{h N:Nat}{y:qY}(b:Gb h N y):Mo y∈X5 h N:=i9.mpr ⟨y.1,dE.mpr b.1,c6.mpr ⟨y.2,dE.mpr b.2,rfl⟩⟩
theorem G7{F:α->β->Prop}{f:γ->α}{h:γ->β}:∀{l:List γ},(∀x∈l,F (f x) (h x))->Paired F (l.map f) (l.map h)
 |[],_=>.nil
 |_::_,z=>.cons (z _ ce) (G7 λx hx=>z x (cZ _ hx))
theorem X6{K:qW}{qs:List qS}{Y:List (qY)}(v:B9 K H qs Y):∃kl:List (qX×qS),qs.map 6#4=kl.map (λp=>V.ref p.2)/\(∀p∈kl,Ai K H p.2 (p.1.map 2#1)/\∃y∈Y,p.1=Mo y)/\∀y∈Y,∃p∈kl,p.1=Mo y:=by
 induction v with
 |nil=>exact⟨[],rfl,λp hp=>qG hp cn,λp hp=>qG hp cn⟩
 |cons h t ih =>
  rename_i q y qs Y
  obtain⟨kl,k1,k2,k3⟩:=ih;refine⟨(Mo y,q)::kl,by rw[dN,dN,k1],λp hp=>?_,λz hz=>?_⟩
  ·rcases dA.mp hp with e|e
   ·rw[e];exact⟨h,y,ce,rfl⟩
   ·obtain⟨h1,y',h2,h3⟩:=k2 p e;exact⟨h1,y',cZ _ h2,h3⟩
  ·rcases dA.mp hz with e|e
   ·exact⟨_,ce,by rw[e]⟩
   ·obtain⟨p,h1,h2⟩:=k3 z e;exact⟨p,cZ _ h1,h2⟩
theorem RE{Y:List (qY)}{bs:List (qX×qS)}(k2:∀p∈kl,∃y∈Y,p.1=Mo y)(k3:∀y∈Y,∃p∈kl,p.1=Mo y)(h1:∀p∈bs,p∈kl)(h2:∀p∈kl,∃q∈bs,q.1=p.1)(z:qY):z∈bs.map (λp=>UL p.1)↔z∈Y:=by
 rw[c6];constructor
 ·rintro⟨p,hp,rfl⟩;obtain⟨y,hy,e⟩:=k2 p (h1 p hp);rw[e,KH];exact hy
 ·intro hz;obtain⟨p,hp,e⟩:=k3 z hz;obtain⟨q,hq,e2⟩:=h2 p hp;exact⟨q,hq,by rw[e2,e,KH]⟩
structure Vo(g:Int)(tf tb:qX)(M:List (qY))(f:qY->Nat)(ws:qX)(L:List (qY))(n:Nat):Prop where
 go:∀x∈L,∃y∈Bq (1#2/0#7) (2#6/0#7),Wg g.toNat tf (1#2/0#7) tb ws y x
 bel:∀x∈L,Gb (2#6/0#7) (2^(1#2/0#7)) x
 one:∃x∈L,x∈M/\f x=n
 sg:∀n∈ws,0<=n/\n<g
section
variable{tb:qX}{M:List (qY)}{f:qY->Nat}{ws:qX}{n:Nat}
theorem K0{h1:Nat}{s:Nat×(qY)}{x:qY}:s∈F6 G tf h1 tb M f n x↔s∈C1 G tf h1 tb x/\s.2∈M/\f s.2=n:=by unfold F6;rw[dm,decide_eq_true_iff]
theorem Vo.some{A E:List (qY)}(fw:ET A (NC g.toNat tf (1#2/0#7) tb) E M f)(h:Vo g tf tb M f ws L (n+1)):L.flatMap (F6 g.toNat tf (1#2/0#7) tb M f n)≠[]:=λz=>by obtain⟨x,hx,hM,e⟩:=h.one;obtain⟨_,q,h1,h2,h3⟩:=fw.down x hM n e;obtain⟨s,hs,rfl⟩:=c6.mp h1;have y:s∈L.flatMap (F6 g.toNat tf (1#2/0#7) tb M f n):=i9.mpr ⟨x,hx,K0.mpr ⟨hs,h2,h3⟩⟩;rw[z]at y;exact qG y cn
theorem Vo.next(g2:2<=g)(g9:g<=9)(hb:∀n∈tb,0<=n/\n<g)(h0:0<2#6/0#7){m c:Nat}(h:Vo g tf tb M f ws L m){s0:Nat×(qY)}(hc:s0∈L.flatMap (F6 g.toNat tf (1#2/0#7) tb M f n))(ec:s0.1=c){L':List (qY)}(hL:∀z,z∈L'↔∃s∈L.flatMap (F6 g.toNat tf (1#2/0#7) tb M f n),s.1=c/\s.2=z):Vo g tf tb M f (ws++[(c:Int)]) L' n:=by
 have key:∀{z:qY},z∈L'->∃x∈L,(c,z)∈C1 g.toNat tf (1#2/0#7) tb x/\z∈M/\f z=n:=λ{z} hz=>by obtain⟨s,h1,h2,h3⟩:=(hL z).mp hz;obtain⟨x,hx,k⟩:=i9.mp h1;obtain⟨k1,k2,k3⟩:=K0.mp k;subst h2 h3;exact⟨x,hx,k1,k2,k3⟩
 refine⟨λz hz=>?_,λz hz=>?_,?_,λk hk=>?_⟩
 ·obtain⟨x,hx,k1,_⟩:=key hz;obtain⟨y,hy,k⟩:=h.go x hx;exact⟨y,hy,Mn k1 k⟩
 ·obtain⟨x,hx,k1,_⟩:=key hz;exact (Pb g9 tf h0 x (h.bel x hx)).2 z (c6.mpr ⟨_,k1,rfl⟩)
 ·have hz:=(hL s0.2).mpr ⟨s0,hc,ec,rfl⟩;obtain⟨_,_,_,k2,k3⟩:=key hz;exact⟨_,hz,k2,k3⟩
 ·rcases cV.mp hk with z|z
  ·exact h.sg k z
  ·rw[cQ.mp z];obtain⟨x,_,k⟩:=i9.mp hc;obtain⟨k1,_⟩:=K0.mp k;obtain⟨j,_,e,_⟩:=Ky.mp (show (s0.1,s0.2)∈_ from k1);obtain⟨s1,s2⟩:=Bx g2 hb (x.1*0#7+j);lia
end
theorem X7{a b:Expr}{ta tb:TE}{op:Operator}{r:R2}(ho:E9 X (binaryOp op) r)(ha:Om X a ta)(hb:Om X b tb):Om X (.BinOp a op b pos) 18#1:=.of (AL ho ha.out hb.out)
theorem DR.notAny{P:qU}{w:qV}{K:qW}{u:HO}(r:DR P w K H d u kvs):H d=some u/\(∀ps,u≠.tbl ps)/\∀o,u≠.frz o CP:=by
 obtain⟨bs,h1,h2,_⟩:=r;refine⟨h1,λps z=>?_,λo z=>?_⟩
 ·rcases h2 with y|⟨o,y⟩<;>(rw[y]at z;cases z)
 ·rcases h2 with y|⟨o',y⟩
  ·rw[y]at z;cases z
  ·rw[y]at z
   injection z with _ z
   injection z with z
   obtain⟨_,_,xs,_,ob,_,_,k,_⟩:Uc P w d bs ({}:Heap):=by rw[z];trivial
   cases k
theorem K1{L:List α}{a:α}{p:α->Bool}(h:L[i]?=some a):(L.take (i+1)).filter p=(L.take i).filter p++(if p a=true then[a] else[]):=by
 rw[d7,h,fP]
 congr 1
 show[a].filter p=_
 by_cases z:p a=true
 ·rw[qF z,List.filter_cons_of_pos z];rfl
 ·rw[qE z,List.filter_cons_of_neg z];rfl
inductive KI(CT:qS)(pos:Pos)(Pt:qS)(vs:List V)(H:Hp)(Q:VK)(E:XK):Prop
 |m(a b:qS)(g lo:Int)(j3:qX)(m:Nat)(lf:Int)(tf:qX)(mf:Nat)(lo':Int)(tab':qX)(m':Nat)(lb:Int)(tb:qX)(mb:Nat):vs=[.ref a,.ref b]->Aa H a g lo j3 m->A5 g lo j3 m lf tf mf->Aa H b g lo' tab' m'->A5 g lo' tab' m' lb tb mb->Au pos (DD "pairs_reached") Pt H->(g^(mf-1)<=9->g^(mb-1)<=9->((∀row,1<=Cs g.toNat tb row->1<=Cs g.toNat tf row)->∀H',Bk Pt H H'->Au pos (DD "pairs_reached") Pt H'->Q .non H')/\∀D ws H',Bk Pt H H'->Au pos (DD "pairs_reached") Pt H'->H D=none->H' D=some 20#8->(∀n∈ws,0<=n/\n<g)->19#1<=4608->1<=Cs g.toNat tb ws->Cs g.toNat tf ws=0->Q 2#7 H')->(9<g^(mf-1)\/9<g^(mb-1)->∀H',AF H H'->E 25#8 none H')->KI CT pos Pt vs H Q E
end L2
namespace L2
open PySem PySem.Spec PyProof.Rows
variable{D:GC}{H:Hp}{X:Cx}{a:qS}{f:qR->qR->Sem qR}{g:Int}{i:Nat}{op:CmpOp}{pos:Pos}{j3:qX}{tl to:TE}{xs:List V}{α β:Type}{σ:St}
section
variable(K:qW)
theorem K6(h:X.K=K:=by rfl):WA X (Rb K):=h▸OW
theorem CQ(h:X.K=K:=by rfl):WA X (Uk K):=h▸Rc
theorem F7(h:X.K=K:=by rfl):Df X (.builtin "len") (λxs H Q=>∃p ys,xs=[V.ref p]/\(Ad K H p ys\/Ai K H p ys)/\Q (.int ((19#0:Nat):Int)) H):=h▸KS
theorem JF{tg l:Expr}(hl:PE X l tl)(h:X.K=K:=by rfl):PI X tg l (V5 K tl):=h▸Ug hl
theorem X8{o e:Expr}{t:TA}{apos cpos:Pos}(ho:PE X o to)(ha:PA X [e] t)(hK:X.K=K:=by rfl)(hbase:attributeBase o "append" X.env 14#7=eval o 1#6:=by rfl)(hfew:((backTo cpos (starEach [e] 1#6)).all (λx=>!x.1)&&(backToKw cpos (keywordEach [] 1#6)).all (λx=>x.1.isSome)&&decide (([e]:List Expr).length+([]:List Keyword).length+(if ([]:List Keyword).isEmpty then 0 else 1)<30))=true:=by rfl)(hline:(17#4==28#4)=true:=by rfl)(hs:starEach [e] 1#6=(false,eval e 1#6)::starEach [] 1#6:=by rfl)(hplain:(backTo cpos (starEach [] 1#6)).any (·.1)=false:=by rfl):
  PE X (.Call (.Attribute o "append" apos) [e] [] cpos) (ax K "list" KU to t):=by
 subst hK;exact Gh eP PySem.F.slot_list_append PySem.F.type_list_append GJ ho ha hbase hfew hline hs hplain
end
theorem B2{t u:TS}(Z:St->Hp->Prop)(h1:∀N:St->Hp->Prop,(∀σ' H',Z σ' H'->N σ' H')->t {D with nx:=N} σ H)(h2:∀G:St->Hp->Prop,(∀σ H,u D σ H->G σ H)->∀σ' H',Z σ' H'->G σ' H'):P6 t u D σ H:=cL Z h1 (h2 _ λ_ _ z=>z)
variable{Pv:Nat->St->Hp->Prop}
theorem G8{g:TG}{tb:TS}{R:VK}{B0:St->Hp->Prop}(h:∀(C B:St->Hp->Prop) i x,∀G:St->Hp->Prop,(∀σ H,(g x σ H λσ2 H2=>tb {nx:=Pv (i+1),rt:=R,bk:=B,ct:=C} σ2 H2)->G σ H)->∀σ H,xs[i]?=some x->Pv i σ H->G σ H):
  ∀i x σ H,xs[i]?=some x->Pv i σ H->g x σ H λσ2 H2=>tb {nx:=Pv (i+1),rt:=R,bk:=B0,ct:=Pv (i+1)} σ2 H2:=λi x σ H hx p=>h _ _ i x _ (λ_ _ z=>z) σ H hx p
theorem F8{n:Nat}{f:Nat->V}{g:TG}{tb:TS}{R:VK}{B0:St->Hp->Prop}(h:∀(C B:St->Hp->Prop) i,∀G:St->Hp->Prop,(∀σ H,(g (f i) σ H λσ2 H2=>tb {nx:=Pv (i+1),rt:=R,bk:=B,ct:=C} σ2 H2)->G σ H)->∀σ H,i<n->Pv i σ H->G σ H):
  ∀i σ H,i<n->Pv i σ H->g (f i) σ H λσ2 H2=>tb {nx:=Pv (i+1),rt:=R,bk:=B0,ct:=Pv (i+1)} σ2 H2:=λi σ H hx p=>h _ _ i _ (λ_ _ z=>z) σ H hx p
theorem DE{A:Nat->V->α->β->Prop}{c:Nat->V->Prop}{Pv:Nat->α->β->Prop}(h:∀i x,∀G:α->β->Prop,(∀a b,A i x a b->G a b)->∀a b,c i x->Pv i a b->G a b):∀i x a b,c i x->Pv i a b->A i x a b:=λi x a b hc p=>h i x _ (λ_ _ z=>z) a b hc p
theorem Dc{A:Nat->α->β->Prop}{c:Nat->Prop}{Pv:Nat->α->β->Prop}(h:∀i,∀G:α->β->Prop,(∀a b,A i a b->G a b)->∀a b,c i->Pv i a b->G a b):∀i a b,c i->Pv i a b->A i a b:=λi a b hc p=>h i _ (λ_ _ z=>z) a b hc p
theorem A6.el{r:qS}{lo:Int}{P:Prop}(h:A6 H r g lo j3)(k:∀tb,H r=some (.tup [.int g,.int lo,.ref tb])->H tb=some (.tup 12#3)->P):P:=by obtain⟨tb,h1,h2⟩:=h;exact k tb h1 h2
theorem Jc{K:qW}{i:Int}{v:V}{Q:VK}(h:Ad K H a xs)(hi:LG xs i=some v)(q:Q v H):Rb K 2#0 9#3 H Q:=⟨a,xs,i,v,rfl,rfl,h,hi,q⟩
theorem Ci{K:qW}{i:Int}{v:V}{Q:VK}(h:Ai K H a xs)(hi:LG xs i=some v)(q:Q v H):Uk K 2#0 9#3 H Q:=⟨a,xs,i,v,rfl,rfl,h,hi,q⟩
theorem Dt(hg:2<=g)(lo:Int){m:Nat}{P:Prop}(k:∀lf tf mf,A5 g lo j3 m lf tf mf->P):P:=by obtain⟨lf,tf,mf,fw⟩:=Su hg lo (j3:=j3) (m:=m);exact k lf tf mf fw
theorem OK{A:Nat->St->Hp->Prop}(h:∀m,∀G:St->Hp->Prop,(∀σ H,A m σ H->G σ H)->∀σ H,Pv m σ H->G σ H):∀m σ H,Pv m σ H->A m σ H:=λm σ H p=>h m _ (λ_ _ z=>z) σ H p
def Pg(i:Nat):TE:=λσ H Q=>match σ[i]? with|some (some v)=>Q v H|_=>False
theorem UM{Q:VK}(h:Pg i σ H Q):RN i σ H Q:=by
 unfold Pg at h;cases e:σ[i]? with
 |none=>rw[e]at h;exact h.elim
 |some o =>
  cases o with
  |none=>rw[e]at h;exact h.elim
  |some v=>rw[e]at h;exact⟨v,e,h⟩
theorem Ac(i:Nat){x:Str}{pos:Pos}(hN:X.N[i]?=some x:=by rfl)(hv:Y8 X.env.scope x:=by first|exact Or.inl rfl|exact Or.inr 4#6|exact Or.inr 27#2)(hd:(x==("__debug__":Str))=false:=by decide)(hcd:(x==("__classdict__":Str))=false:=by decide):PE X 9#4 (Pg i):=λad s σ H Q I h=>RO hN hv hd hcd ad s σ H Q I (UM h)
def Zj(g:Int->Int->V):R2:=λx y H Q=>match x,y with|.int i,.int j=>Q 23#6 H|_,_=>False
def cI(C:Int->Int->Prop)(g:Int->Int->V):R2:=λx y H Q=>match x,y with|.int i,.int j=>C i j/\Q 23#6 H|_,_=>False
theorem EY{g:Int->Int->V}(h:E9 X f (RH g)):E9 X f (Zj g):=λad s σ H x y v u Q I r1 r2 q=>h ad s σ H x y v u Q I r1 r2 (by
 cases x with
 |int i =>
  cases y with
  |int j=>exact⟨i,j,rfl,rfl,q⟩
  |_=>exact q.elim
 |_=>exact q.elim)
theorem Jd{C:Int->Int->Prop}{g:Int->Int->V}(h:E9 X f (rI C g)):E9 X f (cI C g):=λad s σ H x y v u Q I r1 r2 q=>h ad s σ H x y v u Q I r1 r2 (by
 cases x with
 |int i =>
  cases y with
  |int j=>exact⟨i,j,rfl,rfl,q⟩
  |_=>exact q.elim
 |_=>exact q.elim)
def Zk(x:V)(P:Bool->Prop):Prop:=match x with|.bl k=>P k|_=>False
theorem X9{x:V}{P:Bool->Prop}(h:Zk x P):∃k,x=.bl k/\P k:=by
 cases x with
 |bl k=>exact⟨k,rfl,h⟩
 |_=>exact h.elim
def UN(r:R2)(ta tb:TE):TT:=λσ H Q=>ta σ H λx H1=>tb σ H1 λy H2=>r x y H2 λz H3=>Zk z λk=>Q k H3
theorem Av{a b:Expr}{ta tb:TE}{r:R2}(ho:E9 X (compareOp op) r)(ha:PE X a ta)(hb:PE X b tb)(hm:behindInMarks op b=false):PT X (.Compare a [op] [b] pos) (UN r ta tb):=by intro ad s σ H Q I h;refine wpAny_isTrue_Compare1 (BB (ha ad s σ H _ I h) λv s1 h1=>?_) hm;obtain⟨x,H1,I1,r1,q1⟩:=h1;refine BB (hb ad s1 σ H1 _ I1 q1) λu s2 h2=>?_;obtain⟨y,H2,I2,r2,q2⟩:=h2;refine BB (ho ad s2 σ H2 x y v u _ I2 r1 r2 q2) λc s3 h3=>?_;obtain⟨z,H3,I3,r3,q3⟩:=h3;obtain⟨k,rfl,q3⟩:=X9 q3;cases r3;exact wpAny_truthy_bool ⟨H3,I3,q3⟩
def Vp(x:V)(P:qS->Prop):Prop:=match x with|.ref p=>P p|_=>False
theorem Ph{x:V}{P:qS->Prop}(h:Vp x P):∃p,x=.ref p/\P p:=by
 cases x with
 |ref p=>exact⟨p,rfl,h⟩
 |_=>exact h.elim
def Vq(vs:List V)(P:V->Prop):Prop:=match vs with|[y]=>P y|_=>False
theorem Pi{vs:List V}{P:V->Prop}(h:Vq vs P):∃y,vs=[y]/\P y:=by
 cases vs with
 |nil=>exact h.elim
 |cons y vs =>
  cases vs with
  |nil=>exact⟨y,rfl,h⟩
  |cons _ _=>exact h.elim
theorem OL(K:qW)(h:X.K=K:=by rfl):Df X (.builtin "len") (λxs H Q=>Vq xs λx=>Vp x λp=>∃ys,(Ad K H p ys\/Ai K H p ys)/\Q (.int ((19#0:Nat):Int)) H):=λad s σ H xs us Q I r q=>F7 K h ad s σ H xs us Q I r (by obtain⟨x,rfl,q⟩:=Pi q;obtain⟨p,rfl,ys,q1,q2⟩:=Ph q;exact⟨p,ys,rfl,q1,q2⟩)
def Wh(K:qW)(to:TE)(t:TA):TE:=λσ H Q=>to σ H λx H1=>Vp x λp=>(∃xs,Ad K H1 p xs)/\t σ H1 λvs H2=>Vq vs λy=>∃xs,H2 p=some 3#2/\1#3<sizeLine/\Q .non (AU H2 p (.lst (xs++[y])))
theorem PE.up{e:Expr}{t:TE}(h:PE X e t):PE X e (λσ H Q=>∃Q0:VK,t σ H Q0/\∀x H,Q0 x H->Q x H):=λad s σ H Q I hq=>by obtain⟨Q0,h1,h2⟩:=hq;refine BB (h ad s σ H Q0 I h1) λv s1 h3=>?_;obtain⟨x,H1,I1,r1,q1⟩:=h3;exact⟨x,H1,I1,r1,h2 x H1 q1⟩
theorem PA.up{es:List Expr}{t:TA}(h:PA X es t):PA X es (λσ H Q=>∃Q0:List V->Hp->Prop,t σ H Q0/\∀x H,Q0 x H->Q x H):=λp ad s σ H Q I hq=>by obtain⟨Q0,h1,h2⟩:=hq;refine BB (h p ad s σ H Q0 I h1) λv s1 h3=>?_;obtain⟨x,H1,I1,r1,q1⟩:=h3;exact⟨x,H1,I1,r1,h2 x H1 q1⟩
theorem Mp(K:qW){o e:Expr}{t:TA}{apos cpos:Pos}(ho:PE X o to)(ha:PA X [e] t)(hK:X.K=K:=by rfl)(hbase:attributeBase o "append" X.env 14#7=eval o 1#6:=by rfl)(hfew:((backTo cpos (starEach [e] 1#6)).all (λx=>!x.1)&&(backToKw cpos (keywordEach [] 1#6)).all (λx=>x.1.isSome)&&decide (([e]:List Expr).length+([]:List Keyword).length+(if ([]:List Keyword).isEmpty then 0 else 1)<30))=true:=by rfl)(hline:(17#4==28#4)=true:=by rfl)(hs:starEach [e] 1#6=(false,eval e 1#6)::starEach [] 1#6:=by rfl)(hplain:(backTo cpos (starEach [] 1#6)).any (·.1)=false:=by rfl):
  PE X (.Call (.Attribute o "append" apos) [e] [] cpos) (Wh K to t):=λad s σ H Q I h=>X8 K ho.up ha.up hK hbase hfew hline hs hplain ad s σ H Q I ⟨_,h,λx H1 q=>by obtain⟨p,rfl,q1,q2⟩:=Ph q;refine⟨.inl ⟨rfl,q1⟩,_,q2,λvs H2 q3=>?_⟩;obtain⟨y,rfl,xs,q4,q5,q6⟩:=Pi q3;exact⟨p,xs,y,rfl,rfl,q4,q5,q6⟩⟩
end L2
set_option hygiene false in
local macro_rules|`(tactic|walk_at "")=>`(tactic| ((try dsimp only[L2.Ry,L2.bC,L2.WC,L2.P6,L2.RQ,L2.W6,L2.ZM,L2.V7,L2.UY,L2.cC,L2.RN,L2.Pg,L2.Zj,L2.cI,L2.Zk,L2.UN,L2.Vp,L2.Vq,L2.Wh,L2.tC,L2.Rp,L2.EM,L2.JQ,L2.QD,L2.Ra,L2.JP,L2.C8,L2.V3,L2.ax,L2.aY,L2.KU,L2.ZD,L2.WB,L2.WO,L2.LV,L2.DA,Option.join_some,L2.ZJ,L2.Ka,L2.R9,L2.bD,L2.ZP,L2.ZA,L2.Y9,L2.b7,L2.tB,L2.V1,L2.ZB,L2.V2,L2.rI,L2.RH,L2.rU,L2.XR,L2.Rs,L2.cG,L2.V9,L2.HR,L2.Cm,L2.XC,L2.RU,L2.XD,L2.cD,L2.cE,L2.Cj,L2.Op,L2.Oq,L2.Oo,List.map_cons,List.map_nil,List.length_cons,List.length_nil,List.cons_append,List.nil_append,List.replicate,List.getElem?_cons_zero,List.getElem?_cons_succ,List.set_cons_zero,List.set_cons_succ,Nat.reduceAdd,Nat.reduceSub]);try simp only[L2.Ry,L2.WC,L2.WO,L2.DA,Option.join_some,L2.bD,L2.Rs,L2.Cm,L2.XC,L2.RU,L2.XD,L2.Cj,L2.Op,L2.Oq,L2.Oo,List.map_cons,List.map_nil,List.length_cons,List.length_nil,List.cons_append,List.nil_append,List.replicate,List.getElem?_cons_zero,List.getElem?_cons_succ,List.set_cons_zero,List.set_cons_succ,Nat.reduceAdd,Nat.reduceSub,Option.some.injEq,L2.V.int.injEq,L2.V.bl.injEq,L2.V.ref.injEq,L2.V.str.injEq,List.cons.injEq,and_true,true_and,exists_eq_left',exists_eq_left,exists_eq_right,exists_and_left,exists_and_right,exists_eq,and_assoc,if_true,if_false,reduceIte,reduceCtorEq,not_true_eq_false,not_false_eq_true,Bool.false_eq_true,Bool.not_true,Bool.not_false,decide_eq_true_eq,Bool.not_eq_true',decide_eq_false_iff_not]))
set_option hygiene false in
local macro_rules|`(tactic|symm)=>`(tactic|refine⟨rfl,λj8 A outer s hr=>?_⟩)
set_option hygiene false in
local macro_rules|`(tactic|nofun)=>`(tactic|(refine Ah λN hN=>?_;walk_at ""))
set_option hygiene false in
local macro_rules|`(tactic|ac_rfl)=>`(tactic|refine hGo _ _ ?_)
set_option hygiene false in
local macro_rules|`(tactic|ac_nf)=>`(tactic|walk_at "")
namespace K48
open PySem L2 RW
def CO(i:Nat):Stmt:=PySem.Challenge.pw_rowrules_k48_whole_rows_of_joined_rules.main.body.getD i (.Pass ⟨0,0,0,0⟩)
abbrev YA:Stmt:=CO 8
abbrev YB:Stmt:=CO 9
abbrev YC:Stmt:=CO 10
abbrev bP:Stmt:=CO 11
abbrev YD:Stmt:=CO 12
abbrev YE:Stmt:=CO 13
abbrev YF:Stmt:=CO 16
abbrev YG:Stmt:=CO 17
abbrev YH:Stmt:=CO 18
abbrev YI:Stmt:=CO 19
abbrev YJ:Stmt:=CO 20
abbrev YK:Stmt:=CO 21
abbrev YL:Stmt:=CO 22
abbrev YM:Stmt:=CO 23
abbrev YN:Stmt:=CO 24
abbrev YO:Stmt:=CO 26
abbrev YQ:Stmt:=CO 27
abbrev bQ:Stmt:=CO 28
abbrev YR:Stmt:=CO 29
abbrev YS:Stmt:=CO 30
abbrev YT:Stmt:=CO 31
abbrev YU:Stmt:=CO 34
abbrev YV:Stmt:=CO 35
abbrev YW:Stmt:=CO 36
abbrev YX:Stmt:=CO 37
abbrev YY:Stmt:=CO 38
abbrev YZ:Stmt:=CO 39
abbrev Ya:Stmt:=CO 41
abbrev Yb:Stmt:=CO 42
abbrev bR:Stmt:=CO 43
abbrev bS:Stmt:=CO 45
abbrev Yc:Stmt:=CO 46
abbrev Yd:Stmt:=CO 47
abbrev bT:Stmt:=CO 48
abbrev bU:Stmt:=CO 49
abbrev Ye:Stmt:=CO 50
abbrev Yf:Stmt:=CO 52
abbrev Yg:Stmt:=CO 53
abbrev Yh:Stmt:=CO 55
abbrev Yi:Stmt:=CO 56
abbrev Yj:Stmt:=CO 57
abbrev Yk:Stmt:=CO 59
abbrev bV:Stmt:=CO 41
abbrev bW:Stmt:=CO 61
abbrev bX:Stmt:=CO 42
abbrev bZ:Stmt:=CO 43
abbrev Yl:Stmt:=CO 62
abbrev Ym:Stmt:=CO 63
abbrev Yn:Stmt:=CO 65
abbrev be:Stmt:=CO 66
abbrev Yo:Stmt:=CO 67
abbrev Yp:Stmt:=CO 68
abbrev Yq:Stmt:=CO 69
abbrev Yr:Stmt:=CO 70
abbrev Ys:Stmt:=CO 71
abbrev Yt:Stmt:=CO 72
abbrev Yu:Stmt:=CO 73
abbrev bf:Stmt:=CO 74
abbrev bg:Stmt:=CO 75
abbrev Yv:Stmt:=CO 76
abbrev Yw:Stmt:=CO 77
abbrev Vr:Stmt:=CO 78
set_option genInjectivity false
def DX(K:qW)(mg:Str->Option qR)(x:Str)(st:Stmt)(f:qS):Prop:=mg x=some 6#1/\∃fd,M9 K x x st f fd
theorem dX{K:qW}{h:Heap}{mg:Str->Option qR}{x:Str}{st:Stmt}{f:qS}(X:K.In h)(G:h.Ns mainGlobals mg)(z:AW K x st f):DX K mg x st f:=⟨PySem.W.mg_of X G z.2,z.1⟩
structure Ue where
 (c_36 c_49 c_56 c_50 c_35 c_40:qS)(f_39 f_42 f_26 f_6 f_33 f_48 f_25 f_28 f_12 f_16 f_62 f_54 f_32 f_34 f_58 f_51 f_38 f_0 f_31 f_53 f_47 f_57 f_59 f_27 f_41 f_11 f_45 f_43 f_20 f_7 f_1 f_19 f_10 f_2 f_8 f_44 f_60 f_64 f_55 f_46 f_17 f_52 f_9 f_18 f_61 f_24 f_3 f_15 f_23 f_30 f_14 f_13 f_37 f_21 f_5 f_4 f_22 f_29 f_63:qS)(cc_9 p_9 cc_2 p_2:qS)
structure CI(K:qW)(mg:Str->Option qR)(t:Ue):Prop where
 m_36:mg "RowError"=some (.ref t.c_36)
 m_49:mg "NoRule"=some (.ref t.c_49)
 m_56:mg "NoRow"=some (.ref t.c_56)
 m_50:mg "NoSuch"=some (.ref t.c_50)
 m_35:mg "NoWindow"=some (.ref t.c_35)
 m_40:mg "TooWide"=some 24#6
 d_39:DX K mg "is_whole" YA t.f_39
 d_42:DX K mg "is_sign" YB t.f_42
 d_26:DX K mg "check_word" YC t.f_26
 d_6:DX K mg "check_length" bP t.f_6
 d_33:DX K mg "number_of" YD t.f_33
 d_48:DX K mg "word_of" YE t.f_48
 d_25:DX K mg "check_head" YF t.f_25
 d_28:DX K mg "places_for" YG t.f_28
 d_12:DX K mg "table_length" YH t.f_12
 d_16:DX K mg "check_table" YI t.f_16
 d_62:DX K mg "rule" YJ t.f_62
 d_54:DX K mg "places" YK t.f_54
 d_32:DX K mg "next_sign" YL t.f_32
 d_34:DX K mg "told_from" YM t.f_34
 d_58:DX K mg "heads" YN t.f_58
 d_51:DX K mg "counts" YO t.f_51
 d_38:DX K mg "counting" YQ t.f_38
 d_0:DX K mg "sign_or_nought" bQ t.f_0
 d_31:DX K mg "by_window" YR t.f_31
 d_53:DX K mg "narrow" YS t.f_53
 d_47:DX K mg "widened" YT t.f_47
 d_57:DX K mg "frame" YU t.f_57
 d_59:DX K mg "nodes" YV t.f_59
 d_27:DX K mg "everything" YW t.f_27
 d_41:DX K mg "ends_of" YX t.f_41
 d_11:DX K mg "single_steps" YY t.f_11
 d_45:DX K mg "step_by" YZ t.f_45
 d_43:DX K mg "reached" Ya t.f_43
 d_20:DX K mg "turned_back" Yb t.f_20
 d_7:DX K mg "fewest_steps" bR t.f_7
 d_1:DX K mg "check_as_many" bS t.f_1
 d_19:DX K mg "start_pairs" Yc t.f_19
 d_10:DX K mg "signed_steps" Yd t.f_10
 m_2:mg "pairs_reached"=some (.ref t.f_2)
 d_2:∃fd,VQ K "pairs_reached" "pairs_reached" bT t.f_2 t.cc_2 t.p_2 fd
 hd_2:PySem.W.codeHdIn K t.cc_2 t.p_2=true
 d_8:DX K mg "nearer_steps" bU t.f_8
 d_44:DX K mg "reaches" Ye t.f_44
 d_60:DX K mg "lead" Yf t.f_60
 d_64:DX K mg "led" Yg t.f_64
 d_55:DX K mg "shares" Yh t.f_55
 d_46:DX K mg "ways_on" Yi t.f_46
 d_17:DX K mg "many_before" Yj t.f_17
 d_52:DX K mg "joined" Yk t.f_52
 m_9:mg "sets_reached"=some (.ref t.f_9)
 d_9:∃fd,VQ K "sets_reached" "sets_reached" bW t.f_9 t.cc_9 t.p_9 fd
 hd_9:PySem.W.codeHdIn K t.cc_9 t.p_9=true
 d_18:DX K mg "reach_paper" Yl t.f_18
 d_61:DX K mg "onto" Ym t.f_61
 d_24:DX K mg "_law_whole" Yn t.f_24
 d_3:DX K mg "_law_cell_at" be t.f_3
 d_15:DX K mg "_law_stream" Yo t.f_15
 d_23:DX K mg "_law_power" Yp t.f_23
 d_30:DX K mg "_law_rule" Yq t.f_30
 d_14:DX K mg "_law_narrow" Yr t.f_14
 d_13:DX K mg "_law_behind" Ys t.f_13
 d_37:DX K mg "_law_led" Yt t.f_37
 d_21:DX K mg "_law_count" Yu t.f_21
 d_5:DX K mg "_law_refused" bf t.f_5
 d_4:DX K mg "_law_counted" bg t.f_4
 d_22:DX K mg "_law_lacks" Yv t.f_22
 d_29:DX K mg "_law_rows" Yw t.f_29
 d_63:DX K mg "law" Vr t.f_63
 z_len:mg "len"=none
 z_list:mg "list"=none
 z_reversed:mg "reversed"=none
 z_isinstance:mg "isinstance"=none
 z_range:mg "range"=none
 z_int:mg "int"=none
 z_bool:mg "bool"=none
 z_ValueError:mg "ValueError"=none
 z_tuple:mg "tuple"=none
 z_enumerate:mg "enumerate"=none
 z_min:mg "min"=none
 z_sum:mg "sum"=none
 z_sorted:mg "sorted"=none
 z_set:mg "set"=none
 g_LONGEST_TABLE:∃k,mg "LONGEST_TABLE"=some (.int 256 k)
 g_MOST_NODES:∃k,mg "MOST_NODES"=some (.int 9 k)
 x_40:PySem.W.excIn K t.c_40 XO "ValueError.__new__"=true
 ek_40:NO K t.c_40
 kt_40_40:PySem.W.kitOne K 24#6 24#6=some true
 kt_40_49:PySem.W.kitOne K 24#6 (.ref t.c_49)=some false
 em_40_36:PySem.W.exmOne K 24#6 (.ref t.c_36)=some true
 ne_2_9:t.p_2≠t.p_9
abbrev LP:Pos:=⟨278,41,278,113⟩
abbrev LQ:Pos:=⟨208,48,208,121⟩
inductive KJ(vs:List V)(H:Hp)(Q:VK)(z3_:XK):Prop
 |m(a b:qS)(g lo:Int)(j3:qX)(m:Nat)(lo':Int)(tab':qX)(m':Nat):vs=[.ref a,.ref b]->Aa H a g lo j3 m->Aa H b g lo' tab' m'->Q .non H->KJ vs H Q z3_
inductive Pj(K:qW)(vs:List V)(H:Hp)(Q:VK)(z3_:XK):Prop
 |m(r a:qS)(g lo:Int)(j3:qX)(m:Nat)(ns:qX):vs=[.ref r,.ref a]->Aa H r g lo j3 m->Ad K H a 1#5->1#4<=5000->(∀p H',AF H H'->H p=none->ZU H' p g.toNat j3 ns->Q 1#9 H')->Pj K vs H Q z3_
inductive Pk(K:qW)(vs:List V)(H:Hp)(Q:VK)(z3_:XK):Prop
 |m(r a:qS)(g lo:Int)(j3:qX)(m:Nat)(ns:qX):vs=[.ref r,.ref a]->Aa H r g lo j3 m->Ad K H a 1#5->(∀n∈ns,0<=n/\n<g)->1#4<=5000->(∀H',AF H H'->Q (.int (Cs g.toNat j3 ns)) H')->Pk K vs H Q z3_
inductive Pl(CT:qS)(vs:List V)(H:Hp)(Q:VK)(E:XK):Prop
 |m(r r':qS)(g lo:Int)(j3:qX)(m:Nat)(lo':Int)(tab':qX)(m':Nat)(low:Int)(M:Nat)(low':Int)(M':Nat):vs=[.ref r,.ref r']->Aa H r g lo j3 m->Aa H r' g lo' tab' m'->Bn g lo j3 m low M->Bn g lo' tab' m' low' M'->(256<g^(M+M'-1)->∀H',AF H H'->E 25#8 none H')->(g^(M+M'-1)<=256->∀(lj:Int) (Mj:Nat),Bn g (low+low') (B1 g 3#6 M 12#1 (M+M'-1)) (M+M'-1) lj Mj->∀rj H',AF H H'->Aa H' rj g lj (Cn g (low+low') (B1 g 3#6 M 12#1 (M+M'-1)) (M+M'-1) lj Mj) Mj->Q (.ref rj) H')->Pl CT vs H Q E
inductive UO(K:qW)(vs:List V)(H:Hp)(Q:VK)(z3_:XK):Prop
 |m(r a:qS)(g lo:Int)(j3:qX)(m:Nat)(ns:qX):vs=[.ref r,.ref a]->2<=g->g<=9->A6 H r g lo j3->(0#9:Int)=g^m->1<=m->Ad K H a 1#5->(∀n∈ns,0<=n/\n<g)->1#4<=900->(∀p H',JW H H' p 22#3->Q 1#9 H')->UO K vs H Q z3_
def JO(g:Int)(i:Nat)(j6:List V):=∃us:qX,j6=us.map 2#1/\10#2=i/\∀n∈us,0<=n/\n<g
theorem JO.nil{g:Int}:JO g 0 []:=⟨[],rfl,rfl,λn hn=>by cases hn⟩
theorem JO.put{g:Int}{i:Nat}{j6:List V}(h:JO g i j6){v:Int}(v0:0<=v)(v1:v<g):JO g (i+1) (j6++[V.int v]):=by
 obtain⟨us,rfl,ul,ub⟩:=h;refine⟨us++[v],by rw[cX];rfl,by rw[cR,ul];rfl,λn hn=>?_⟩;rcases cV.mp hn with z|z
 ·exact ub n z
 ·rw[cQ.mp z];exact⟨v0,v1⟩
theorem JO.snoc{g:Int}(g2:2<=g){i:Nat}{j6:List V}(h:JO g i j6)(v:Int):JO g (i+1) (j6++[V.int (v%g)]):=h.put (fY _ 0#0) (fH _ 0#0)
theorem JO.len{g:Int}{i:Nat}{j6:List V}(h:JO g i j6)(hi:i<=900):25#0<sizeLine:=by obtain⟨us,rfl,ul,_⟩:=h;rw[cO];exact AX 0#0
inductive KL(vs:List V)(H:Hp)(Q:VK)(z3_:XK):Prop
 |m(c m:Int):vs=[.int c,.int m]->0<=m->m<=300->(∀(r:qS) (H':Hp) (l:qX),6#9=14#3->(∀x∈l,0<=x/\x<2147483647)->AF H H'->H r=none->H' r=some (.lst (l.map 2#1))->Q 5#4 H')->KL vs H Q z3_
noncomputable def JG(G:Nat)(j3:qX)(s:Int)(F:Nat->Int)(k v:Nat):Int:=BO k λa=>Fm (decide (j3.getD a 0=s)&&decide (a%(0#9/G)=v)) (F (a/G))
theorem Vs{G:Nat}{j3:qX}{s:Int}{F:Nat->Int}{k:Nat}(h:¬j3.getD k 0=s):JG G j3 s F (k+1)=JG G j3 s F k:=by
 funext v
 unfold JG;rw[A3,qI h,28#8];show _+(0:Int)=_;rw[iq]
theorem UP{G:Nat}{j3:qX}{s:Int}{F:Nat->Int}{k:Nat}(h:j3.getD k 0=s):
  ((List.range (0#9/G)).map (JG G j3 s F k)).set (k%(0#9/G)) (JG G j3 s F k (k%(0#9/G))+F (k/G))=(List.range (0#9/G)).map (JG G j3 s F (k+1)):=by
 apply List.ext_getElem
 ·rw[fO,cO,cO]
 ·intro v h1 h2;rw[List.getElem_set,List.getElem_map,List.getElem_map,List.getElem_range];unfold JG;rw[A3,qH h,Bool.true_and];split
  ·rename_i e
   rw[e,qH rfl];rfl
  ·rename_i e
   rw[qI e];show _=_+(0:Int);rw[iq]
theorem RF(G:Nat)(j3:qX)(s:Int)(F:Nat->Int)(n:Nat):(List.range n).map (JG G j3 s F 0)=List.replicate n 0:=by rw[gd];refine⟨by rw[cO,cw],λb hb=>?_⟩;obtain⟨x,_,e⟩:=c6.mp hb;rw[<-e];rfl
inductive KM(K:qW)(vs:List V)(H:Hp)(Q:VK)(z3_:XK):Prop
 |m(r a:qS)(g lo:Int)(j3:qX)(m:Nat)(ns:qX):vs=[.ref r,.ref a]->Aa H r g lo j3 m->Ad K H a 1#5->(∀H',AF H H'->Q (.int (Cs g.toNat j3 ns)) H')->KM K vs H Q z3_
theorem Yx{g x:Int}(g2:2<=g)(x0:0<x):x<=x*g:=by have z:=fL (show 1<=g by lia) (show 0<=x by lia);rw[iV]at z;exact z
theorem K2{ns:qX}(k:Nat)(k1:1<=k)(h:k<=1#4):LG 1#5 (-(k:Int))=some (.int (ns.getD (1#4-k) 0)):=by
 have e:=DB (ns:=ns) (k:=1#4-k) 0#0
 have z:LF (ns.map 2#1).length (-(k:Int))=some (1#4-k):=by
  unfold LF;rw[cO];rw[qE 0#0,qF 0#0]
  congr 1
  lia
 have y:LF (ns.map 2#1).length (((1#4-k:Nat)):Int)=some (1#4-k):=by rw[cO];exact HV 0#0
 unfold LG at e⊢;rw[y]at e;rw[z];exact e
theorem Yy{xs:qX}{z:Int}(z0:0<=z)(h:z<=(1#3:Int)):(JV xs none (some z)).length=z.toNat:=by have ea:HT.Hy xs.length 0 none=0:=rfl;have eb:HT.Hy xs.length xs.length (some z)=min z.toNat 1#3:=qE 0#0;unfold JV;rw[ea,eb,dI,dq];lia
theorem IS{g:Int}{j3:qX}(tb:∀n∈j3,0<=n/\n<g){k:Nat}{v:Int}(hv:0<=v/\v<g):∀n∈j3.set k v,0<=n/\n<g:=λn hn=>by
 rcases List.mem_or_eq_of_mem_set hn with z|rfl
 ·exact tb n z
 ·exact hv
inductive G9(K:qW)(vs:List V)(H:Hp)(Q:VK)(z3_:XK):Prop
 |m(r a:qS)(g lo:Int)(j3:qX)(m:Nat)(ns:qX):vs=[.ref r,.ref a]->Aa H r g lo j3 m->Ad K H a 1#5->(∀n∈ns,0<=n/\n<g)->1#4<=5000->(∀H',AF H H'->Q 29#7 H')->G9 K vs H Q z3_
inductive JH(vs:List V)(H:Hp)(Q:VK)(z3_:XK):Prop
 |m(r:qS)(g lo0 lo:Int)(j3:qX)(m:Nat)(low:Int)(M:Nat):vs=[.ref r]->Aa H r g lo0 j3 m->Bn g lo j3 m low M->(∀p H',AF H H'->H' p=some (.lst ((Cn g lo j3 m low M).map 2#1))->Q 1#9 H')->JH vs H Q z3_
inductive JI(vs:List V)(H:Hp)(Q:VK)(z3_:XK):Prop
 |m(p q:qS)(g:Int)(ta:qX)(ma:Nat)(tb:qX)(mb:Nat):vs=[.int g,.ref q,.ref p]->2<=g->g<=9->H p=some (.lst (ta.map 2#1))->H q=some (.lst (tb.map 2#1))->(ta.length:Int)=g^ma->(2#6:Int)=g^mb->1<=ma->1<=mb->(∀n∈ta,0<=n/\n<g)->g^(ma+mb-1)<=256->(∀d H',JW H H' d (B1 g ta ma tb (ma+mb-1))->Q 2#3 H')->JI vs H Q z3_
inductive Pm(K:qW)(vs:List V)(H:Hp)(Q:VK)(z3_:XK):Prop
 |m(t a:qS)(g:Int)(j3:qX)(m:Nat)(ns:qX):vs=[.int g,.ref t,.ref a]->2<=g->g<=9->H t=some (.tup 12#3)->(0#9:Int)=g^m->1<=m->m<=8->Ad K H a 1#5->(∀n∈ns,0<=n/\n<g)->1#4<=100->(∀p H',JW H H' p 22#3->Q 1#9 H')->Pm K vs H Q z3_
inductive Mq(vs:List V)(H:Hp)(Q:VK)(z3_:XK):Prop
 |m(g:Int)(m:Nat)(c:Int):vs=[.int g,.int ((m:Nat):Int),.int c]->2<=g->g<=5->1<=m->m<=3->g^m<=125->(∀(r:qS) (lo:Int) (j3:qX) H',AF H H'->Aa H' r g lo j3 m->Q 5#4 H')->Mq vs H Q z3_
theorem Vt{g:Int}(hg:2<=g){w:qX}(hb:∀n∈w,0<=n/\n<g){j ma:Nat}(h:j+ma<=5#0):Aw g ((w.drop j).take ma)=Aw g w/g^(5#0-ma-j)%g^ma:=by
 have e:w=(w.take j++(w.drop j).take ma)++(w.drop j).drop ma:=by rw[de,df,df]
 have lc:((w.drop j).drop ma).length=5#0-ma-j:=by rw[dq,dq];lia
 have lb:((w.drop j).take ma).length=ma:=by rw[dI,dq];lia
 obtain⟨c0,c1⟩:=Bg hg (show ∀n∈(w.drop j).drop ma,0<=n/\n<g from λn hn=>hb n (fF (fF hn)));obtain⟨b0,b1⟩:=Bg hg (show ∀n∈(w.drop j).take ma,0<=n/\n<g from λn hn=>hb n (fF (fG hn)));rw[lc]at c1;rw[lb]at b1;have p1:=RW.Ab hg (5#0-ma-j)
 have ew:Aw g w=Aw g ((w.drop j).drop ma)+(Aw g ((w.drop j).take ma)+Aw g (w.take j)*g^ma)*g^(5#0-ma-j):=by
  have e2:Aw g ((w.take j++(w.drop j).take ma)++(w.drop j).drop ma)=Aw g ((w.drop j).drop ma)+(Aw g ((w.drop j).take ma)+Aw g (w.take j)*g^ma)*g^(5#0-ma-j):=by rw[BU,BU,lb,lc,gZ,gZ (Aw g (w.take j)*g^ma)]
  rw[<-e]at e2;exact e2
 rw[ew,Int.add_mul_ediv_right _ _ 0#0,fT c0 c1,dh,Int.add_mul_emod_self_right,fB b0 b1]
theorem Vu{a b:Prop}[Decidable a][Decidable b]{X Y:Prop}(h:X)(h2:Y):if a then X else if b then X else Y:=by
 split
 ·exact h
 ·split
  ·exact h
  ·exact h2
inductive HD(pos:Pos)(Pt:qS)(vs:List V)(H:Hp)(Q:VK)(z3_:XK):Prop
 |m(r r':qS)(g lo:Int)(j3:qX)(m:Nat)(lo':Int)(tab':qX)(m':Nat)(low:Int)(M:Nat)(low':Int)(M':Nat)(lf:Int)(tf:qX)(mf:Nat)(lb:Int)(tb:qX)(mb:Nat)(way:Int):vs=[.ref r,.ref r',.int way]->Aa H r g lo j3 m->Aa H r' g lo' tab' m'->Bn g lo j3 m low M->Bn g lo' tab' m' low' M'->A5 g lo j3 m lf tf mf->A5 g lo' tab' m' lb tb mb->Au pos (DD "pairs_reached") Pt H->((way=0/\256<g^(M+M'-1))\/(way≠0/\(9<g^(mf-1)\/9<g^(mb-1))))->(∀H',AF H H'->Q 29#7 H')->HD pos Pt vs H Q z3_
inductive KN(K:qW)(vs:List V)(H:Hp)(Q:VK)(z3_:XK):Prop
 |m(r r':qS)(v:V)(g lo:Int)(j3:qX)(m:Nat)(lo':Int)(tab':qX)(m':Nat):vs=[v,.ref r,.ref r']->Aa H r g lo j3 m->Aa H r' g lo' tab' m'->(v=.non\/∃(d:qS) (ws:qX),v=.ref d/\H d=some 20#8/\(∀n∈ws,0<=n/\n<g)/\19#1<=5000/\Cs g.toNat j3 ws≠0/\Cs g.toNat tab' ws=0)->(∀H',AF H H'->Q 29#7 H')->KN K vs H Q z3_
theorem RG{g lo lo':Int}{j3 tab':qX}{m m':Nat}(hg:2<=g)(hl:(0#9:Int)=g^m)(m1:1<=m)(tb:∀n∈j3,0<=n/\n<g)(hl':(1#8:Int)=g^m')(m1':1<=m')(tb':∀n∈tab',0<=n/\n<g){low low':Int}{M M':Nat}(nw:Bn g lo j3 m low M)(nw':Bn g lo' tab' m' low' M'){lj:Int}{Mj:Nat}(nj:Bn g (low+low') (B1 g 3#6 M 12#1 (M+M'-1)) (M+M'-1) lj Mj):
  CY g lj (Cn g (low+low') (B1 g 3#6 M 12#1 (M+M'-1)) (M+M'-1) lj Mj) Mj (lo+lo') (B1 g j3 m tab' (m+m'-1)) (m+m'-1):=
 λx hx=>(En hg (B4 hg ..) nj x hx).trans (Ng hg (a:=⟨low,Cn g lo j3 m low M,M⟩) (a':=⟨lo,j3,m⟩) (b:=⟨low',Cn g lo' tab' m' low' M',M'⟩) (b':=⟨lo',tab',m'⟩) ⟨nw.one,Aq hg ..,GP hg _ tb _ _ _⟩ ⟨m1,hl,tb⟩ ⟨nw'.one,Aq hg ..,GP hg _ tb' _ _ _⟩ ⟨m1',hl',tb'⟩ (En hg hl nw) (En hg hl' nw') x hx)
theorem Au.other{pos pos':Pos}{q q':Str}{P P':qS}{H H':Hp}(e:Bk P H H')(t:Au pos q P H)(ne:P'≠P)(t':Au pos' q' P' H):Au pos' q' P' H':=by obtain⟨ps,h1,h2,h3⟩:=t';refine⟨ps,e _ _ ne h1,h2,λcv hc=>?_⟩;obtain⟨c',oc,h4,h5,h6⟩:=h3 cv hc;exact⟨c',oc,h4,e.get t h5 (λ_ z=>by cases z),h6⟩
structure Dv(t:Ue)(H H':Hp):Prop where
 g:∀b o,(∀ps,o≠.tbl ps)->H b=some o->H' b=some o
 q:Au LQ (DD "pairs_reached") t.p_2 H'
 s:Au LP (DD "sets_reached") t.p_9 H'
theorem Dv.same{t:Ue}{H H1 H2:Hp}(k:Dv t H H1)(e:AF H1 H2):Dv t H H2:=⟨λb o n h=>e _ _ (k.g b o n h),k.q.same e,k.s.same e⟩
theorem Dv.pairs{t:Ue}{H H1 H2:Hp}(k:Dv t H H1)(ne:t.p_2≠t.p_9)(e:Bk t.p_2 H1 H2)(tb:Au LQ (DD "pairs_reached") t.p_2 H2):Dv t H H2:=⟨λb o n h=>e.get k.q (k.g b o n h) n,tb,Au.other e k.q (Ne.symm ne) k.s⟩
theorem Dv.sets{t:Ue}{H H1 H2:Hp}(k:Dv t H H1)(ne:t.p_2≠t.p_9)(e:Bk t.p_9 H1 H2)(tb:Au LP (DD "sets_reached") t.p_9 H2):Dv t H H2:=⟨λb o n h=>e.get k.s (k.g b o n h) n,Au.other e k.s ne k.q,tb⟩
theorem Dv.ok{t:Ue}{H H':Hp}(k:Dv t H H'){r:qS}{g lo:Int}{j3:qX}{m:Nat}(h:Aa H r g lo j3 m):Aa H' r g lo j3 m:=by obtain⟨tb,v1,v2⟩:=h.v;exact⟨⟨tb,k.g _ _ (λ_ z=>by cases z) v1,k.g _ _ (λ_ z=>by cases z) v2⟩,h.g2,h.g9,h.m1,h.m8,h.len,h.sz,h.tb⟩
theorem Dv.lst{t:Ue}{H H':Hp}(k:Dv t H H'){a:qS}{xs:List V}(h:H a=some 3#2):H' a=some 3#2:=k.g _ _ (λ_ z=>by cases z) h
theorem Dv.tup{t:Ue}{H H':Hp}(k:Dv t H H'){a:qS}{xs:List V}(h:H a=some 10#5):H' a=some 10#5:=k.g _ _ (λ_ z=>by cases z) h
inductive Mr(t:Ue)(vs:List V)(H:Hp)(Q:VK)(z3_:XK):Prop
 |m(r1 r2 r3 a:qS)(g:Int)(l1:Int)(t1:qX)(m1:Nat)(l2:Int)(t2:qX)(m2:Nat)(l3:Int)(t3:qX)(m3:Nat)(ns:qX)(low:Int)(M:Nat)(low':Int)(M':Nat):vs=[.ref r1,.ref r2,.ref r3,.ref a]->Aa H r1 g l1 t1 m1->Aa H r2 g l2 t2 m2->Aa H r3 g l3 t3 m3->g<=5->g^(m2-1)<=9->g^(m3-1)<=9->Bn g l1 t1 m1 low M->Bn g l2 t2 m2 low' M'->g^(M+M'-1)<=256->H a=some 18#4->(∀n∈ns,0<=n/\n<g)->1#4<=100->Au LQ (DD "pairs_reached") t.p_2 H->Au LP (DD "sets_reached") t.p_9 H->(∀H',Q 29#7 H')->Mr t vs H Q z3_
theorem Ms{g:Int}(hg:2<=g){j3:qX}{m:Nat}(hl:(0#9:Int)=g^m)(m1:1<=m){w:qX}(hw:∀n∈w,0<=n/\n<g):1<=Cs g.toNat j3 (A7 g j3 m w):=by
 refine (CM hg 0 hl m1).mpr ⟨λz=>w.getD z.toNat 0,λz=>Bx hg hw _,λk hk=>?_⟩;rw[A8]at hk;rw[FY 0#0];unfold DM
 congr 3
 refine Ag (by rw[As,dI,dq];lia) λj hj=>?_;rw[As]at hj;unfold BI;rw[AS hj];show w.getD (0+(k:Int)+(j:Int)).toNat 0=_;rw[cW,cW,List.getElem?_take_of_lt hj,gR]
 congr 2
 lia
theorem Vv{g:Int}(hg:2<=g){ta tb:qX}{ma mb:Nat}(h1:1<=ma)(h2:1<=mb){w:qX}(hw:∀n∈w,0<=n/\n<g):A7 g (B1 g ta ma tb (ma+mb-1)) (ma+mb-1) w=A7 g tb mb (A7 g ta ma w):=by
 refine Ag (by rw[A8,A8,A8];lia) λk hk=>?_;rw[A8]at hk;have l1:=A8 g ta ma w;rw[FY 0#0,FY (by rw[l1];lia)];have vl:((w.drop k).take (ma+mb-1)).length=ma+mb-1:=by rw[dI,dq];lia
 have vb:∀n∈(w.drop k).take (ma+mb-1),0<=n/\n<g:=λn hn=>hw n (fF (fG hn))
 have e:=Ic hg ta ma tb vb;rw[vl]at e;rw[e,Te (by rw[dq];lia) h1,Tf 0#0 h1,show ma+mb-1+1-ma=mb by lia]
theorem E8{g:Int}(hg:2<=g){lo:Int}{j3:qX}{m:Nat}(hl:(0#9:Int)=g^m)(m1:1<=m){lf:Int}{tf:qX}{mf:Nat}(fw:A5 g lo j3 m lf tf mf)(row:qX):1<=Cs g.toNat tf row↔1<=Cs g.toNat j3 row:=by obtain⟨al,fl⟩:=fw.alike hg hl;have m2:=fw.two;exact⟨λh=>Cq hg fl 0#0 hl m1 al h,λh=>Cq hg hl m1 fl 0#0 (λx hx=>(al x hx).symm) h⟩
theorem HE{g:Int}(hg:2<=g)(g9:g<=9){lo:Int}{j3:qX}{m:Nat}(hl:(0#9:Int)=g^m){lf:Int}{tf:qX}{mf:Nat}(fw:A5 g lo j3 m lf tf mf)(h:g^(m-1)<=9):g^(mf-1)<=9:=by
 have z:=fw.le hg hl hl (λ_ _=>rfl);have m2:=fw.two;have g1:g^1=g:=by rw[dD,dP,eJ]
 by_cases y:m<=2
 ·have e:mf-1=1:=by lia
  rw[e,g1];exact g9
 ·exact fe (BL hg (show mf-1<=m-1 by lia)) h
theorem KO{g:Int}(g5:g<=9){lo:Int}{j3:qX}{m:Nat}{lj:Int}{Mj:Nat}(n:Bn g lo j3 m lj Mj){lf:Int}{tf:qX}{mf:Nat}(fw:A5 g lo j3 m lf tf mf):g^(mf-1)<=9↔g^(Mj-1)<=9:=by
 obtain⟨low,M,n',_,h⟩:=fw;obtain⟨_,e⟩:=n.uniq n';subst e;rcases h with⟨h1,h2,_⟩|⟨_,h2,_⟩
 ·subst h1 h2;have g1:g^(2-1)=g:=by rw[show 2-1=0+1 from rfl,dD,dP,eJ]
  have g0:g^(1-1)=1:=by rw[d4,dP]
  rw[g1,g0];exact⟨λ_=>by decide,λ_=>g5⟩
 ·rw[h2]
noncomputable def K3:List (qX):=[[2,2,2],[2,2,3],[3,2,2],[2,3,2],[4,1,2],[3,1,2],[4,2,1],[5,1,2],[4,2,2]]
noncomputable def Pn:List (qX):=[[2,3,3],[3,2,1],[5,2,2],[5,3,2]]
def Br(g:Int)(m m':Nat):Prop:=2<=g/\g<=5/\1<=m/\m<=3/\1<=m'/\m'<=3/\g^m<=125/\g^m'<=125/\g^(m'-1)<=9
theorem Mt:∀k,k<13->∃(g:Int) (m m':Nat),(K3++Pn)[k]?=some [g,(m:Int),(m':Int)]/\Br g m m'
 |0,_=>⟨2,2,2,rfl,by unfold Br;decide⟩
 |1,_=>⟨2,2,3,rfl,by unfold Br;decide⟩
 |2,_=>⟨3,2,2,rfl,by unfold Br;decide⟩
 |3,_=>⟨2,3,2,rfl,by unfold Br;decide⟩
 |4,_=>⟨4,1,2,rfl,by unfold Br;decide⟩
 |5,_=>⟨3,1,2,rfl,by unfold Br;decide⟩
 |6,_=>⟨4,2,1,rfl,by unfold Br;decide⟩
 |7,_=>⟨5,1,2,rfl,by unfold Br;decide⟩
 |8,_=>⟨4,2,2,rfl,by unfold Br;decide⟩
 |9,_=>⟨2,3,3,rfl,by unfold Br;decide⟩
 |10,_=>⟨3,2,1,rfl,by unfold Br;decide⟩
 |11,_=>⟨5,2,2,rfl,by unfold Br;decide⟩
 |12,_=>⟨5,3,2,rfl,by unfold Br;decide⟩
 |n+13,h=>qG h 0#0
theorem Ep.app{H:Hp}{ps qs:List qS}{A B:List (qX)}(h:Ep H ps A)(h':Ep H qs B):Ep H (ps++qs) (A++B):=by
 refine⟨by rw[cR,cR,h.n,h'.n],λi q w h1 h2=>?_⟩
 by_cases z:i<ps.length
 ·rw[dG z]at h1;rw[dG (by rw[<-h.n];exact z)]at h2;exact h.e i q w h1 h2
 ·rw[cq 0#0]at h1;rw[cq (by rw[<-h.n];lia),<-h.n]at h2;exact h'.e _ q w h1 h2
inductive UQ(vs:List V)(H:Hp)(Q:VK)(z3_:XK):Prop
 |m(r:qS)(g lo:Int)(j3:qX):vs=[.ref r,.int lo,.int (lo+1)]->Aa H r g lo j3 1->(∀r' H',AF H H'->Aa H' r' g lo (Cn g lo j3 1 lo 2) 2->Q 19#4 H')->UQ vs H Q z3_
section
variable{P:qU}{w:qV}{K:qW}{mg:Str->Option qR}{base:Heap}{t:Ue}
theorem Zl:AJ ["thing"] ["thing"] (AH YA):=CK
theorem EO{α:Type}{Z F:α->Hp->Prop}(h:∀G:α->Hp->Prop,(∀σ H,F σ H->G σ H)->∀σ H,Z σ H->G σ H):∀σ H,Z σ H->F σ H:=h F λ_ _ y=>y
theorem RM{α:Type}{A Z F:α->Hp->Prop}(h:∀G:α->Hp->Prop,(∀σ H,F σ H->G σ H)->∀σ H,A σ H->Z σ H->G σ H):∀σ H,A σ H->Z σ H->F σ H:=h F λ_ _ y=>y
theorem cJ{α:Type}{A B Z F:α->Hp->Prop}(h:∀G:α->Hp->Prop,(∀σ H,F σ H->G σ H)->∀σ H,A σ H->B σ H->Z σ H->G σ H):∀σ H,A σ H->B σ H->Z σ H->F σ H:=h F λ_ _ y=>y
theorem UR(T:CI K mg t) :B3 P w K mg base 1 t.f_39 ["thing"] (Kc):=by
 refine Ap T.d_39.2 Zl λvs H Q E h=>?_;obtain⟨x,rfl,kd,q⟩:=h;symm;refine⟨_,(AE (AN (Dy (FQ rfl T.z_isinstance 2#4 26#4) (Eb (ND (FQ rfl T.z_isinstance 2#4 24#0)))))),?_⟩;ac_nf;cases x with
 |int i =>
  refine⟨_,.of 9#3,_,WF,?_⟩;rw[qF rfl];exact⟨_,.of 9#3,_,WG,q⟩
 |bl b =>
  refine⟨_,.of (.bl b),_,WH,?_⟩;rw[qF rfl];exact⟨_,.of (.bl b),_,WI,q⟩
 |non =>
  refine⟨_,.of .non,_,WJ,?_⟩;rw[qE 0#1];exact q
 |str y =>
  refine⟨_,.of (.str y),_,WK,?_⟩;rw[qE 0#1];exact q
 |ref a =>
  obtain⟨xs,z|z⟩:=kd
  ·refine⟨_,.of (.lst z),_,WL,?_⟩;rw[qE 0#1];exact q
  ·refine⟨_,.of (.tup z),_,WN,?_⟩;rw[qE 0#1];exact q
 |byt _=>exact kd.elim
 |flt _=>exact kd.elim
 |ty _=>exact kd.elim
theorem Zm:AJ ["thing","signs"] ["thing","signs"] (AH YB):=CK
theorem Wi(T:CI K mg t):B3 P w K mg base 2 t.f_42 ["thing","signs"] (SB):=by
 refine Ap T.d_42.2 Zm λvs H Q E h=>?_;obtain⟨x,g,rfl,kd,q⟩:=h;symm;refine⟨_,(AE (AN (Dy (AM hr (UR T) T.d_39.1 3#8) (Dy (DG RY AG 2#4 (AO _)) (Eb (DG FG 2#4 3#3 (AO _))))))),?_⟩;ac_nf;refine⟨x,rfl,kd,?_⟩;cases x with
 |int i =>
  ac_nf;simp only[UZ]at q
  by_cases h:0<=i
  ·rw[qH h,Bool.true_and]at q;rw[qF h];exact q
  ·rw[qI h,28#8]at q;rw[qE h];exact q
 |_=>exact⟨false,rfl,Rj q⟩
theorem US:AJ ["word","signs","at","thing"] ["word","signs"] (AH YC):=CK
theorem Po(T:CI K mg t):B3 P w K mg base 3 t.f_26 ["word","signs"] (Mg K):=by
 refine Ap T.d_26.2 US λvs H Q E h=>?_;obtain⟨a,xs,g,rfl,hS,kd,h⟩:=h;symm;refine⟨_,(AE (BK PassesOwn.never rfl (Kb rfl T.z_enumerate 7#6) (Hs rfl (CA (BY 2 US) (CA (BY 3 US) Fe))) (AE (Ay (Dx (C7 (AM hr (Wi T) T.d_42.1 (AA 16#2 7#5)))) 23#0 Ae)))),?_⟩;refine⟨a,xs,rfl,hS,?_⟩;refine IG (xs:=xs) (λi σ H1=>Cb g (xs.take i)=none/\(∃x2 x3,σ=[some 2#0,some 5#7,x2,x3])/\AF H H1) ⟨rfl,⟨none,none,rfl⟩,AF.refl _⟩ (λi σ H1 _ z=>z.2.2.seq hS) ?_ ?_
 ·intro i x p;refine RM ?_;rintro _ hGo σ H1 hx ⟨hb,⟨x2,x3,rfl⟩,e⟩;refine hGo _ _ λhp=>?_;clear hGo;have e2:AF H (AU H1 p (.tup [.int ((i:Nat):Int),x])):=e.trans (AF.new hp _);refine⟨p,_,rfl,Ai.of AD,rfl,_,_,rfl,_,_,rfl,rfl,?_⟩;ac_nf;refine⟨x,g,rfl,(kd x (cp hx)).same e2,?_⟩;cases hs:UZ g x with
  |true =>
   ac_nf;exact⟨NR hb hx hs,⟨_,rfl⟩,e2⟩
  |false =>
   ac_nf;rw[NS hb hx hs]at h;exact h
 ·refine EO ?_;rintro _ hGo σ H1 ⟨hb,_,e⟩;ac_rfl;clear hGo;rw[eG]at hb;rw[hb]at h;exact h H1 e
theorem bh:AJ ["word","signs","many"] ["word","signs","many"] (AH bP):=CK
theorem bi(T:CI K mg t):B3 P w K mg base 4 t.f_6 ["word","signs","many"] (G6 K):=by
 refine Ap T.d_6.2 bh λvs H Q E h=>?_;obtain⟨a,xs,g,m,rfl,hS,kd,h⟩:=h;symm
 refine⟨_,(AB (Ao (AM hr (Po T) T.d_26.1 (AA (C9 D0 4#2 Fh (Cw 8#3)) 7#5)))
  (AE (Ay (Av LC (AV (OL K) rfl T.z_len dC 7#6) 8#3 (AO _)) 23#0 Ae))),?_⟩
 ac_nf;refine FS hS λp H1 e1 _ h1=>?_;rw[Kh]at h1;refine⟨p,_,g,rfl,Ad.of h1,λx hx=>(kd x (fG hx)).same e1,?_⟩;unfold Eh at h;cases hb:Cb g (xs.take m) with
 |some i =>
  rw[hb]at h;exact h
 |none =>
  rw[hb]at h;dsimp only at h;intro H2 e2;refine⟨xs,.inl ((e1.trans e2).seq hS),?_⟩
  by_cases hl:xs.length=m
  ·rw[qF hl]at h;rw[qE 0#0];exact h _ 23#7
  ·rw[qE hl]at h;exact h.elim
theorem Pp:AJ ["word","signs","number","sign"] ["word","signs"] (AH YD):=CK
theorem Zn(T:CI K mg t):B3 P w K mg base 4 t.f_33 ["word","signs"] (KC K):=by
 refine Ap T.d_33.2 Pp λvs H Q E h=>?_;obtain⟨a,xs,g,rfl,g2,g9,hS,kd,h⟩:=h;symm
 refine⟨_,(AB (Ao (AM hr (Po T) T.d_26.1 27#5))
  (AB (AK 2 Pp AG)
  (AB (BK PassesOwn.never rfl (JF K 4#2) (BY 3 Pp) (AE (AK 2 Pp (AL 20#3 (AL (Jd B7) 8#3 4#7) 16#2))))
  (AE (AN 8#3))))),?_⟩
 ac_nf;refine⟨a,xs,g,rfl,hS,kd,?_⟩;cases hb:Cb g xs with
 |some i =>
  rw[hb]at h;exact h
 |none =>
  rw[hb]at h;obtain⟨ns,rfl,hns⟩:=IH hb;intro H1 e;refine⟨a,rfl,⟨_,e.seq hS⟩,?_⟩;refine By (xs:=ns.map 2#1) (λi σ H2=>(∃x3,σ=[some 2#0,some 5#7,some (.int (Aw g (ns.take i))),x3])/\H2=H1) ⟨⟨none,rfl⟩,rfl⟩ (λi σ H2 _ z=>by rw[z.2];exact e.seq hS) ?_ ?_
  ·refine G8 ?_;rintro _ _ i x _ hGo σ H2 hx ⟨⟨x3,rfl⟩,rfl⟩;ac_rfl;obtain⟨n,hn,rfl⟩:=Bz hx;ac_nf;refine⟨.inr ⟨by lia,by lia⟩,?_⟩;rw[Fk hn];exact⟨rfl,_,rfl⟩
  ·refine EO ?_;rintro _ hGo σ H2 ⟨⟨x3,rfl⟩,rfl⟩;ac_rfl;clear hGo;ac_nf;rw[cO,eG];exact h ns rfl _ e
theorem Pq:AJ ["number","signs","many","backwards","rest"] ["number","signs","many"] (AH YE):=CK
theorem Wj(T:CI K mg t) :B3 P w K mg base 1 t.f_48 ["number","signs","many"] (PY):=by
 refine Ap T.d_48.2 Pq λvs H Q E h=>?_;obtain⟨n,g,m,rfl,g2,g9,m0,m3,hbad,hgood⟩:=h;symm
 refine⟨_,(AB (Ay (Av (EY FG) 4#2 AG (AO _)) 23#0 Ae)
  (AB (AK 3 Pq 14#4)
  (AB (AK 4 Pq 4#2)
  (AB (Bs PassesOwn.never (Av (EY FG) (AV (OL K) rfl T.z_len dC (AA 16#2 AC)) 8#3 (AO _)) (AB (Ao (Mp K 16#2 (AA (AL (Jd BF) (Ac 4) 4#7) AC)))
  (AE (AK 4 Pq (AL (Jd BQ) (Ac 4) 4#7)))))
  (AB (Ay (Av (EY Ck) (Ac 4) AG (AO _)) 23#0 Ae)
  (AE (AN (OY rfl rfl T.z_reversed rfl T.z_list (AA 16#2 AC))))))))),?_⟩
 ac_nf
 by_cases hn:n<0
 ·rw[qF hn];exact hbad (.inl hn)
 rw[qE hn];refine⟨di _,λp hp=>?_⟩;obtain⟨IV,hIV⟩:∃IV:Nat->St->Hp->Prop,IV=λk σ H1=>∃i:Nat,i<=14#3/\σ=[some (.int n),some 5#7,some (.int m),some 1#9,some (.int (dr g n i))]/\H1=AU H p (.lst ((EB g n i).map 2#1))/\k=14#3-i:=⟨_,rfl⟩
 refine⟨IV,⟨_,by rw[hIV];exact⟨0,di _,rfl,rfl,rfl⟩⟩,?_⟩;intro k σ H1 hX;rw[hIV]at hX;obtain⟨i,hi,rfl,rfl,rfl⟩:=hX;ac_nf;have hl:((EB g n i).map 2#1).length=i:=by rw[cO,DI]
 refine⟨_,.inl (Ad.of AD),?_⟩;rw[hl]
 by_cases hlt:(i:Int)<m
 ·rw[qF hlt];refine⟨λσ' H'=>∃m',m'<14#3-i/\IV m' σ' H',λ_ _ h=>h,⟨_,Ad.of AD⟩,by lia,_,AD,by rw[hl];exact AX 0#0,by lia,by lia,14#3-(i+1),by lia,?_⟩;rw[hIV];exact⟨i+1,by lia,rfl,by rw[Fb,EB,cX];rfl,rfl⟩
 ·rw[qE hlt];have ei:i=14#3:=by lia
  by_cases hd:0<dr g n i
  ·rw[qF hd];refine hbad (.inr (Int.not_lt.mp λz=>?_));rw[ei,Od g2 0#0 z]at hd;lia
  ·rw[qE hd];refine⟨_,Ad.of AD,λr hr'=>hgood 0#0 (Int.not_le.mp λz=>?_) r _ ⟨(AF.new hp _).trans (AF.new hr' _),(Rz hr').2,?_⟩⟩
   ·rw[ei]at hd;exact hd (XZ g2 z)
   ·rw[AD,ei,List.map_reverse]
theorem Zo:AJ ["signs","low"] ["signs","low"] (AH YF):=CK
theorem Zp(T:CI K mg t):B3 P w K mg base 2 t.f_25 ["signs","low"] (PZ):=by
 refine Ap T.d_25.2 Zo λvs H Q E h=>?_;obtain⟨g,lo,rfl,g2,g9,q⟩:=h;symm
 refine⟨_,(AB (Ay (PW.pt (Ea (Dx (C7 (AM hr (UR T) T.d_39.1 7#6))) (Ea (Av (EY FG) 4#2 AG (AO _)) (EZ (Av (EY Ck) 4#2 AG (AO _)))))) 23#0 Ae)
  (AE (Ay (Dx (C7 (AM hr (UR T) T.d_39.1 7#5))) 23#0 Ae))),?_⟩
 ac_nf;refine⟨.int g,rfl,trivial,true,rfl,?_⟩;rw[qE 0#1];rw[qE 0#0,qE 0#0];refine⟨.int lo,rfl,trivial,true,rfl,?_⟩;rw[qE 0#1];exact q
theorem Mu:AJ ["signs","length","many","words"] ["signs","length"] (AH YG):=CK
theorem Wk(T:CI K mg t) :B3 P w K mg base 1 t.f_28 ["signs","length"] (Gn):=by
 refine Ap T.d_28.2 Mu λvs H Q E h=>?_;obtain⟨g,n,rfl,g2,g9,hy,hn⟩:=h;symm
 refine⟨_,(AB (AK 2 Mu AG)
  (AB (AK 3 Mu AG)
  (AB (Bs PassesOwn.never (Av (EY FG) 16#2 4#7 (AO _)) (AB (AK 3 Mu (AL (Jd B7) 16#2 4#2))
  (AE (AK 2 Mu (AL 20#3 8#3 AG)))))
  (AB (Ay (Av CB 16#2 4#7 (AO _)) (AE (AN 8#3)) Ae)
  (AE (AN AG)))))),?_⟩
 ac_nf;obtain⟨IV,hIV⟩:∃IV:Nat->St->Hp->Prop,IV=λk σ H1=>∃i:Nat,σ=[some 5#7,some (.int n),some (.int ((i:Nat):Int)),some (.int (g^i))]/\H1=H/\(∀j,j<i->g^j<n)/\k=(n-g^i).toNat:=⟨_,rfl⟩
 refine⟨IV,⟨_,by rw[hIV];exact⟨0,by rw[dP];rfl,rfl,λj hj=>qG hj (iJ _),rfl⟩⟩,?_⟩;intro k σ H1 hX;rw[hIV]at hX;obtain⟨i,rfl,rfl,hj,rfl⟩:=hX;have gp:=RW.Ab g2 i;ac_nf
 by_cases hlt:g^i<n
 ·rw[qF hlt];have up:g^i<g^(i+1):=by have:=fL g2 (eL gp);rw[dD];lia
  refine⟨λσ' H'=>∃m',m'<(n-g^i).toNat/\IV m' σ' H',λ_ _ h=>h,.inr ⟨by lia,by lia⟩,(n-g^(i+1)).toNat,by lia,?_⟩;rw[hIV];refine⟨i+1,by rw[dD];rfl,rfl,λj hj2=>?_,rfl⟩
  by_cases z:j=i
  ·rw[z];exact hlt
  ·exact hj j 0#0
 ·rw[qE hlt]
  by_cases he:g^i=n
  ·rw[qF he];exact hy i he.symm
  ·rw[qE he];refine hn λm z=>?_
   by_cases hm:m<i
   ·have:=hj m hm;lia
   ·have:=BL g2 (iD hm);lia
theorem Mv:AJ ["signs","many","length","done"] ["signs","many"] (AH YH):=CK
theorem Pr(T:CI K mg t) :B3 P w K mg base 1 t.f_12 ["signs","many"] (SM):=by
 refine Ap T.d_12.2 Mv λvs H Q E h=>?_;obtain⟨g,m,rfl,g2,g9,m1,hy,hn⟩:=h;symm
 refine⟨_,(AB (AK 2 Mv AG)
  (AB (AK 3 Mv AG)
  (AB (Bs PassesOwn.never (PW.pt (Hr (Av (EY FG) 16#2 4#7 (AO _)) (HM (Av (EY RY) 8#3 12#0 (AO _))))) (AB (AK 2 Mv (AL (Jd B7) 8#3 4#2))
  (AE (AK 3 Mv (AL 20#3 16#2 AG)))))
  (AE (AN 8#3))))),?_⟩
 ac_nf;obtain⟨IV,hIV⟩:∃IV:Nat->St->Hp->Prop,IV=λk σ H1=>∃i:Nat,i<=14#3/\σ=[some 5#7,some (.int m),some (.int (g^i)),some (.int ((i:Nat):Int))]/\H1=H/\k=14#3-i:=⟨_,rfl⟩
 refine⟨IV,⟨_,by rw[hIV];exact⟨0,di _,by rw[dP];rfl,rfl,rfl⟩⟩,?_⟩;intro k σ H1 hX;rw[hIV]at hX;obtain⟨i,hi,rfl,rfl,rfl⟩:=hX;have gp:=RW.Ab g2 i;ac_nf
 by_cases hlt:(i:Int)<m
 ·rw[qF hlt]
  by_cases hle:g^i<=256
  ·rw[qF hle];refine⟨λσ' H'=>∃m',m'<14#3-i/\IV m' σ' H',λ_ _ h=>h,.inr ⟨by lia,by lia⟩,14#3-(i+1),by lia,?_⟩;rw[hIV];exact⟨i+1,by lia,by rw[dD];rfl,rfl,rfl⟩
  ·rw[qE hle];have:=BL g2 hi;exact hn 0#0 _ 0#0
 ·rw[qE hlt];have ei:i=14#3:=by lia
  subst ei
  by_cases hle:g^m.toNat<=256
  ·exact hy hle
  ·exact hn 0#0 _ 0#0
theorem Wl:AJ ["signs","table","told"] ["signs","table"] (AH YI):=CK
theorem Zq(T:CI K mg t):B3 P w K mg base 3 t.f_16 ["signs","table"] (UF):=by
 refine Ap T.d_16.2 Wl λvs H Q E h=>?_;obtain⟨g,a,j3,m,rfl,g2,g9,m1,len,sz,tb,ha,q⟩:=h;symm
 refine⟨_,(AB (Ay (Dx (C7 (Uv rfl T.z_isinstance 4#7 (AA 23#9 (AA (IE rfl T.z_tuple PyProof.Rows.boot_tuple) AC))))) 23#0 Ae)
  (AB (Ay (PW.pt (Ea (Av (EY Ck) (AV (OL K) rfl T.z_len dC 7#5) 12#0 (AO _)) (EZ (Av CB (AM hr (Wk T) T.d_28.1 (AA 4#2 (AA (AV (OL K) rfl T.z_len dC 7#5) AC))) AG (AO _))))) 23#0 Ae)
  (AE (BK PassesOwn.never rfl (JF K 4#7) (BY 2 Wl) (AE (Ay (Dx (C7 (AM hr (Wi T) T.d_42.1 (AA 8#3 7#6)))) 23#0 Ae)))))),?_⟩
 ac_nf;refine⟨by decide,λp hp=>?_⟩;have e1:=AF.new hp (.tup [V.ty "list",V.ty "tuple"]);have h1:AU H p (.tup [V.ty "list",V.ty "tuple"]) p=some (.tup [V.ty "list",V.ty "tuple"]):=AD;generalize AU H p (HO.tup [V.ty "list",V.ty "tuple"])=H1 at e1 h1⊢;have ha1:=e1 _ _ ha;refine⟨_,.of (.lst ha1),_,h1,[.type "list",.type "tuple"],rfl,true,cN WM _,?_⟩;rw[qE 0#1];refine⟨_,.inl (Ad.of ha1),?_⟩;rw[cO,qE 0#0];refine⟨_,.inl (Ad.of ha1),g,_,rfl,g2,g9,λm' hm=>⟨rfl,?_⟩,λno=>qG (by rw[cO];exact len) (no m)⟩;rw[cO,len]at hm;have:=DJ g2 hm;rw[qE (by intro z;injection z with z;lia)];refine⟨a,rfl,⟨_,Ad.of ha1⟩,?_⟩;refine By (xs:=j3.map 2#1) (λi σ H2=>(∃x2,σ=[some 5#7,some 2#0,x2])/\H2=H1) ⟨⟨none,rfl⟩,rfl⟩ (λi σ H2 _ z=>by rw[z.2];exact Ad.of ha1) ?_ ?_
 ·refine G8 ?_;rintro _ _ i x _ hGo σ H2 hx ⟨⟨x2,rfl⟩,rfl⟩;ac_rfl;obtain⟨n,hn,rfl⟩:=Bz hx;have b:=tb n (cp hn);ac_nf;refine⟨.int n,g,rfl,trivial,?_⟩;rw[show UZ g (.int n)=true by show (decide (0<=n)&&decide (n<g))=true;rw[qH b.1,qH b.2];rfl];ac_nf;exact⟨_,rfl⟩
 ·refine EO ?_;rintro _ hGo σ H2 ⟨_,rfl⟩;ac_rfl;clear hGo;exact q _ e1
theorem Zr:AJ ["signs","low","table"] ["signs","low","table"] (AH YJ):=CK
theorem Wm(T:CI K mg t):B3 P w K mg base 4 t.f_62 ["signs","low","table"] (OG):=by
 refine Ap T.d_62.2 Zr λvs H Q E h=>?_;obtain⟨g,lo,a,j3,m,rfl,g2,g9,m1,len,sz,tb,ha,q⟩:=h;symm
 refine⟨_,(AB (Ao (AM hr (Zp T) T.d_25.1 27#5))
  (AB (Ao (AM hr (Zq T) T.d_16.1 (AA 4#2 17#0)))
  (AE (AN (DZ (AA 4#2 (AA 4#7 (AA (Bu CC rfl T.z_tuple ft 17#0) AC)))))))),?_⟩
 ac_nf;refine⟨g,lo,rfl,g2,g9,g,a,j3,m,rfl,g2,g9,m1,len,sz,tb,ha,λH1 e1=>?_⟩;refine⟨_,.inl ⟨Ad.of (e1 _ _ ha),λl hl=>⟨by decide,λp hp=>?_⟩⟩⟩;have e2:=AF.new hl (.tup 12#3);have e3:=AF.new hp (.tup [.int g,.int lo,.ref l]);exact q p _ ((e1.trans e2).trans e3) ⟨l,AD,e3 _ _ AD⟩
theorem Zs:AJ ["one"] ["one"] (AH YK):=CK
theorem JJ(T:CI K mg t):B3 P w K mg base 2 t.f_54 ["one"] (LZ):=by
 refine Ap T.d_54.2 Zs λvs H Q E h=>?_;obtain⟨r,g,lo,j3,m,rfl,g2,g9,⟨tb,h1,h2⟩,hl,q⟩:=h;symm;refine⟨_,(AE (AN (AM hr (Wk T) T.d_28.1 (AA (AR 4#9 2#4 AG (λ_ _=>rfl)) (AA (AV 15#4 rfl T.z_len dC (AA (AR 4#9 2#4 AG (λ_ _=>rfl)) AC)) AC))))),?_⟩;ac_nf;refine (Ci (v:=.int g) 8#7 (Dz rfl) (Ci (v:=.ref tb) 8#7 (Dz rfl) ?_));ac_nf;refine⟨_,.inr (Ai.of h2),g,_,rfl,g2,g9,λm' e=>?_,λz=>?_⟩
 ·rw[cO,hl]at e;rw[<-DJ g2 e];exact q
 ·exact qG (by rw[cO,hl]) (z m)
theorem Zt:AJ ["one","word"] ["one","word"] (AH YL):=CK
theorem Wn(T:CI K mg t):B3 P w K mg base 5 t.f_32 ["one","word"] (PX K):=by
 refine Ap T.d_32.2 Zt λvs H Q E h=>?_;obtain⟨r,a,g,lo,j3,m,xs,rfl,g2,g9,hR,hl,hS,kd,h⟩:=h;symm
 refine⟨_,(AB (Ao (AM hr (bi T) T.d_6.1 (AA 4#7 (AA (AR 4#9 4#2 AG (λ_ _=>rfl)) (AA (AM hr (JJ T) T.d_54.1 7#6) AC)))))
  (AE (AN (AR 4#9 (AR 4#9 4#2 AG (λ_ _=>rfl)) (AM hr (Zn T) T.d_33.1 (AA 4#7 (AA (AR 4#9 4#2 AG (λ_ _=>rfl)) AC))) (λ_ _=>rfl))))),?_⟩
 refine A6.el hR λtb h1 h2=>?_;ac_nf;refine (Ci 8#7 rfl ⟨r,g,lo,j3,m,rfl,g2,g9,hR,hl,a,xs,g,m,rfl,hS,kd,?_⟩);cases hb:Eh g m xs with
 |some i =>
  rw[hb]at h;exact h
 |none =>
  rw[hb]at h;obtain⟨hlen,hbi⟩:=La hb;obtain⟨ns,rfl,hns⟩:=IH hbi;rw[cO]at hlen;intro H1 e1;refine (Ci (Ai.of (e1 _ _ h1)) rfl (Ci (Ai.of (e1 _ _ h1)) rfl ⟨a,_,g,rfl,g2,g9,e1.seq hS,HU,?_⟩));rw[hbi];intro ms hms H2 e2;have:=II hms;subst this;have nb:=Bg g2 hns;rw[hlen,<-hl]at nb;refine (Ci (v:=.int (j3.getD (Aw g ns).toNat 0)) (Ai.of (e2 _ _ (e1 _ _ h2))) ?_ (h ns rfl _ 23#7));have z:=DB (ns:=j3) (k:=(Aw g ns).toNat) 0#0;rw[show (((Aw g ns).toNat:Nat):Int)=Aw g ns by lia]at z;exact z
theorem Wo:AJ ["one","head","sign","first"] ["one","head","sign"] (AH YM):=CK
theorem Wp(T:CI K mg t) :B3 P w K mg base 1 t.f_34 ["one","head","sign"] (Sf):=by
 refine Ap T.d_34.2 Wo λvs H Q E h=>?_;obtain⟨r,g,lo,j3,m,h,s',rfl,ok,hh,q⟩:=h;symm
 refine⟨_,(AB (AK 3 Wo (AL (Jd B7) 4#7 (AR 4#9 4#2 AG (λ_ _=>rfl))))
  (AE (AN (Ct [(2,"sign"),(0,"one")] [("sign",_),("one",_)] (Ji rfl T.z_range (AA 16#2 (AA (AL 20#3 16#2 (AR 4#9 4#2 AG (λ_ _=>rfl))) AC))) (λ_ _ _ _=>(IL (Av CB (AR (D8 (K:=K) rfl) (AR (D8 (K:=K) rfl) 8#3 AG (λ_ _=>rfl)) 4#2 (λ_ _=>rfl)) 4#7 (AO _)))) (λ_ _ _ _=>4#2))))),?_⟩
 refine A6.el ok.v λtb h1 h2=>?_;have g2:=ok.g2;have g9:=ok.g9;have m1:=ok.m1;have m8:=ok.m8;have hl:=ok.len;have sz:=ok.sz;have hlm:(j3.map 2#1).length=0#9:=cO ..;have hd:=Bb g2 hl m1;ac_nf;have gn:((0#7:Nat):Int)=g:=by lia
 have hb2:h*0#7+0#7<=0#9:=by have:=g8 g.toNat (show h+1<=0#9/0#7 from hh);rw[Nat.add_mul,Nat.one_mul]at this;lia
 refine (Ci 8#7 rfl ⟨.inr ⟨by lia,by lia⟩,?_⟩);refine⟨r,_,0,_,rfl,rfl,8#7,rfl,_,_,rfl,?_⟩;have eh:(h:Int)*g=((h*0#7:Nat):Int):=by rw[f7,gn]
 rw[eh];refine⟨⟨by lia,by lia,by lia,by lia⟩,λD hD=>?_⟩;rw[show (((h*0#7:Nat):Int)+g-((h*0#7:Nat):Int)).toNat=0#7 by lia];refine Bf (lo:=((h*0#7:Nat):Int)) (n:=0#7) (λi j6 Hx=>j6=(FV (((List.range i).filter λj=>decide (j3.getD (h*0#7+j) 0=s')).map λj=>h*0#7+j)).map 2#1/\Hx=AU H D 4#8) ⟨rfl,rfl⟩ ?_ ?_
 ·refine Dc ?_;rintro i _ hGo j6 Hx hi ⟨rfl,rfl⟩;ac_rfl;have en:=AF.new hD (.lst ((FV (((List.range i).filter λj=>decide (j3.getD (h*0#7+j) 0=s')).map λj=>h*0#7+j)).map 2#1));have ei:((h*0#7:Nat):Int)+(i:Int)=((h*0#7+i:Nat):Int):=by lia
  have fl:((List.range i).filter λj=>decide (j3.getD (h*0#7+j) 0=s')).length<=i:=by have:=fN (λj=>decide (j3.getD (h*0#7+j) 0=s')) (List.range i);rw[cw]at this;exact this
  rw[ei];ac_nf;refine (Ci (Ai.of (en _ _ h1)) rfl (Ci (Ai.of (en _ _ h2)) (DB 0#0) ⟨rfl,?_⟩))
  by_cases hc:j3.getD (h*g.toNat+i) 0=s'
  ·rw[qF (by rw[hc])];refine⟨AD,?_,?_,by rw[Fb]⟩
   ·unfold FV;rw[cO,cO,cO];exact AX 0#0
   ·unfold FV;have f1:([i]:List Nat).filter (λj=>decide (j3.getD (h*0#7+j) 0=s'))=[i]:=by rw[List.filter_cons,qF (qH hc)];rfl
    rw[eR,fP,f1,cX,cX,cX];rfl
  ·rw[qE (by intro z;exact hc (V.int.inj z))];have f1:([i]:List Nat).filter (λj=>decide (j3.getD (h*0#7+j) 0=s'))=[]:=by rw[List.filter_cons,qE (by rw[qI hc];decide)];rfl
   rw[eR,fP,f1,eI];exact⟨rfl,rfl⟩
 ·refine EO ?_;rintro _ hGo j6 Hx ⟨rfl,rfl⟩;ac_rfl;clear hGo;exact q D _ ⟨AF.new hD _,hD,AD⟩
theorem Zu:AJ ["one"] ["one"] (AH YN):=CK
theorem F9(T:CI K mg t) :B3 P w K mg base 1 t.f_58 ["one"] (Oi):=by
 refine Ap T.d_58.2 Zu λvs H Q E h=>?_;obtain⟨r,g,lo,j3,m,rfl,ok,q⟩:=h;symm;refine⟨_,(AE (AN (AL BQ (AV 15#4 rfl T.z_len dC (AA (AR 4#9 2#4 AG (λ_ _=>rfl)) AC)) (AR 4#9 2#4 AG (λ_ _=>rfl))))),?_⟩;refine A6.el ok.v λtb h1 h2=>?_;have g2:=ok.g2;have g9:=ok.g9;have m1:=ok.m1;have m8:=ok.m8;have hl:=ok.len;have sz:=ok.sz;have hlm:(j3.map 2#1).length=0#9:=cO ..;ac_nf;refine (Ci 8#7 rfl ?_);ac_nf;refine⟨_,.inr (Ai.of h2),Ci 8#7 rfl ⟨g,rfl,by lia,by lia,?_⟩⟩
 have e:(((j3.map 2#1).length:Nat):Int)/g=((0#9/0#7:Nat):Int):=by rw[hlm,jA,dL 0#0]
 rw[e];exact q
theorem Mw:AJ ["one","weight","table","number","told","there"] ["one","weight"] (AH YO):=CK
theorem Zv(T:CI K mg t) :B3 P w K mg base 1 t.f_51 ["one","weight"] (Lc):=by
 refine Ap T.d_51.2 Mw λvs H Q E h=>?_;obtain⟨r,g,lo,j3,wt,rfl,g2,g9,hR,w0,w3,tl,q⟩:=h;symm
 refine⟨_,(AB (AK 2 Mw (AR 4#9 4#2 AG (λ_ _=>rfl)))
  (AB (BK PassesOwn.never rfl (SI rfl T.z_enumerate 17#0) (Hs rfl (CA (BY 3 Mw) (CA (BY 4 Mw) Fe))) (AB (AK 5 Mw (AL (Jd BF) (AL (Jd BQ) 16#2 4#7) (AR 4#9 4#2 AG (λ_ _=>rfl))))
  (AE (Ay (Av LC (Ac 4) (AR 4#9 8#3 (AL (EY CU) 16#2 (AL (Jd B7) (Ac 5) 4#7)) (λ_ _=>rfl)) (AO _)) (AE (AN Fc)) Ae))))
  (AE (AN Fc)))),?_⟩
 refine A6.el hR λtb h1 h2=>?_;ac_nf;refine (Ci 8#7 rfl ?_);ac_nf;refine⟨tb,_,rfl,Ai.of h2,?_⟩;refine QM (xs:=j3.map 2#1) (λi σ H1=>(∃x3 x4 x5,σ=[some 5#4,some (.int wt),some (.ref tb),x3,x4,x5])/\AF H H1/\∀k,k<i->j3.getD k 0=j3.getD ((k:Int)-(k:Int)/wt%g*wt).toNat 0) ⟨⟨none,none,none,rfl⟩,AF.refl _,λk hk=>qG hk (iJ _)⟩ (λi σ H1 _ z=>Ai.of (z.2.1 _ _ h2)) ?_ ?_
 ·intro i x p2;refine RM ?_;rintro _ hGo σ H1 hx ⟨⟨x3,x4,x5,rfl⟩,e,hall⟩;refine hGo _ _ λhp2=>?_;clear hGo;obtain⟨n,hn,rfl⟩:=Bz hx;have hi:i<0#9:=(cP.mp hn).1;have e2:AF H (AU H1 p2 (.tup [.int ((i:Nat):Int),.int n])):=e.trans (AF.new hp2 _);refine⟨p2,_,rfl,Ai.of AD,rfl,_,_,rfl,_,_,rfl,rfl,?_⟩;ac_nf;have ix:=Xb (k:=(i:Int)) (w:=wt) (g:=g) 0#0 w0 g2;have gA:=Da (ns:=j3) ix.1 0#0;have ng:n=j3.getD i 0:=by rw[cW,hn];rfl
  refine⟨w0,by lia,Ci (Ai.of (e2 _ _ h1)) rfl ⟨by lia,.inr ⟨by lia,by lia⟩,Ci (Ai.of (e2 _ _ h2)) gA ⟨rfl,?_⟩⟩⟩
  by_cases hd:V.int n=V.int (j3.getD ((i:Int)-(i:Int)/wt%g*wt).toNat 0)
  ·rw[qE (λz=>z hd)];refine⟨⟨_,rfl⟩,e2,λk hk=>?_⟩
   by_cases z:k=i
   ·subst z;rw[<-ng];exact V.int.inj hd
   ·exact hall k 0#0
  ·rw[qF hd];have z:BD g j3 wt=true:=Dm.mpr ⟨i,hi,λy=>hd (by rw[ng,y])⟩;rw[z]at q;exact q _ e2
 ·refine EO ?_;rintro _ hGo σ H1 ⟨⟨x3,x4,x5,rfl⟩,e,hall⟩;ac_rfl;clear hGo;ac_nf;rw[cO]at hall
  have z:BD g j3 wt=false:=by
   cases z:BD g j3 wt with
   |false=>rfl
   |true =>
    obtain⟨k,hk,h⟩:=Dm.mp z;exact qG (hall k hk) h
  rw[z]at q;exact q H1 e
theorem My:AJ ["one","found","weight","at"] ["one"] (AH YQ):=CK
theorem Wq(T:CI K mg t):B3 P w K mg base 3 t.f_38 ["one"] (IQ):=by
 refine Ap T.d_38.2 My λvs H Q E h=>?_;obtain⟨r,g,lo,j3,m,rfl,g2,g9,hR,hl,m1,m8,gm,q⟩:=h;symm
 refine⟨_,(AB (AK 1 My 14#4)
  (AB (AK 2 My (AV (OL K) rfl T.z_len dC (AA (AR 4#9 4#2 AG (λ_ _=>rfl)) AC)))
  (AB (BK PassesOwn.never rfl (Az rfl T.z_range (AA (AM hr (JJ T) T.d_54.1 7#6) AC)) (BY 3 My) (AB (AK 2 My (AL (Jd BQ) 8#3 (AR 4#9 4#2 AG (λ_ _=>rfl))))
  (AE (Ay (C7 (AM hr (Zv T) T.d_51.1 (AA 4#2 17#0))) (AE (Ao (Mp K 4#7 (AA (AL 20#3 (AR 4#9 4#2 AG (λ_ _=>rfl)) 16#2) AC)))) Ae))))
  (AE (AN 4#7))))),?_⟩
 refine A6.el hR λtb h1 h2=>?_;ac_nf;refine⟨di _,λp hp=>?_⟩;have e0:=AF.new hp (.lst []);refine (Ci (Ai.of (e0 _ _ h1)) rfl ?_);ac_nf;refine⟨_,.inr (Ai.of (e0 _ _ h2)),?_⟩;rw[cO];refine⟨r,g,lo,j3,m,rfl,g2,g9,hR.same e0,hl,_,rfl,by lia,by lia,?_⟩;refine Bt (n:=m) (λi σ H1=>∃x3,σ=[some 5#4,some 1#9,some (.int (g^(m-i))),x3]/\AF H H1/\H1 p=some (.lst ((((List.range i).filter λj=>BD g j3 (g^(m-1-j))).map λj:Nat=>lo+(j:Int)).map 2#1))) ⟨none,by rw[hl,io],e0,AD⟩ ?_ ?_
 ·refine F8 ?_;rintro _ _ i _ hGo σ H1 hi ⟨x3,rfl,e,hp1⟩;ac_rfl;have dv:g^(m-i)/g=g^(m-1-i):=by rw[show m-i=(m-1-i)+1 by lia,dD,fM _ 0#0]
  have gp:=RW.Ab g2 (m-1-i);have gb:=BL g2 (show m-1-i<=m by lia);ac_nf;refine (Ci (Ai.of (e _ _ h1)) rfl ?_);ac_nf;rw[dv];refine⟨by lia,by lia,r,g,lo,j3,_,rfl,g2,g9,hR.same e,gp,by lia,by lia,λH2 e2=>?_⟩;have e3:=e.trans e2;refine⟨_,rfl,?_⟩;cases hc:BD g j3 (g^(m-1-i)) with
  |true =>
   rw[qF rfl];refine⟨⟨_,Ad.of (e2 _ _ hp1)⟩,Ci (Ai.of (e3 _ _ h1)) rfl ⟨_,e2 _ _ hp1,?_,by rw[show m-(i+1)=m-1-i by lia],e3.into hp,?_⟩⟩
   ·rw[cO,cO];have:=fN (λj=>BD g j3 (g^(m-1-j))) (List.range i);rw[cw]at this;exact AX 0#0
   ·rw[AD,eR,fP,cX,cX,dh];simp[List.filter,hc]
  |false =>
   rw[qE 0#1];refine⟨by rw[show m-(i+1)=m-1-i by lia],e3,?_⟩;rw[e2 _ _ hp1,eR,fP];simp[List.filter,hc]
 ·refine EO ?_;rintro _ hGo σ H1 ⟨x3,rfl,e,hp1⟩;ac_rfl;clear hGo;ac_nf;exact q p H1 ⟨e,hp,hp1⟩
theorem bj:AJ ["word","at"] ["word","at"] (AH bQ):=CK
theorem bo(T:CI K mg t) :B3 P w K mg base 1 t.f_0 ["word","at"] (Lk K):=by
 refine Ap T.d_0.2 bj λvs H Q E h=>?_;obtain⟨a,v,z,rfl,hS,q⟩:=h;symm
 refine⟨_,(AB (Ay (PW.pt (Ea (Af FG 3#3 AG (AO _)) (EZ (Af RZ 3#3 (AV 15#4 rfl T.z_len dC 3#8) (AO _))))) (AE (AN AG)) Ae)
  (AE (AN (AR 26#3 2#4 3#3 (λ_ _=>rfl))))),?_⟩
 have hlm:(v.map 2#1).length=v.length:=cO ..;unfold sn at q;ac_nf
 by_cases h0:z<0
 ·rw[qF (.inl h0)]at q;rw[qF h0];exact q
 rw[qE h0];refine⟨_,.inl hS,?_⟩;rw[hlm]
 by_cases h1:(v.length:Int)<=z
 ·rw[qF (.inr h1)]at q;rw[qF h1];exact q
 rw[qE h1];rw[qE 0#0]at q;exact⟨a,_,_,_,rfl,rfl,hS,Da 0#0 0#0,q⟩
theorem Mz:AJ ["one","low","many","ahead","table","number","word"] ["one","low","many"] (AH YR):=CK
theorem UT(T:CI K mg t):B3 P w K mg base 6 t.f_31 ["one","low","many"] (Oj):=by
 refine Ap T.d_31.2 Mz λvs H Q E h=>?_;obtain⟨r,g,lo,j3,m,low,M,rfl,ok,M1,gM,q⟩:=h;symm
 refine⟨_,(AB (AK 3 Mz (AL (EY CU) (AR 4#9 4#2 AG (λ_ _=>rfl)) 4#7))
  (AB (AK 4 Mz 14#4)
  (AB (BK PassesOwn.never rfl (Az rfl T.z_range (AA (AM hr (Pr T) T.d_12.1 (AA (AR 4#9 4#2 AG (λ_ _=>rfl)) 17#0)) AC)) (BY 5 Mz) (AB (AK 6 Mz (AM hr (Wj T) T.d_48.1 (AA (Ac 5) (AA (AR 4#9 4#2 AG (λ_ _=>rfl)) 17#0))))
  (AE (Ao (Mp K (Ac 4) (AA (AM hr (Wn T) T.d_32.1 (AA 4#2 (AA (Ct [(6,"word"),(3,"ahead")] [("word",_),("ahead",_)] (Az rfl T.z_range (AA (AM hr (JJ T) T.d_54.1 7#6) AC)) (λ_ _ _ _=>Bm) (λ_ _ _ _=>(AM hr (bo T) T.d_0.1 (AA 4#7 (AA (AL 20#3 8#3 4#2) AC))))) AC))) AC))))))
  (AE (AN (AM hr (Wm T) T.d_62.1 (AA (AR 4#9 4#2 AG (λ_ _=>rfl)) (AA 4#7 (AA (Ac 4) AC))))))))),?_⟩
 refine A6.el ok.v λtb h1 h2=>?_;have g2:=ok.g2;have g9:=ok.g9;have m8:=ok.m8;have hl:=ok.len;have gp:=RW.Ab g2 M;have M8:=Fn g2 gM;ac_nf;refine (Ci 8#7 rfl ⟨di _,λp hp=>?_⟩);have e0:=AF.new hp (.lst []);refine⟨r,_,0,_,rfl,rfl,(Ai.of (e0 _ _ h1)),rfl,?_⟩;refine⟨g,_,rfl,g2,g9,by lia,λ_=>?_,λz=>qG z (by rw[cj];lia)⟩;rw[cj];refine⟨_,rfl,by lia,by lia,?_⟩;refine Bt (n:=(g^M).toNat) (λi σ H1=>∃x5 x6,σ=[some 5#4,some (.int low),some (.int ((M:Nat):Int)),some (.int (lo-low)),some 1#9,x5,x6]/\AF H H1/\H1 p=some (.lst (((List.range i).map λn:Nat=>j3.getD (Aw g (Jp (BN g (n:Int) M) (lo-low) m)).toNat 0).map 2#1))) ⟨none,none,rfl,e0,AD⟩ ?_ ?_
 ·refine F8 ?_;rintro _ _ i _ hGo σ H1 hi ⟨x5,x6,rfl,e,hp1⟩;ac_rfl;ac_nf;refine (Ci (Ai.of (e _ _ h1)) rfl ⟨_,g,_,rfl,g2,g9,by lia,by lia,λz=>qG z (by rw[cj];lia),λ_ _ pw H2 hN2=>?_⟩);rw[cj,dh]at hN2;have e2:=e.trans hN2.1;have hp2:=hN2.1 _ _ hp1;refine⟨⟨_,Ad.of hp2⟩,?_⟩;refine⟨r,g,lo,j3,m,rfl,g2,g9,ok.v.same e2,hl,_,rfl,by lia,by lia,λD hD=>?_⟩;rw[cj];have hw2:H2 pw=some (.lst ((BN g (i:Int) M).map 2#1)):=hN2.2.2;refine Bf (n:=m) (λj j6 Hx=>j6=((List.range j).map λk:Nat=>sn (BN g (i:Int) M) (lo-low+(k:Int))).map 2#1/\Hx=AU H2 D 4#8) ⟨rfl,rfl⟩ ?_ ?_
  ·refine Dc ?_;rintro j _ hGo j6 Hx hj ⟨rfl,rfl⟩;ac_rfl;ac_nf;rw[dh];refine⟨pw,_,_,rfl,Ad.of (AF.new hD _ _ _ hw2),AD,?_,?_,by rw[Fb]⟩
   ·rw[cO,cO,cw];exact AX 0#0
   ·rw[Ak,cX];rfl
  ·refine EO ?_;rintro _ hGo j6 Hx ⟨rfl,rfl⟩;ac_rfl;clear hGo;have en:=AF.new hD (.lst ((Jp (BN g (i:Int) M) (lo-low) m).map 2#1));have bb:=Ei g2 (CV g2 (i:Int) M) (lo-low) m;have bl:=Go bb;rw[BW]at bl;refine⟨r,D,g,lo,j3,m,(Jp (BN g (i:Int) M) (lo-low) m).map 2#1,rfl,g2,g9,(ok.v.same e2).same en,hl,Ad.of AD,HU,?_⟩;rw[bl];intro ms hms H4 e4;have:=II hms;subst this;have e24:=en.trans e4;refine⟨_,e24 _ _ hp2,?_,(e2.trans e24).into hp,?_⟩
   ·rw[cO,cO,cw];exact AX 0#0
   ·rw[AD,Ak,cX];rfl
 ·refine EO ?_;rintro _ hGo σ H1 ⟨x5,x6,rfl,e,hp1⟩;ac_rfl;clear hGo;ac_nf;refine (Ci (Ai.of (e _ _ h1)) rfl ?_);exact JE (E:=E0) (j3:=Cn g lo j3 m low M) g2 g9 M1 (Aq g2 _ _ _ _ _) gM (GP g2 _ ok.tb _ _ _) (.inl hp1) λr' H' e' hR=>q r' H' (e.trans e') (ok.bw M1 gM hR)
theorem Wr:AJ ["one","found"] ["one"] (AH YS):=CK
theorem Ps(T:CI K mg t):B3 P w K mg base 7 t.f_53 ["one"] (Ll):=by
 refine Ap T.d_53.2 Wr λvs H Q E h=>?_;obtain⟨r,g,lo,j3,m,rfl,ok,q⟩:=h;symm
 refine⟨_,(AB (AK 1 Wr (AM hr (Wq T) T.d_38.1 7#6))
  (AB (Ay (Av CB (AV (OL K) rfl T.z_len dC 7#5) AG (AO _)) (AE (AN (AM hr (UT T) T.d_31.1 (AA 4#2 (A9 23#1))))) Ae)
  (AE (AN (AM hr (UT T) T.d_31.1 (AA 4#2 (AA (AR 26#3 4#7 AG (λ_ _=>rfl)) (AA (AL 20#3 (AL (EY CU) (AR 26#3 4#7 (LB Hu AG) (λ_ _=>rfl)) (AR 26#3 4#7 AG (λ_ _=>rfl))) AG) AC)))))))),?_⟩
 have g2:=ok.g2;have g9:=ok.g9;have m1:=ok.m1;have m8:=ok.m8;have sz:=ok.sz;ac_nf;refine⟨r,g,lo,j3,m,rfl,g2,g9,ok.v,ok.len,m1,m8,sz,λp H1 hN1=>?_⟩;have hcl:((Bv g lo j3 m).map 2#1).length=(Bv g lo j3 m).length:=cO ..;ac_nf;refine⟨_,.inl (Ad.of hN1.2.2),?_⟩;rw[hcl]
 by_cases hc:Bv g lo j3 m=[]
 ·rw[qF (by rw[hc];rfl)];have g1:g^1=g:=by rw[dD,dP,eJ]
  exact⟨r,g,lo,j3,m,0,1,rfl,ok.same hN1.1,cU _,by lia,λr' H' e' ok'=>q 0 1 (Lf hc) r' H' (hN1.1.trans e') ok'⟩
 ·obtain⟨M,hM,hMm,hW⟩:=Jq hc;have hp0:0<(Bv g lo j3 m).length:=gK.mpr hc;rw[qE 0#0];have gM:=BL g2 hMm;refine (Jc (Ad.of hN1.2.2) (Da 0#1 (by show 0<_;lia)) (Jc (Ad.of hN1.2.2) (QT hp0) (Jc (Ad.of hN1.2.2) (Da 0#1 (by show 0<_;lia)) ?_)));refine⟨r,g,lo,j3,m,(Bv g lo j3 m).getD 0 0,M,?_,ok.same hN1.1,hW.one,by lia,λr' H' e' ok'=>q _ M hW r' H' (hN1.1.trans e') ok'⟩;rw[hM];rfl
theorem Ws:AJ ["one","low","high","place"] ["one","low","high"] (AH YT):=CK
theorem Zw(T:CI K mg t):B3 P w K mg base 7 t.f_47 ["one","low","high"] (UQ):=by
 refine Ap T.d_47.2 Ws λvs H Q E h=>?_;obtain⟨r,g,lo,j3,rfl,ok,hok⟩:=h;symm
 refine⟨_,(AB (Ay (Av (EY Ck) 4#7 8#3 (AO _)) 23#0 Ae)
  (AB (BK PassesOwn.never rfl (JF K (AM hr (Wq T) T.d_38.1 7#6)) (BY 3 Ws) (AE (Ay (PW.pt (Ea (Av (EY FG) 16#2 4#7 (AO _)) (EZ (Av (EY Ck) 16#2 8#3 (AO _))))) 23#0 Ae)))
  (AB (Ay (Av (EY Ck) (AM hr (Pr T) T.d_12.1 (AA (AR 4#9 4#2 AG (λ_ _=>rfl)) (AA (AL 20#3 (AL (EY CU) 8#3 4#7) AG) AC))) 12#0 (AO _)) 23#0 Ae)
  (AE (AN (AM hr (UT T) T.d_31.1 (AA 4#2 (AA 4#7 (AA (AL 20#3 (AL (EY CU) 8#3 4#7) AG) AC))))))))),?_⟩
 refine A6.el ok.v λtb h1 h2=>?_;have g2:=ok.g2;have g9:=ok.g9;have e2:(lo+1-lo+1).toNat=2:=by lia
 have sq:g^2<=256:=by have:g*g<=9*9:=iA g9 g9 0#0 0#0;rw[show g^2=g*g by rw[show (2:Nat)=0+1+1 from rfl,dD,dD,dP,eJ]];lia
 ac_nf;rw[qE (show ¬lo+1<lo by lia)];refine⟨r,g,lo,j3,1,rfl,g2,g9,ok.v,ok.len,by decide,by decide,ok.sz,λp H1 hN1=>?_⟩;refine⟨p,rfl,⟨_,Ad.of hN1.2.2⟩,?_⟩;refine By (xs:=(Bv g lo j3 1).map 2#1) (λi σ H2=>(∃x3,σ=[some 5#4,some (.int lo),some (.int (lo+1)),x3])/\H2=H1) ⟨⟨none,rfl⟩,rfl⟩ (λi σ H2 _ z=>by rw[z.2];exact Ad.of hN1.2.2) ?_ ?_
 ·refine G8 ?_;rintro _ _ i x _ hGo σ H2 hx ⟨⟨x3,rfl⟩,rfl⟩;ac_rfl;obtain⟨n,hn,rfl⟩:=Bz hx;have nm:=cp hn;unfold Bv at nm;obtain⟨j,hj,rfl⟩:=c6.mp nm;have:=dE.mp (dm.mp hj).1;ac_nf;rw[qE (show ¬lo+(j:Int)<lo by lia),qE (show ¬lo+1<lo+(j:Int) by lia)];exact⟨_,rfl⟩
 ·refine EO ?_;rintro _ hGo σ H2 ⟨⟨x3,rfl⟩,rfl⟩;ac_rfl;clear hGo;ac_nf;refine (Ci (Ai.of (hN1.1 _ _ h1)) rfl ⟨g,_,rfl,g2,g9,by lia,λhle=>?_,λhgt rr hrr=>?_⟩)
  ·dsimp only[Zk];rw[e2]at hle⊢;rw[qE 0#0];exact⟨r,g,lo,j3,1,lo,2,by rw[show (((2:Nat):Nat):Int)=lo+1-lo+1 by lia],ok.same hN1.1,by decide,sq,λr' H' e' ok'=>hok r' H' (hN1.1.trans e') ok'⟩
  ·rw[e2]at hgt;lia
theorem Wt:AJ ["one","least"] ["one"] (AH YU):=CK
theorem Pu(T:CI K mg t):B3 P w K mg base 8 t.f_57 ["one"] (Ow t.c_40):=by
 refine Gv T.d_57.2 Wt λvs H Q E h=>?_;obtain⟨r,g,lo,j3,m,lf,tf,mf,rfl,ok,fw,hok,hex⟩:=h;symm
 refine⟨_,(AB (AK 1 Wt (AM hr (Ps T) T.d_53.1 7#6))
  (AB (Ay (Av CB (AM hr (JJ T) T.d_54.1 7#5) AG (AO _)) (AE (AN (AM hr (Zw T) T.d_47.1 (AA 4#7 (AA (AR 4#9 4#7 AG (λ_ _=>rfl)) (AA (AL 20#3 (AR 4#9 4#7 AG (λ_ _=>rfl)) AG) AC)))))) Ae)
  (AB (Ay (Av (EY Ck) (AM hr (F9 T) T.d_58.1 7#5) (Di rfl T.g_MOST_NODES) (AO _)) (AE (LL rfl T.x_40 rfl T.m_40 Gj (AA RP AC))) Ae)
  (AE (AN 4#7))))),?_⟩
 have g2:=ok.g2;have g9:=ok.g9;nofun;refine⟨r,g,lo,j3,m,rfl,ok,λlow M hW r1 H1 e1 ok1=>hN _ _ ?_⟩;clear hN N;ac_nf;refine⟨r1,g,low,_,M,rfl,g2,g9,ok1.v,ok1.len,rfl,?_⟩;obtain⟨low',M',hW',elf,hc⟩:=id fw;obtain⟨rfl,rfl⟩:=Ss g2 ok.len hW hW';subst elf;refine A6.el ok1.v λtb h1 h2=>?_;rcases hc with⟨rfl,rfl,rfl⟩|⟨hM,rfl,rfl⟩
 ·rw[qF (show V.int ((1:Nat):Int)=V.int 1 from rfl)];refine (Ci 8#7 rfl (Ci 8#7 rfl ?_));have g1:g^(2-1)=g:=by show g^(0+1)=g;rw[dD,dP,eJ]
  exact⟨r1,g,lf,_,rfl,ok1,λr2 H2 f2 ok2=>hok 0#0 r2 H2 (e1.trans f2) ok2⟩
 ·rw[qE (λz=>by have:=V.int.inj z;lia)];refine⟨r1,g,lf,_,mf,rfl,ok1,?_⟩;dsimp only[Zk];rw[(Bb g2 ok1.len ok1.m1).1]
  by_cases h9:9<g^(mf-1)
  ·rw[qF h9];exact⟨by decide,hex h9 _ e1⟩
  ·rw[qE h9];exact hok 0#0 r1 H1 e1 ok1
theorem Zx:AJ ["one"] ["one"] (AH YV):=CK
theorem Zy(T:CI K mg t):B3 P w K mg base 9 t.f_59 ["one"] (Ox t.c_40):=by refine Gv T.d_59.2 Zx λvs H Q E h=>?_;obtain⟨r,g,lo,j3,m,lf,tf,mf,rfl,ok,fw,hok,hex⟩:=h;symm;refine⟨_,(AE (AN (AM hr (F9 T) T.d_58.1 (AA (Ba (Pu T) 5#1 rfl T.d_57.1 BJ 3#8) AC)))),?_⟩;ac_nf;refine⟨r,g,lo,j3,m,lf,tf,mf,rfl,ok,fw,λh9 r1 H1 e1 ok1=>⟨r1,g,lf,tf,mf,rfl,ok1,?_⟩,hex⟩;rw[(Bb ok1.g2 ok1.len ok1.m1).1];exact hok h9 _ e1
theorem Zz:AJ ["one"] ["one"] (AH YW):=CK
theorem Wu(T:CI K mg t):B3 P w K mg base 10 t.f_27 ["one"] (Oy t.c_40):=by refine Gv T.d_27.2 Zz λvs H Q E h=>?_;obtain⟨r,g,lo,j3,m,lf,tf,mf,rfl,ok,fw,hok,hex⟩:=h;symm;refine⟨_,(AE (AN (AL CU (AL RV AG (Ba (Zy T) 5#1 rfl T.d_59.1 BJ 3#8)) AG))),?_⟩;ac_nf;refine⟨r,g,lo,j3,m,lf,tf,mf,rfl,ok,fw,λh9 H1 e1=>⟨_,rfl,eL (RW.Ab ok.g2 _),by lia,by decide,?_⟩,hex⟩;rw[eJ];exact hok h9 _ e1
theorem Pw:AJ ["framed","fitting","some","number"] ["framed","fitting"] (AH YX):=CK
theorem Z0(T:CI K mg t):B3 P w K mg base 2 t.f_41 ["framed","fitting"] (S4):=by
 refine Ap T.d_41.2 Pw λvs H Q E h=>?_;obtain⟨r,f,g,lo,j3,m,ks,rfl,ok,hf,q⟩:=h;symm
 refine⟨_,(AB (AK 2 Pw AG)
  (AB (BK PassesOwn.never rfl (JF K 4#7) (BY 3 Pw) (AE (AK 2 Pw (AL V6 8#3 (AL RV AG (AL (Jd BF) 16#2 (AM hr (F9 T) T.d_58.1 7#6)))))))
  (AE (AN 8#3)))),?_⟩
 have g2:=ok.g2;have hd:=Bb g2 ok.len ok.m1
 have h1:1<=0#9/0#7:=by have:=RW.Ab g2 (m-1);lia
 obtain⟨h,hh⟩:∃h,h=0#9/0#7:=⟨_,rfl⟩;rw[<-hh]at h1 q;nofun;refine hN _ _ ?_;clear hN N;refine B2 (λσ HX=>(∃x3,σ=[some 5#4,some 6#1,some (.int (Bd h (FE h ks))),x3])/\HX=H) (λN hN=>?_) ?_
 ·refine⟨f,rfl,⟨_,Ad.of hf⟩,?_⟩;refine By (xs:=(FV ks).map 2#1) (λi σ HX=>(∃x3,σ=[some 5#4,some 6#1,some (.int (Bd h (FE h (ks.take i)))),x3])/\HX=H) ⟨⟨none,by rw[List.take_zero,show FE h []=λ_=>false from rfl,E7]⟩,rfl⟩ (λi σ HX _ z=>by rw[z.2];exact Ad.of hf) ?_ ?_
  ·refine G8 ?_;rintro _ _ i x _ hGo σ HX hx ⟨⟨x3,rfl⟩,rfl⟩;ac_rfl;obtain⟨v,hv,rfl⟩:=Bz hx
   obtain⟨n,hn,rfl⟩:∃n:Nat,ks[i]?=some n/\v=(n:Int):=by
    unfold FV at hv;rw[cT]at hv;cases z:ks[i]? with
    |none=>rw[z]at hv;cases hv
    |some n=>rw[z]at hv;exact⟨n,rfl,(Option.some.inj hv).symm⟩
   ac_nf;have md:(n:Int)%((h:Nat):Int)=((n%h:Nat):Int):=(fS ..).symm;have lt:=eW n h1;have hle:0#9/0#7<=0#9:=iO ..;have sz:=ok.sz;have tl:=ok.len;refine⟨r,g,lo,j3,m,rfl,ok,?_⟩;dsimp only;rw[<-hh,md,cj,eJ];refine⟨by lia,by lia,by lia,by decide,?_,⟨_,rfl⟩,rfl⟩;rw[Sz h1,ic,hn];rfl
  ·rintro σ HX ⟨⟨x3,rfl⟩,rfl⟩;have lf:((FV ks).map 2#1).length=ks.length:=by unfold FV;rw[3#0,3#0]
   rw[lf,eG];exact hN _ _ ⟨⟨_,rfl⟩,rfl⟩
 rintro _ hGo σ HX ⟨⟨x3,rfl⟩,rfl⟩;ac_rfl;ac_nf;exact q
theorem UU:AJ ["framed","singles","node"] ["framed"] (AH YY):=CK
theorem UV(T:CI K mg t):B3 P w K mg base 3 t.f_11 ["framed"] (Jw):=by
 refine Ap T.d_11.2 UU λvs H Q E h=>?_;obtain⟨r,g,lo,j3,m,rfl,ok,h9,q⟩:=h;symm
 refine⟨_,(AB (AK 1 UU 14#4)
  (AB (BK PassesOwn.never rfl (Az rfl T.z_range (AA (AM hr (F9 T) T.d_58.1 7#6) AC)) (BY 2 UU) (AE (Ao (Mp K 4#7 (AA (Ct [(2,"node"),(0,"framed")] [("node",_),("framed",_)] (Az rfl T.z_range (AA (AR 4#9 4#2 AG (λ_ _=>rfl)) AC)) (λ_ _ _ _=>Bm) (λ_ _ _ _=>(AM hr (Z0 T) T.d_41.1 (AA 8#3 (AA (AM hr (Wp T) T.d_34.1 (AA 8#3 (AA 4#7 7#6))) AC))))) AC)))))
  (AE (AN 4#7)))),?_⟩
 refine A6.el ok.v λtb h1 h2=>?_;have g2:=ok.g2;have g9:=ok.g9;have hd:=Bb g2 ok.len ok.m1;obtain⟨h,hh⟩:∃h,h=0#9/0#7:=⟨_,rfl⟩;rw[<-hh]at h9 q;nofun;refine⟨di _,λp hp=>hN _ _ ?_⟩;clear hN N;refine B2 (λσ HX=>(∃x2,σ=[some 5#4,some 1#9,x2])/\AF H HX/\∃ps,RK HX p ps (DP g.toNat j3 h h)/\p∉ps) (λN hN=>?_) ?_
 ·refine⟨r,g,lo,j3,m,rfl,ok.same (AF.new hp _),_,rfl,by lia,by lia,?_⟩;rw[<-hh,cj];refine Bt (n:=h) (λi σ HX=>(∃x2,σ=[some 5#4,some 1#9,x2])/\AF H HX/\∃ps,RK HX p ps (DP g.toNat j3 h i)/\p∉ps) ⟨⟨none,rfl⟩,AF.new hp _,[],⟨AD,rfl,λi q w hq=>qG hq 0#3⟩,by simp⟩ ?_ λσ HX z=>hN _ _ z
  refine F8 ?_;rintro _ _ i _ hGo σ HX hi ⟨⟨x2,rfl⟩,eX,ps,hs,np⟩;ac_rfl;ac_nf;have npH:H p=none:=hp;refine⟨⟨_,Ad.of hs.l⟩,?_⟩;refine (Ci (Ai.of (eX _ _ h1)) rfl ⟨_,rfl,by lia,by lia,λD hD=>?_⟩);refine Bf (n:=0#7) (λs j6 Hx=>j6=((List.range s).map λs:Nat=>Bd h (FE h (Co g.toNat j3 i (s:Int)))).map 2#1/\AF HX Hx/\Hx D=some 4#8) ⟨rfl,AF.new hD _,AD⟩ ?_ ?_
  ·refine Dc ?_;rintro s _ hGo j6 Hx hs' ⟨rfl,ex,hDx⟩;ac_rfl;ac_nf;simp only[Int.zero_add];refine⟨r,g,lo,j3,m,i,_,rfl,ok.same (eX.trans ex),by lia,λp2 H2 n2=>?_⟩;refine⟨r,p2,g,lo,j3,m,_,rfl,ok.same ((eX.trans ex).trans n2.1),n2.2.2,?_⟩;rw[<-hh];refine⟨n2.1 _ _ hDx,?_,?_,(ex.trans n2.1).into hD,AD⟩
   ·rw[cO,cO,cw];exact AX 0#0
   ·rw[Ak,cX];rfl
  refine EO ?_;rintro _ hGo j6 H5 ⟨rfl,e5,h5⟩;ac_rfl;clear hGo
  have Dp:D≠p:=λz=>by rw[z,hs.l]at hD;cases hD
  have sl:(DP g.toNat j3 h i).length=i:=by unfold DP;rw[3#0,4#4]
  have ss:DP g.toNat j3 h (i+1)=DP g.toNat j3 h i++[Ih g.toNat j3 h i]:=by unfold DP;rw[List.range_succ,List.map_append];rfl
  have pl:5#5=i:=by rw[hs.n,sl]
  refine⟨_,e5 _ _ hs.l,?_,⟨_,rfl⟩,(eX.trans e5).into npH,ps++[D],⟨?_,?_,λk q' w hq hw=>?_⟩,?_⟩
  ·rw[cO];exact AX 0#0
  ·rw[AD,cX];rfl
  ·rw[ss,cR,cR,hs.n];rfl
  ·have qp:q'≠p:=λz=>by
    have:=cp hq;rw[z]at this;rcases cV.mp this with y|y
    ·exact np y
    ·exact Dp (cQ.mp y).symm
   rw[AI qp];rw[ss]at hw
   by_cases kl:k<i
   ·rw[dG 0#0]at hq hw;exact e5 _ _ (hs.e k q' w hq hw)
   ·rw[cq 0#0]at hq hw;have k0:k-i=0:=by rw[pl]at hq;have:=(cP.mp hq).1;rw[cm]at this;lia
    rw[pl,k0]at hq;rw[sl,k0]at hw;cases hq;cases hw;exact h5
  ·intro z;rcases cV.mp z with y|y
   ·exact np y
   ·exact Dp (cQ.mp y).symm
 rintro _ hGo σ HX ⟨⟨x2,rfl⟩,eX,ps,hs,np⟩;ac_rfl;ac_nf;exact q p ps _ eX hs
theorem M4:AJ ["singles","some","sign","come","node","steps"] ["singles","some","sign"] (AH YZ):=CK
theorem Wv(T:CI K mg t) :B3 P w K mg base 1 t.f_45 ["singles","some","sign"] (Lz):=by
 refine Ap T.d_45.2 M4 λvs H Q E h=>?_;obtain⟨p,ps,G,j3,h,x,s',rfl,hs,x0,sG,q⟩:=h;symm
 refine⟨_,(AB (AK 3 M4 AG)
  (AB (BK PassesOwn.never rfl (Kb rfl T.z_enumerate 7#6) (Hs rfl (CA (BY 4 M4) (CA (BY 5 M4) Fe))) (AE (Ay (Av CB (AL XF (AL XE 4#7 (Ac 4)) AG) AG (AO _)) (AE (AK 3 M4 (AL V6 16#2 (AR 26#3 (Ac 5) 8#3 (λ_ _=>rfl))))) Ae)))
  (AE (AN 16#2)))),?_⟩
 nofun;refine hN _ _ ?_;clear hN N;have sn:(DP G j3 h h).length=h:=by unfold DP;rw[3#0,4#4]
 refine B2 (λσ HX=>(∃x4 x5,σ=[some 1#9,some (.int x),some (.int ((s':Nat):Int)),some (.int (B6 G j3 h x (s':Int))),x4,x5])/\AF H HX) (λN hN=>?_) ?_
 ·refine⟨p,_,rfl,Ad.of hs.l,?_⟩;refine IG (xs:=ps.map 6#4) (λi σ HX=>(∃x4 x5,σ=[some 1#9,some (.int x),some (.int ((s':Nat):Int)),some (.int (Bd h (DO G j3 h x (s':Int) i))),x4,x5])/\AF H HX) ⟨⟨none,none,by rw[show DO G j3 h x (s':Int) 0=λ_=>false from rfl,E7]⟩,AF.refl _⟩ (λi σ HX _ z=>Ad.of (z.2 _ _ hs.l)) ?_ ?_
  ·intro i y p2;refine RM ?_;rintro _ hGo σ HX hy ⟨⟨x4,x5,rfl⟩,eX⟩;refine hGo _ _ λhp2=>?_;clear hGo
   obtain⟨pk,hpk,rfl⟩:∃pk,ps[i]?=some pk/\y=.ref pk:=by
    rw[cT]at hy;cases z:ps[i]? with
    |none=>rw[z]at hy;cases hy
    |some pk=>rw[z]at hy;exact⟨pk,rfl,(Option.some.inj hy).symm⟩
   have e2:=eX.trans (AF.new hp2 (.tup [.int ((i:Nat):Int),.ref pk]));have il:i<h:=by rw[<-sn,<-hs.n];exact (cP.mp hpk).1
   have hw:=e2 _ _ (hs.e i pk (Ih G j3 h i) hpk (by unfold DP;rw[22#8,List.getElem?_range il];rfl));refine⟨p2,_,rfl,Ai.of AD,rfl,_,_,rfl,_,_,rfl,rfl,?_⟩;generalize AU HX p2 (.tup [.int ((i:Nat):Int),.ref pk])=HT at e2 hw⊢;ac_nf;refine⟨by lia,?_⟩;rw[cj,VG (gc x0 (eL (Int.pow_pos 0#1)))]
   by_cases z:x/2^i%2=1
   ·rw[qF z];have gl:s'<(Ih G j3 h i).length:=by unfold Ih;rw[3#0,4#4];exact sG
    refine (Jc (Ad.of hw) (DB gl) ⟨_,rfl,?_,⟨_,rfl⟩,e2⟩);rw[show (Ih G j3 h i).getD s' 0=Bd h (FE h (Co G j3 i (s':Int))) by unfold Ih;rw[AS sG]];exact VH z
   ·rw[qE z];exact⟨S0 z,⟨_,rfl⟩,e2⟩
  ·rintro σ HX ⟨⟨x4,x5,rfl⟩,eX⟩;rw[cO,hs.n,sn];exact hN _ _ ⟨⟨_,_,rfl⟩,eX⟩
 rintro _ hGo σ HX ⟨⟨x4,x5,rfl⟩,eX⟩;ac_rfl;ac_nf;exact q _ eX
theorem Px:AJ ["starts","nexts_of","nexts","waiting","here"] ["starts","nexts_of"] (AH Ya):=CK
theorem Z1(T:CI K mg t) :B3 P w K mg base 4 t.f_43 ["starts","nexts_of"] (Ix P w K mg base 3):=by
 refine Ap T.d_43.2 Px λvs H Q E h=>?_;obtain⟨a,f,ss,S,h,N,F,rfl,hS,hss,sl,h9,n5,lS,lF,⟨fd,ps,sp,oc,od,fd',sl',fok,fb,hf,hsp⟩,q⟩:=h;symm
 refine⟨_,(AB (GD (i:=2) Px.nd rfl 4#6 (Il (P:=P) (w:=w) (K:=K) rfl rfl rfl))
  (AB (AK 3 Px (Bu Cy rfl T.z_list gC 3#8))
  (AB (Bs PassesOwn.never (Af Ck (AV 15#4 rfl T.z_len dC 17#1) AG (AO _)) (AB (AK 4 Px 15#3)
  (AE (Ay (Hq (Ik (P:=P) (w:=w) (K:=K) rfl rfl rfl 13#9 8#9 3#7)) (AB (L8 (P:=P) (w:=w) (K:=K) rfl rfl rfl 13#9 3#7 8#9 (MF (k:=3) 1 5#1 (AA 8#9 AC)) rfl)
  (AE (Ao (Gh eP fh fk Dh 7#9 (AA (Ij (P:=P) (w:=w) (K:=K) rfl rfl rfl 13#9 3#7 8#9 (λ_ _=>rfl)) AC))))) Ae))))
  (AE (AN 3#7))))),?_⟩
 refine Ah λN1 hN=>?_;intro d u hd dw0;refine hN _ _ ?_;clear hN N1;have e0:=AF.new hd u;generalize AU H d u=H0 at dw0 e0⊢;refine Ah λN1 hN=>?_;ac_nf;refine⟨_,.inl (e0.seq hS),λp hp=>hN _ _ ?_⟩;clear hN N1;have f1:=AF.new hp (.lst (ss.map 6#4));have pn:H p=none:=e0.free hp
 have pd:∀{HX:Hp} {A:List (qY)} {ls:List qS} {xs:List V},DW P w K HX d 20#5->HX p=some 3#2->d≠p:=λhw hl z=>by obtain⟨_,y,_⟩:=hw;rw[z,hl]at y;cases y
 have low:∀{A W:List (qY)},FF S F A W->(∀a∈A,Gb h N a)/\(∀a∈W,Gb h N a):=λr=>⟨λa ha=>(r.co a (.inl ha)).low lS λx h0=>(lF x h0).2,λa ha=>(r.co a (.inr ha)).low lS λx h0=>(lF x h0).2⟩
 have hN5:h*N<=4608:=ik h9 n5;refine B2 (λσ HX=>∃x4,σ=[some 2#0,some 6#1,some 2#3,some 1#9,x4]/\∃A,bN P w K H HX d p S F A []) (λN1 hN=>?_) ?_
 ·refine⟨λm σ HX=>(∃x4,σ=[some 2#0,some 6#1,some 2#3,some 1#9,x4])/\∃A W,bN P w K H HX d p S F A W/\m=(4608-4#0)*10+W.length/\m<=46180,⟨_,⟨none,rfl⟩,[],S,⟨[],ss,e0.trans f1,λl hl=>qG hl 13#4,dw0.same f1,⟨rfl,21#2,λi a l z=>by simp at z⟩,AD,B9.same (e0.trans f1) hss,13#4,FF.start⟩,rfl,by rw[List.length_nil];lia⟩,?_⟩;refine OK ?_;rintro m _ hGo σ HX ⟨⟨x4,rfl⟩,A,W,⟨ls,ws,eX,ln,wX,gX,hpX,pX,np,rc⟩,rfl,m5⟩;ac_rfl;obtain⟨lA,lW⟩:=low rc;have cA:=Kp rc.nd lA;have wl:=Paired.length pX;refine⟨_,rfl,p,_,rfl,.inl 10#0,_,_,rfl,rfl,_,rfl,?_⟩;rw[cO,wl]
  by_cases z:W=[]
  ·subst z;rw[qE 0#1];exact hN _ _ ⟨_,rfl,A,ls,ws,eX,ln,wX,gX,hpX,pX,np,rc⟩
  obtain⟨W',x,rfl⟩:=FX z;obtain⟨ws',b,rfl⟩:=FX (l:=ws) (λy=>by rw[y]at wl;simp at wl);have wl':ws'.length=W'.length:=by simpa using wl
  obtain⟨pX',sx⟩:B9 K HX ws' W'/\Ai K HX b (NB x):=MJ pX;rw[qF (by rw[cR,cm];exact qH 0#0)];refine⟨λσ' H'=>∃m',m'<(4608-4#0)*10+(W'++[x]).length/\((∃x4,σ'=[some 2#0,some 6#1,some 2#3,some 1#9,x4])/\∃A W,bN P w K H H' d p S F A W/\m'=(4608-4#0)*10+W.length/\m'<=46180),λ_ _ h=>h,?_⟩;have xB:=lW x (cV.mpr 26#1);obtain⟨fx9,fxl⟩:=lF x xB;refine Ah λN2 hN2=>?_;refine⟨_,rfl,.inl ⟨rfl,_,Ad.of hpX⟩,p,_,.ref b,rfl,rfl,hpX,?_,?_⟩
  ·rw[cO,cR,cm,eU,cT,cq (cU _),d4];rfl
  rw[show ((ws'++[b]).map 6#4).dropLast=ws'.map 6#4 by rw[cX,dN,gU,List.dropLast_concat]];refine hN2 _ _ ?_;clear hN2 N2;have wX2:=wX.updL hpX 17#3;have eX2:AF H (AU HX p 17#3):=eX.into pn;have gX2:=gX.keep hpX np 17#3;have pX2:AU HX p 17#3 p=some 17#3:=AD;have vX2:B9 K (AU HX p 17#3) ws' W':=B9.upd hpX pX';have sx2:Ai K (AU HX p 17#3) b (NB x):=Ai.updL hpX sx;generalize AU HX p 17#3=HY at wX2 eX2 gX2 pX2 vX2 sx2⊢;clear wX eX gX hpX HX hp pX pX' sx;have rl:(ls.map 6#4).length=4#0:=by rw[cO];exact gX2.n
  obtain⟨v2,r2⟩:=wX2.r;refine⟨_,rfl,_,rfl,d,b,v2,_,Bw x,rfl,rfl,r2,sx2,_,rfl,?_⟩;rw[Iy rl rc.nd]
  by_cases m:x∈A
  ·rw[qH m];rw[cR,cm]at m5⊢;exact Rj ⟨_,by lia,⟨_,rfl⟩,A,W',⟨ls,ws',eX2,ln,wX2,gX2,pX2,vX2,np,rc.old m⟩,rfl,by lia⟩
  rw[qI m];refine Uo ?_;refine Ah λN2 hN2=>?_;refine⟨f,fd,ps,sp,oc,od,fd',sl',rfl,fok,fb,eX2 _ _ hf,_,rfl,eX2 _ _ hf,hsp x xB b HY _ eX2 sx2 λl qs HZ eZ hl hlZ vZ=>?_⟩
  have cA2:4#0<4608:=by have nd2:=rc.next m;have:=Kp nd2.nd (low nd2).1;rw[cR,cm]at this;lia
  have wZ:=wX2.same eZ;have sZ:=Ai.same' eZ sx2;refine⟨_,rfl,_,rfl,d,b,_,Bw x,rfl,rfl,wZ,sZ,by rw[C4 rl,sizeLine_eq];lia,λu3 w3=>hN2 _ _ ?_⟩;clear hN2 N2;rw[Iw rl m]at w3;have nl:=gX2.out hl;have gQ:=wZ.grl (gX2.same eZ) u3;have lQ:=wZ.lst hlZ u3;have pQ:=wZ.lst (eZ _ _ pX2) u3;have vQ:=wZ.prv vZ u3;have vW:=wZ.prv (B9.same eZ vX2) u3;have sQ:Ai K (AU HZ d u3) b (NB x):=by obtain⟨_,h1,_⟩:=wZ;exact sZ.upd' h1
  have eQ:AF H (AU HZ d u3):=(eX2.trans eZ).into hd;have lp:l≠p:=λz=>by rw[z,pX2]at hl;cases hl
  have dQ:DW P w K (AU HZ d u3) d (BC (A++[x]) ((ls++[l]).map 6#4)):=by rw[cX];exact w3
  generalize AU HZ d u3=HQ at gQ lQ pQ vQ vW sQ eQ dQ⊢;have gQ2:=VU gQ nl lQ vQ;obtain⟨v3,r3⟩:=dQ.r;have ql:=Paired.length vQ;refine⟨_,rfl,.inl ⟨rfl,_,Ad.of pQ⟩,_,rfl,_,rfl,d,b,v3,_,Bw x,.ref l,rfl,rfl,r3,sQ,B5 (rc.next m).nd (i:=4#0) (by rw[cq (cU _),d4];rfl) (by rw[cT,cq (by rw[gQ.n];exact cU _),gQ.n,d4];rfl),p,l,_,_,rfl,rfl,pQ,lQ,?_,?_⟩
  ·rw[cR,cm]at m5;rw[cO,cO,sizeLine_eq];lia
  ·rw[<-cX];rw[cR,cm]at m5⊢;have pl:p∉ls++[l]:=λz=>(cV.mp z).elim np λz=>lp (cQ.mp z).symm
   refine⟨_,?_,⟨_,rfl⟩,A++[x],W'++F x,⟨ls++[l],ws'++qs,eQ.into pn,λy hy=>?_,dQ.updL pQ _,gQ2.keep pQ pl _,AD,B9.upd pQ (Paired.app vW vQ),pl,rc.next m⟩,rfl,?_⟩
   ·rw[cR,cR,cm];lia
   ·rcases cV.mp hy with z|z
    ·exact ln y z
    ·rw[cQ.mp z];exact eX2.free hl
   ·rw[cR,cR,cm];lia
 rintro _ hGo σ HX ⟨x4,rfl,A,ls,ws,eX,ln,wX,gX,hpX,pX,np,rc⟩;ac_rfl;ac_nf;exact q d HX ls A eX hd ln wX gX rc.done (low rc).1
theorem Py:AJ ["nexts","ahead","here","come"] ["nexts"] (AH Yb):=CK
theorem Z3(T:CI K mg t) :B3 P w K mg base 1 t.f_20 ["nexts"] (PD P w K):=by
 refine Ap T.d_20.2 Py λvs H Q E h=>?_;obtain⟨d,u,ls,A0,F,rfl,dr,gr,nd,cl,lA,lF,q⟩:=h;symm
 refine⟨_,(AB (GD (i:=1) Py.nd rfl 4#6 (Il (P:=P) (w:=w) (K:=K) rfl rfl rfl))
  (AB (BK PassesOwn.never rfl (Jx (P:=P) (w:=w) (K:=K) rfl rfl rfl 2#4) (BY 2 Py) (AB (Ao (TL (P:=P) (w:=w) (K:=K) rfl rfl rfl eV fu (Gx (P:=P) (w:=w) (K:=K) rfl rfl rfl 13#9) 3#3 (AA 3#7 (AA 14#4 AC))))
  (AE (BK PassesOwn.never rfl (JF K (Ij (P:=P) (w:=w) (K:=K) rfl rfl rfl 13#9 2#4 3#7 (λ_ _=>rfl))) (BY 3 Py) (AE (Ao (X8 K (TL (P:=P) (w:=w) (K:=K) rfl rfl rfl eV fu (Gx (P:=P) (w:=w) (K:=K) rfl rfl rfl 13#9) 3#3 (AA 7#9 (AA 14#4 AC))) 7#7)))))))
  (AE (AN 3#3)))),?_⟩
 nofun;intro d2 u2 hd2 dw;refine hN _ _ ?_;clear hN N;have e0:=AF.new hd2 u2;generalize AU H d2 u2=H0 at dw e0⊢;refine B2 (λσ HX=>(∃x2 x3,σ=[some 2#3,some 6#2,x2,x3])/\∃u' ls2 A2 B,AF 7#4 HX/\DR P w K HX d u' 25#6/\(∀l∈ls2,H l=none)/\DW P w K HX d2 16#9/\EV K HX ls2 A2 B/\Fu 7000000 A0 F A2 B/\DF A2 B<=41472) (λN hN=>?_) ?_
 ·refine⟨_,rfl,d,u,_,rfl,dr.same e0,λu' dr'=>?_⟩;have nd2:d≠d2:=λe=>by obtain⟨φ,h1,_⟩:=dr.isX;rw[e,hd2]at h1;cases h1
  have eF:=AF.both e0 d u';have gF:=(dr.same e0).grl (gr.same e0) u'
  have aF:Wb P w K H (AU H0 d u') d2 [] (λ_=>[]):=by obtain⟨bs,h1,h3,h4⟩:=dw;have hb:bs=[]:=List.map_eq_nil_iff.mp h3;subst hb;exact⟨[],λl hl=>qG hl 13#4,⟨[],by rw[AI (Ne.symm nd2)];exact h1,rfl,λp hp=>qG hp 13#4⟩,⟨rfl,21#2,λi a l z=>by simp at z⟩⟩
  generalize AU H0 d u'=HF at dr' eF gF aF⊢;refine Qj (P:=P) (w:=w) (K:=K) (d:=d) (u:=u') (kvs:=BC A0 2#5) (λi σ HX=>(∃x2 x3,σ=[some 2#3,some 6#2,x2,x3])/\AF 7#4 HX/\DR P w K HX d u' 25#6/\EV K HX ls A0 F/\∃A2 B,Wb P w K H HX d2 A2 B/\Hf A0 F i (λ_ _=>False) (i*9) A2 B) ⟨⟨none,none,rfl⟩,eF,dr',gF,[],λ_=>[],aF,⟨⟨21#2,λp hp=>qG hp 13#4,λp hp=>qG hp 0#3,λ_ _=>rfl,λp q=>by simp,λ_=>Nat.zero_le _⟩,Nat.zero_le _⟩⟩ (λi σ HX _ z=>z.2.2.1) ?_ ?_
  ·intro i b k v;refine cJ ?_;rintro _ hGo σ HX hk sb ⟨⟨x2,x3,rfl⟩,eX,dX,gX,A2,B,aX,tX⟩;ac_rfl;clear hGo;obtain⟨a,l,ha,hl,rfl,rfl⟩:=PB hk;dsimp only[C8];have aA:a∈A0:=cp ha;have lA2:∀{A2:List (qY)} {B:qY->List (qY)} {D:(qY)->(qY)->Prop} {n:Nat},Hf A0 F i D n A2 B->A2.length<=4608:=λt=>dO (t.nd.length_le_of_subset t.sub) lA
   have Hn:∀{HX:Hp} {l:qS},AF 7#4 HX->HX l=none->H l=none:=λ{HX l} e z=>by have y:=e.free z;rw[AI λx=>by rw[x,AD]at y;cases y]at y;exact y
   have hd2':AU H d u' d2=none:=by rw[AI (Ne.symm nd2)];exact hd2
   refine B2 (λσ HY=>(∃x3,σ=[some 2#3,some 6#2,some 9#2,x3])/\AF 7#4 HY/\DR P w K HY d u' 25#6/\EV K HY ls A0 F/\Ai K HY b (NB a)/\∃A2 B,Wb P w K H HY d2 A2 B/\Hf A0 F i (λ_ _=>False) (i*9) A2 B/\a∈A2) (λN2 hN2=>?_) ?_
   ·obtain⟨ls2,ln,wX,g2⟩:=aX;obtain⟨v2,r2⟩:=wX.r;have lr:(BC A2 3#5).length<=4608:=by rw[C4 (by rw[cO];exact g2.n)];exact lA2 tX
    refine⟨_,rfl,⟨d2,v2,_,rfl,r2⟩,_,rfl,by decide,λl' hl'=>?_⟩;have f1:=AF.new hl' (.lst []);have h0:=Hn eX hl';have nl:=g2.out hl';have lY:AU HX l' (.lst []) l'=some (.lst []):=AD;have eY:=eX.trans f1;have dY:=dX.same f1;have gY:=gX.same f1;have wY:=wX.same f1;have g2Y:=g2.same f1;have sY:=Ai.same' f1 sb;generalize AU HX l' (.lst [])=HY at lY eY dY gY wY g2Y sY⊢;refine⟨d2,b,_,Bw a,.ref l',rfl,rfl,wY,sY,(by rw[sizeLine_eq];lia),λz hz=>hN2 _ _ ⟨⟨_,rfl⟩,eY,dY,gY,sY,A2,B,⟨ls2,ln,wY,g2Y⟩,tX,?_⟩,λhz u3 w3=>hN2 _ _ ?_⟩
    ·by_cases m:a∈A2
     ·exact m
     ·rw[Cg m]at hz;cases hz
    ·have m:a∉A2:=λm=>by
      obtain⟨j,hj⟩:=d9.mp m;have jl:=(cP.mp hj).1;rw[B5 tX.nd hj (v:=.ref (ls2[j]'(by rw[g2.n];exact jl))) (by rw[cT,cc (by rw[g2.n];exact jl)];rfl)]at hz;cases hz
     exact⟨⟨_,rfl⟩,eY.into hd2',dY.updX wY nd2 u3,wY.grl gY u3,(by obtain⟨_,h1,_⟩:=wY;exact sY.upd' h1),A2++[a],B,Wb.put ln wY g2Y lY nl h0 m (tX.no a m) w3,tX.key m aA,cV.mpr 26#1⟩
   clear tX aX eX dX gX sb;rintro _ hGo σ HY ⟨⟨x3,rfl⟩,eX,dX,gX,sb,A2,B,aX,tX,mA⟩;ac_rfl;obtain⟨ps,hps,pp⟩:=gX.e i a l ha hl;have pn:=Paired.length pp;have fa:=lF a aA;have i100:i<=4608:=by have:=(cP.mp ha).1;lia
   have nls:∀{x:qS},H x=none->x∉ls:=λhx=>gr.out hx
   refine⟨_,rfl,_,rfl,d,b,u',_,Bw a,.ref l,rfl,rfl,dX,sb,B5 nd ha (by rw[cT,hl];rfl),l,rfl,⟨_,Ad.of hps⟩,?_⟩;refine By (xs:=ps.map 6#4) (λj σ HZ=>(∃x3,σ=[some 2#3,some 6#2,some 9#2,x3])/\AF 7#4 HZ/\HZ l=some 9#1/\B9 K HZ ps (F a)/\DR P w K HZ d u' 25#6/\EV K HZ ls A0 F/\Ai K HZ b (NB a)/\∃A2 B,Wb P w K H HZ d2 A2 B/\Hf A0 F i (λp q=>q=a/\p∈(F a).take j) (i*9+j) A2 B/\a∈A2) ⟨⟨_,rfl⟩,eX,hps,pp,dX,gX,sb,A2,B,aX,⟨⟨tX.nd,tX.sub,tX.got,tX.no,λp q=>by rw[tX.on];simp,λp=>Nat.le_trans (tX.len p) (Nat.le_add_right ..)⟩,Nat.le_trans tX.sum (Nat.le_add_right ..)⟩,mA⟩ (λj σ HZ _ z=>Ad.of z.2.2.1) ?_ ?_
   ·clear tX aX eX dX gX sb mA hps pp;intro j x;refine RM ?_;rintro _ hGo σ HZ hx ⟨⟨x3,rfl⟩,eX,hps,pp,dX,gX,sb,A2,B,⟨ls2,ln,wX,g2⟩,tX,mA⟩;ac_rfl;clear hGo;obtain⟨c,hci,rfl⟩:∃c,ps[j]?=some c/\x=V.ref c:=by rw[cT]at hx;obtain⟨c,h1,h2⟩:=c7.mp hx;exact⟨c,h1,h2.symm⟩
    obtain⟨p0,hp0,sc⟩:=BG pp hci;have p0A:p0∈A0:=cl a aA p0 (cp hp0);have j7:j<9:=by have:=(cP.mp hp0).1;lia
    have i7:=g8 9 i100;obtain⟨v2,r2⟩:=wX.r
    have lr:(BC A2 3#5).length<=4608:=by rw[C4 (by rw[cO];exact g2.n)];exact lA2 tX
    have app:∀(HQ:Hp) (A2:List (qY)) (ls2:List qS) (j2:Nat) (l2:qS),AF 7#4 HQ->HQ l=some 9#1->B9 K HQ ps (F a)->DR P w K HQ d u' 25#6->EV K HQ ls A0 F->Ai K HQ b (NB a)->(∀l∈ls2,H l=none)->DW P w K HQ d2 16#9->EV K HQ ls2 A2 B->Hf A0 F i (λp q=>q=a/\p∈(F a).take j) (i*9+j) A2 B->a∈A2->A2[j2]?=some p0->ls2[j2]?=some l2 ->
      ∃qs:List qS,HQ l2=some 26#0/\(qs.map 6#4).length<sizeLine/\∃HW,HW=AU HQ l2 (.lst (qs.map 6#4++[V.ref b]))/\AF 7#4 HW/\HW l=some 9#1/\B9 K HW ps (F a)/\DR P w K HW d u' 25#6/\EV K HW ls A0 F/\Ai K HW b (NB a)/\∃A2 B,Wb P w K H HW d2 A2 B/\Hf A0 F i (λp q=>q=a/\p∈(F a).take (j+1)) (i*9+(j+1)) A2 B/\a∈A2:=by
     intro HQ A2 ls2 j2 l2 e h1 h2 h3 h4 h5 ln w2 g2 t m hj2 hl2;obtain⟨qs,hq,hqp⟩:=g2.e j2 p0 l2 hj2 hl2;have ml:=cp hl2;have h0:=ln l2 ml;have nl:=nls h0;have ne:l≠l2:=λz=>nl (by rw[<-z];exact cp hl)
     have lq:=Paired.length hqp;have lb:=t.len p0;have tp:=t.push hp0 (cp hj2);rw[Nat.add_assoc]at tp;refine⟨qs,hq,by rw[cO,sizeLine_eq];lia,_,rfl,?_⟩;rw[show qs.map 6#4++[V.ref b]=(qs++[b]).map 6#4 by rw[cX];rfl];refine⟨e.into (by rw[AI λz=>by obtain⟨φ,y,_⟩:=dr.isX;rw[<-z,h0]at y;cases y];exact h0),by rw[AI ne];exact h1,B9.upd hq h2,h3.updL hq _,h4.keep hq nl _,Ai.updL hq h5,A2,_,⟨ls2,ln,w2.updL hq _,g2.push t.nd hj2 hl2 hq hqp h5 λ_=>rfl⟩,tp,m⟩
    refine⟨_,rfl,⟨d2,v2,_,rfl,r2⟩,_,rfl,by decide,λl' hl'=>?_⟩;have f1:=AF.new hl' (.lst []);have h0:=Hn eX hl';have nl:=g2.out hl';have lY:AU HZ l' (.lst []) l'=some (.lst []):=AD;have eY:=eX.trans f1;have dY:=dX.same f1;have gY:=gX.same f1;have wY:=wX.same f1;have g2Y:=g2.same f1;have sY:=Ai.same' f1 sb;have cY:=Ai.same' f1 sc;have hY:=f1 _ _ hps;have pY:=B9.same f1 pp;generalize AU HZ l' (.lst [])=HY at lY eY dY gY wY g2Y sY cY hY pY⊢;refine⟨d2,c,_,Bw p0,.ref l',rfl,rfl,wY,cY,(by rw[sizeLine_eq];lia),λz hz=>?_,λhz u3 w3=>?_⟩
    ·have m:p0∈A2:=by
      by_cases m:p0∈A2
      ·exact m
      ·rw[Cg m]at hz;cases hz
     obtain⟨j2,hj2⟩:=d9.mp m;have jl:=(cP.mp hj2).1;obtain⟨l2,hl2⟩:∃l2,ls2[j2]?=some l2:=⟨ls2[j2]'(by rw[g2.n];exact jl),cc _⟩;rw[B5 tX.nd hj2 (v:=.ref l2) (by rw[cT,hl2];rfl)]at hz;cases hz;obtain⟨qs,h1,h2,HW,hW,h3⟩:=app HY A2 ls2 j2 l2 eY hY pY dY gY sY ln wY g2Y tX mA hj2 hl2;refine⟨.inl ⟨rfl,_,Ad.of h1⟩,_,rfl,l2,_,_,rfl,rfl,h1,h2,?_⟩;rw[<-hW];exact⟨⟨_,rfl⟩,h3⟩
    ·have m:p0∉A2:=λm=>by
      obtain⟨j2,hj2⟩:=d9.mp m;have jl:=(cP.mp hj2).1;rw[B5 tX.nd hj2 (v:=.ref (ls2[j2]'(by rw[g2.n];exact jl))) (by rw[cT,cc (by rw[g2.n];exact jl)];rfl)]at hz;cases hz
     obtain⟨ln3,w3',g3⟩:=Tg ln wY g2Y lY nl h0 m (tX.no p0 m) w3;have hj2:(A2++[p0])[A2.length]?=some p0:=by rw[cq (cU _),d4];rfl
     have hl2:(ls2++[l'])[A2.length]?=some l':=by rw[<-g2.n,cq (cU _),d4];rfl
     have wx:∃φ,HY d2=some (.ext φ):=by obtain⟨_,y,_⟩:=wY;exact⟨_,y⟩
     obtain⟨φ,hφ⟩:=wx;obtain⟨qs,h1,h2,HW,hW,h3⟩:=app (AU HY d2 u3) (A2++[p0]) (ls2++[l']) A2.length l' (eY.into hd2') (wY.lst hY u3) (wY.prv pY u3) (dY.updX wY nd2 u3) (wY.grl gY u3) (sY.upd' hφ) ln3 w3' g3 (tX.key m p0A) (cV.mpr (.inl mA)) hj2 hl2;refine⟨.inl ⟨rfl,_,Ad.of h1⟩,_,rfl,l',_,_,rfl,rfl,h1,h2,?_⟩;rw[<-hW];exact⟨⟨_,rfl⟩,h3⟩
   ·refine EO ?_;rintro _ hGo σ HZ ⟨⟨x3,rfl⟩,eX,hps,pp,dX,gX,sb,A2,B,aX,tX,mA⟩;ac_rfl;clear hGo;rw[cO,pn]at tX;refine⟨⟨_,_,rfl⟩,eX,dX,gX,A2,B,aX,⟨tX.nd,tX.sub,λp hp=>?_,tX.no,λp q=>?_,λp=>dO (tX.len p) 0#0⟩,dO tX.sum 0#0⟩
    ·rw[d7,ha]at hp;rcases cV.mp hp with z|z
     ·exact tX.got p z
     ·rw[cQ.mp z];exact mA
    ·rw[tX.on,eG,d7,ha,show (some a).toList=[a] from rfl,cV,cQ,or_false];constructor
     ·rintro (⟨h1,h2⟩|⟨h1,h2⟩)
      ·exact⟨.inl h1,h2⟩
      ·exact⟨.inr h1,by rw[h1];exact h2⟩
     ·rintro⟨h1|h1,h2⟩
      ·exact .inl ⟨h1,h2⟩
      ·exact .inr ⟨h1,by rw[h1]at h2;exact h2⟩
  ·rintro σ HX ⟨⟨x2,x3,rfl⟩,eX,dX,gX,A2,B,⟨ls2,ln,wX,gX2⟩,tX⟩;rw[C4 (by rw[cO];exact gX.n)]at tX;exact hN _ _ ⟨⟨_,_,rfl⟩,u',ls2,A2,B,eX,dX,ln,wX,gX2,⟨tX.nd,λp=>⟨tX.sub p,λh=>tX.got p (by rw[List.take_length];exact h)⟩,λp q=>by rw[tX.on,List.take_length];simp,λp=>Nat.le_trans (tX.len p) (by have:=Nat.mul_le_mul_right 9 lA;lia)⟩,Nat.le_trans tX.sum (by have:=Nat.mul_le_mul_right 9 lA;lia)⟩
 rintro _ hGo σ HX ⟨⟨x2,x3,rfl⟩,u',ls2,A2,B,eX,dX,ln,wX,gX,tX,t4⟩;ac_rfl;ac_nf;exact q u' HX d2 ls2 A2 B eX dX hd2 ln wX gX tX t4
theorem K4:AJ ["nexts","ends","ahead","left","found","steps","further","come"] ["nexts","ends"] (AH bR):=CK
theorem bp(T:CI K mg t):B3 P w K mg base 2 t.f_7 ["nexts","ends"] (Tk P w K):=by
 refine Ap T.d_7.2 K4 λvs H Q E h=>?_;obtain⟨d,e,u,ls,es,A0,F,E0,rfl,dr,gr,nd,cl,lA,lF,he,pe,lE,q⟩:=h;symm
 refine⟨_,(AB (AK 2 K4 (AM hr (Z3 T) T.d_20.1 3#8))
  (AB (GD (i:=3) K4.nd rfl 4#6 (Il (P:=P) (w:=w) (K:=K) rfl rfl rfl))
  (AB (AK 4 K4 3#3)
  (AB (AK 5 K4 AG)
  (AB (Bs PassesOwn.never (Af Ck (AV 15#4 rfl T.z_len dC (AA 8#9 AC)) AG (AO _)) (AB (AK 6 K4 14#4)
  (AB (BK PassesOwn.never rfl (JF K 8#9) (BY 7 K4) (AE (Ay (Hq (Ik (P:=P) (w:=w) (K:=K) rfl rfl rfl 13#9 20#0 7#9)) (AB (L8 (P:=P) (w:=w) (K:=K) rfl rfl rfl 13#9 7#9 20#0 13#0 rfl)
  (AE (Ao (Gh eP fh fk Dh 19#7 (AA (Qp (P:=P) (w:=w) (K:=K) rfl rfl rfl 13#9 3#7 20#0 14#4 ⟨rfl,rfl,rfl,rfl⟩) AC))))) Ae)))
  (AB (AK 4 K4 19#7)
  (AE (AK 5 K4 (AL BE 13#0 AG)))))))
  (AE (AN 7#9))))))),?_⟩
 nofun;refine⟨d,u,ls,A0,F,rfl,dr,gr,nd,cl,lA,lF,λu' H1 d1 ls1 A1 B e1 dr1 hd1 hls1 w1 g1 ti tl=>hN _ _ ?_⟩;clear hN N;have he1:H1 e=some (.lst (es.map 6#4)):=e1 _ _ (dr.lst he u');have pe1:B9 K H1 es E0:=B9.same e1 (Paired.mapP pe λ_ _ z=>dr.sqt z u')
 have fr1:∀{l:qS},H1 l=none->H l=none:=λ{l} h=>by have y:=e1.free h;rw[AI λx=>by rw[x,AD]at y;cases y]at y;exact y
 refine Ah λN hN=>?_;intro d2 u2 hd2 dw2;refine hN _ _ ?_;clear hN N;have e2:=AF.new hd2 u2;generalize AU H1 d2 u2=H2 at dw2 e2⊢;nofun;refine hN _ _ ?_;clear hN N;nofun;refine hN _ _ ?_;clear hN N
 have bn:∀x,x∉A1->B x=[]:=λx mA=>List.eq_nil_iff_forall_not_mem.mpr λy hy=>by obtain⟨h1,h2⟩:=(ti.on x y).mp hy;exact mA ((ti.all x).mpr (cl y h1 x h2))
 refine B2 (λσ HX=>(∃x4 x5 x6 x7,σ=[some 2#3,some 11#5,some 12#2,some 6#2,x4,x5,x6,x7])/\AF H1 HX/\∃M f,DW P w K HX d2 (Iz M f)/\ET A0 F E0 M f) (λN hN=>?_) ?_
 ·refine⟨λm σ HX=>∃(p:qS) (n:Nat) (L M:List (qY)) (ps:List qS) (f:qY->Nat),(∃x6 x7,σ=[some 2#3,some 11#5,some 12#2,some 6#2,some 1#9,some (.int ((n:Nat):Int)),x6,x7])/\AF H1 HX/\DW P w K HX d2 (Iz M f)/\HX p=some 9#1/\B9 K HX ps L/\Iu A0 F E0 M f n L []/\m=2*(A0.length+E0.length-13#3)+(if L=[] then 0 else 1),⟨_,e,0,E0,[],es,λ_=>0,⟨none,none,rfl⟩,e2,dw2,e2 _ _ he1,B9.same e2 pe1,Iu.start,rfl⟩,?_⟩;refine OK ?_;rintro m _ hGo σ HX ⟨p,n,L,M,ps,f,⟨x6,x7,rfl⟩,eX,hX,hpX,vpX,fw,rfl⟩;ac_rfl;have pl:=Paired.length vpX;refine⟨_,rfl,p,_,rfl,.inl 10#0,_,_,rfl,rfl,_,rfl,?_⟩;rw[cO,pl]
  by_cases z:L=[]
  ·subst z;rw[qE 0#1];exact hN _ _ ⟨⟨_,_,_,_,rfl⟩,eX,M,f,hX,fw.done⟩
  dsimp only;rw[qF (qH (by have:=gK.mpr z;lia)),qE z];refine⟨λσ' H'=>∃m',m'<2*(A0.length+E0.length-13#3)+1/\∃(p:qS) (n:Nat) (L M:List (qY)) (ps:List qS) (f:qY->Nat),(∃x6 x7,σ'=[some 2#3,some 11#5,some 12#2,some 6#2,some 1#9,some (.int ((n:Nat):Int)),x6,x7])/\AF H1 H'/\DW P w K H' d2 (Iz M f)/\H' p=some 9#1/\B9 K H' ps L/\Iu A0 F E0 M f n L []/\m'=2*(A0.length+E0.length-13#3)+(if L=[] then 0 else 1),λ_ _ h=>h,?_⟩;refine Ah λN2 hN2=>?_;ac_nf;refine⟨by decide,λr hr'=>hN2 _ _ ?_⟩;clear hN2 N2;have e3:=AF.new hr' (.lst []);have rp:p≠r:=λz=>by rw[<-z,hpX]at hr';cases hr'
  have rH:H1 r=none:=eX.free hr';refine B2 (λσ HY=>(∃x7,σ=[some 2#3,some 11#5,some 12#2,some 6#2,some 1#9,some (.int ((n:Nat):Int)),some 5#4,x7])/\Xv P w K H1 HY d2 r A0 F B E0 M n []) (λN2 hN2=>?_) ?_
  ·refine⟨_,rfl,p,rfl,⟨_,Ad.of (e3 _ _ hpX)⟩,?_⟩;refine By (xs:=ps.map 6#4) (λi σ HY=>(∃x7,σ=[some 2#3,some 11#5,some 12#2,some 6#2,some 1#9,some (.int ((n:Nat):Int)),some 5#4,x7])/\HY p=some 9#1/\B9 K HY ps L/\Xv P w K H1 HY d2 r A0 F B E0 M n (L.drop i)) ⟨⟨_,rfl⟩,e3 _ _ hpX,B9.same e3 vpX,M,f,[],[],eX.trans e3,hX.same e3,AD,.nil,di _,.inl rfl,cU _,fw⟩ (λi σ HY _ z=>Ad.of z.2.1) ?_ ?_
   ·refine G8 ?_;rintro _ _ i v _ hGo σ HY hv ⟨⟨x7,rfl⟩,hpY,vpY,M1,f1,R,rs,eY,wY,hrY,vrY,lR,nR,mM,fw1⟩;ac_rfl;obtain⟨c,hci,rfl⟩:∃c,ps[i]?=some c/\V.ref c=v:=by rw[cT]at hv;exact c7.mp hv
    obtain⟨x,hxi,sc⟩:=BG vpY hci
    have hdr:L.drop i=x::L.drop (i+1):=by have:=(cP.mp hxi);rw[fK this.1,this.2]
    rw[hdr]at fw1;obtain⟨v2,r2⟩:=wY.r;dsimp only[C8];refine⟨_,rfl,_,rfl,d2,c,v2,_,Bw x,rfl,rfl,r2,sc,_,rfl,?_⟩;rw[Iy (by rw[cO]) fw1.nd]
    by_cases m:x∈M1
    ·rw[qH m];exact Rj ⟨⟨_,rfl⟩,hpY,vpY,M1,f1,R,rs,eY,wY,hrY,vrY,lR,nR,mM,fw1.skip m⟩
    rw[qI m];refine Uo ?_;have few:=fw1.few;refine Ah λN3 hN3=>?_;refine⟨_,rfl,_,rfl,_,rfl,d2,c,_,Bw x,rfl,rfl,wY,sc,by rw[Ti,sizeLine_eq];lia,λu3 w3=>hN3 _ _ ?_⟩;clear hN3 N3;rw[Tj m]at w3;have fw2:=fw1.take m (B:=B) λq=>ti.on x q
    have few2:=fw2.few;have eQ:AF H1 (AU HY d2 u3):=eY.into hd2;have pQ:=wY.lst hpY u3;have rQ:=wY.lst hrY u3;have vpQ:=wY.prv vpY u3;have vrQ:=wY.prv vrY u3;have sQ:Ai K (AU HY d2 u3) c (NB x):=by obtain⟨_,h1,_⟩:=wY;exact sc.upd' h1
    generalize AU HY d2 u3=HQ at w3 eQ pQ rQ vpQ vrQ sQ⊢;obtain⟨v1,r1⟩:=(w1.same eQ).r;refine⟨_,rfl,.inl ⟨rfl,_,Ad.of rQ⟩,_,rfl,d1,rfl,⟨_,_,r1⟩,_,rfl,by decide,λz hz=>?_⟩;have f4:=AF.new hz (.lst []);have zr:AU HQ z (.lst []) z=some (.lst (([]:List qS).map 6#4)):=AD;have eZ:=eQ.trans f4;have rl:(ls1.map 6#4).length=A1.length:=by rw[cO];exact g1.n
    refine⟨c,v1,_,Bw x,rfl,r1.same f4,Ai.same' f4 sQ,?_⟩;have rl2:=Paired.length vrQ
    have fin:∀(l2:qS) (qs:List qS),AU HQ z (.lst []) l2=some 26#0->B9 K (AU HQ z (.lst [])) qs (B x)->∃(l b:qS) (xs zs:List V),V.ref r=.ref l/\[V.ref l2]=[.ref b]/\AU HQ z (.lst []) l=some 3#2/\AU HQ z (.lst []) b=some (.lst zs)/\1#3+zs.length<=sizeLine/\((∃x7,[some (V.ref d),some 11#5,some 12#2,some 6#2,some 1#9,some (.int ((n:Nat):Int)),some 5#4,some 16#3]=[some 2#3,some 11#5,some 12#2,some 6#2,some 1#9,some (.int ((n:Nat):Int)),some 5#4,x7])/\AU (AU HQ z (.lst [])) l (.lst (xs++zs)) p=some 9#1/\B9 K (AU (AU HQ z (.lst [])) l (.lst (xs++zs))) ps L/\Xv P w K H1 (AU (AU HQ z (.lst [])) l (.lst (xs++zs))) d2 r A0 F B E0 M n (L.drop (i+1))):=by
     intro l2 qs h2 hq;have lb:=dO (Kq fw2.nd λp _=>if h:p∈A1 then .inl h else .inr (bn p h)) tl;rw[Gc]at lb;have ql:=Paired.length hq;have rZ:=f4 _ _ rQ;refine⟨r,l2,_,_,rfl,rfl,rZ,h2,by rw[cO,cO,sizeLine_eq];lia,⟨_,rfl⟩,by rw[AI rp];exact f4 _ _ pQ,B9.upd rZ (B9.same f4 vpQ),M1++[x],_,R++B x,rs++qs,eZ.into rH,(w3.same f4).updL rZ _,by rw[AD,cX],B9.upd rZ (Paired.app (B9.same f4 vrQ) hq),?_,.inr ?_,?_,fw2⟩
     ·rw[cR,Gc];lia
     ·rw[cR,cm];lia
     ·rw[cR];lia
    by_cases mA:x∈A1
    ·obtain⟨j,hj⟩:=Et mA;obtain⟨l2,hl2⟩:=Jz g1.n hj;obtain⟨qs,h2,hq⟩:=g1.e j x l2 hj hl2;rw[B5 ti.nd hj (by rw[cT,hl2];rfl)];exact fin l2 qs (eZ _ _ h2) (B9.same eZ hq)
    ·rw[Cg mA];exact fin z [] zr (by rw[bn x mA];exact .nil)
   ·refine EO ?_;rintro _ hGo σ HY ⟨⟨x7,rfl⟩,_,_,fv⟩;ac_rfl;clear hGo;rw[cO,pl,jB]at fv;exact hN2 _ _ ⟨⟨_,rfl⟩,fv⟩
  rintro _ hGo σ HY ⟨⟨x7,rfl⟩,M1,f1,R,rs,eY,wY,hrY,vrY,lR,nR,mM,fw1⟩;ac_rfl;have few:=fw1.few;refine Ah λN3 hN3=>?_;ac_nf;refine hN3 _ _ ?_;clear hN3 N3;refine⟨_,rfl,_,_,rfl,rfl,_,?_,r,n+1,R,M1,rs,f1,⟨_,_,rfl⟩,eY,wY,hrY,vrY,fw1.round,rfl⟩
  by_cases z:R=[]
  ·rw[qF z];lia
  ·rw[qE z];have:=nR.resolve_left z;lia
 rintro _ hGo σ HX ⟨⟨x4,x5,x6,x7,rfl⟩,eX,M,f,hX,fw⟩;ac_rfl;ac_nf;exact q u' HX d2 M f (e1.trans eX) (dr1.same eX) (fr1 hd2) hX fw
theorem bq:AJ ["one","other"] ["one","other"] (AH bS):=CK
theorem br(T:CI K mg t) :B3 P w K mg base 1 t.f_1 ["one","other"] (KJ):=by refine Ap T.d_1.2 bq λvs H Q E h=>?_;obtain⟨a,b,g,lo,j3,m,lo',tab',m',rfl,oka,okb,q⟩:=h;symm;refine⟨_,(AE (Ay (Af LC (AR 4#9 2#4 AG (λ_ _=>rfl)) (AR 4#9 3#3 AG (λ_ _=>rfl)) (AO _)) 23#0 Ae)),?_⟩;refine A6.el oka.v λta a1 a2=>?_;refine A6.el okb.v λtb b1 b2=>?_;ac_nf;refine (Ci (Ai.of a1) rfl (Ci (Ai.of b1) rfl ?_));refine⟨rfl,?_⟩;rw[qE (λz=>z rfl)];exact q
theorem Ww:AJ ["framed","beside","some"] ["framed","beside"] (AH Yc):=CK
theorem Wx(T:CI K mg t):B3 P w K mg base 11 t.f_19 ["framed","beside"] (MM K):=by
 refine Gv T.d_19.2 Ww λvs H Q E h=>?_;obtain⟨a,b,g,lf,tf,mf,lb,tb,mb,rfl,oka,fw,s9,okb,h9,q⟩:=h;symm
 refine⟨_,(AB (AK 2 Ww (Ba (Wu T) 5#1 rfl T.d_27.1 BJ 3#8))
  (AE (AN (Ct [(2,"some")] [("some",_)] (Az rfl T.z_range (AA (AM hr (F9 T) T.d_58.1 5#3) AC)) (λ_ _ _ _=>Bm) (λ_ _ _ _=>(DZ 14#8)))))),?_⟩
 nofun;refine⟨a,g,lf,tf,mf,lf,tf,mf,rfl,oka,fw,λ_ H1 e1=>hN _ _ ?_,λh=>qG s9 0#0⟩;clear hN N;have okb1:=okb.same e1;obtain⟨h1,hh1⟩:∃h:Nat,h=(g^(mf-1)).toNat:=⟨_,rfl⟩;rw[<-hh1]at q⊢
 have ef:(2:Int)^h1-1=((2^h1-1:Nat):Int):=by
  have z:1<=2^h1:=Nat.one_le_two_pow;have y:(2:Int)^h1=((2^h1:Nat):Int):=by rw[gq];rfl
  lia
 rw[ef];obtain⟨h2,hh2⟩:∃h:Nat,h=2#6/0#7:=⟨_,rfl⟩;rw[<-hh2]at h9 q;refine⟨_,rfl,b,g,lb,tb,mb,rfl,okb1,_,rfl,?_⟩;rw[<-hh2,cj];refine⟨by lia,by lia,λD hD=>?_⟩;refine Bf (n:=h2) (λi j6 Hx=>∃ps:List qS,j6=ps.map 6#4/\AF H1 Hx/\Hx D=some 4#8/\D∉ps/\B9 K Hx ps ((List.range i).map λn=>(n,2^h1-1))) ⟨[],rfl,AF.new hD _,AD,cn,.nil⟩ ?_ ?_
 ·refine Dc ?_;rintro i _ hGo j6 Hx hi ⟨ps,rfl,ex,hDx,np,vp⟩;ac_rfl;dsimp only[LV];rw[qF rfl];rw[dh];refine⟨_,rfl,_,rfl,dz (AX (show 2<=1000 by decide)),λu hu=>?_⟩;have f4:=AF.new hu (.tup [.int (i:Int),.int ((2^h1-1:Nat):Int)]);have hD4:=f4 _ _ hDx;have Du:D≠u:=λz=>by rw[<-z,hDx]at hu;cases hu
  have pl:=Paired.length vp;rw[cO,cw]at pl;refine⟨hD4,by rw[cO];exact AX 0#0,ps++[u],by rw[cX];rfl,(ex.trans f4).into hD,AD,λz=>(cV.mp z).elim np λy=>Du (cQ.mp y),?_⟩;rw[Ak];exact Paired.app (B9.upd hD4 (B9.same f4 vp)) (.cons (Ai.updL hD4 (Ai.of AD)) .nil)
 ·refine EO ?_;rintro _ hGo j6 H2 ⟨ps,rfl,e2,h2,np,vp⟩;ac_rfl;clear hGo;exact q D ps H2 23#7 (e1.free hD) h2 vp
theorem M5:AJ ["singles","beside","pair","steps","first","number","sign"] ["singles","beside","pair"] (AH Yd):=CK
theorem Wy(T:CI K mg t):B3 P w K mg base 2 t.f_10 ["singles","beside","pair"] (MN K):=by
 refine Ap T.d_10.2 M5 λvs H Q E h=>?_;obtain⟨p,b,q',ps,g,lb,tb,mb,tf,h1,x,rfl,sl,ok,tl,sq,xl,q⟩:=h;symm
 refine⟨_,(AB (AK 3 M5 14#4)
  (AB (AK 4 M5 (AL (Jd B7) (AR 4#9 8#3 AG (λ_ _=>rfl)) (AR 4#9 4#7 AG (λ_ _=>rfl))))
  (AB (BK PassesOwn.never rfl (Ji rfl T.z_range (AA (Ac 4) (AA (AL 20#3 (Ac 4) (AR 4#9 4#7 AG (λ_ _=>rfl))) AC))) (BY 5 M5) (AB (AK 6 M5 (AR 4#9 (AR 4#9 4#7 AG (λ_ _=>rfl)) (Ac 5) (λ_ _=>rfl)))
  (AE (Ao (Mp K 16#2 (AA (DZ (AA (Ac 6) (AA (DZ (AA (AL (Jd BF) (Ac 5) (AM hr (F9 T) T.d_58.1 7#5)) (AA (AM hr (Wv T) T.d_45.1 (AA 4#2 (AA (AR 4#9 8#3 AG (λ_ _=>rfl)) (AA (Ac 6) AC)))) AC))) AC))) AC))))))
  (AE (AN 16#2))))),?_⟩
 have g2:=ok.g2;have g9:=ok.g9;refine A6.el ok.v λtb' v1 v2=>?_;have gn:((0#7:Nat):Int)=g:=by lia
 nofun;refine⟨di _,λD hD=>hN _ _ ?_⟩;clear hN N;have e0:=AF.new hD (.lst []);nofun;refine⟨q',_,0,_,rfl,rfl,Ai.same' e0 sq,rfl,Ci (Ai.of (e0 _ _ v1)) rfl ?_⟩;refine⟨.inr ⟨by lia,by lia⟩,hN _ _ ?_⟩;clear hN N;have ef:((x.1:Nat):Int)*g=((x.1*0#7:Nat):Int):=by rw[f7,gn]
 rw[ef]
 have xb:x.1*0#7+0#7<=2#6:=by have:=g8 g.toNat (show x.1+1<=2#6/0#7 from xl);rw[gW]at this;lia
 have sz:=ok.sz;refine B2 (λσ HX=>(∃x5 x6,σ=[some 1#9,some 9#2,some 29#6,some 2#7,some (.int ((x.1*0#7:Nat):Int)),x5,x6])/\∃ts,AF H HX/\HX D=some 20#7/\Kr K HX ts (C1 g.toNat tf h1 tb x)) (λN hN=>?_) ?_
 ·refine⟨b,_,0,_,rfl,rfl,(Ai.of (e0 _ _ v1)),rfl,_,_,rfl,?_⟩;have len:=ok.len;refine⟨by lia,?_⟩;rw[show (((x.1*0#7:Nat):Int)+g-((x.1*0#7:Nat):Int)).toNat=0#7 by lia];refine Bt (n:=0#7) (λi σ HX=>(∃x5 x6,σ=[some 1#9,some 9#2,some 29#6,some 2#7,some (.int ((x.1*0#7:Nat):Int)),x5,x6])/\∃ts,AF H HX/\HX D=some 20#7/\Kr K HX ts ((C1 g.toNat tf h1 tb x).take i)) ⟨⟨_,_,rfl⟩,[],e0,AD,.nil⟩ ?_ ?_
  ·refine F8 ?_;rintro _ _ i _ hGo σ HX hi ⟨⟨x5,x6,rfl⟩,ts,eX,hX,sv⟩;ac_rfl;have nb:x.1*0#7+i<2#6:=by lia
   obtain⟨s0,s1⟩:=Bx g2 ok.tb (x.1*0#7+i);obtain⟨sg,hsg⟩:∃n:Nat,(n:Int)=tb.getD (x.1*0#7+i) 0:=⟨(tb.getD (x.1*0#7+i) 0).toNat,by lia⟩;dsimp only[C8];rw[show ((x.1*0#7:Nat):Int)+(i:Int)=((x.1*0#7+i:Nat):Int) by lia];refine Ah λN2 hN2=>?_;ac_nf;refine (Ci (Ai.of (eX _ _ v1)) rfl (Ci (Ai.of (eX _ _ v2)) (DB nb) (hN2 _ _ ?_)));clear hN2 N2;rw[<-hsg];ac_nf;have hh:0<2#6/0#7:=by lia
   have tsl:=Paired.length sv;rw[dI]at tsl;refine⟨⟨_,Ad.of hX⟩,b,g,lb,tb,mb,rfl,ok.same eX,by lia,q',_,1,_,rfl,rfl,Ai.same' eX sq,rfl,p,ps,0#7,tf,h1,_,sg,rfl,sl.same eX,by lia,by lia,λH2 e2=>⟨by decide,λu hu=>⟨by decide,λt1 ht1=>?_⟩⟩⟩;have st0:0<=B6 g.toNat tf h1 (x.2:Int) (sg:Int):=(EI h1 _).1;obtain⟨sn,hsn⟩:∃n:Nat,(n:Int)=B6 g.toNat tf h1 (x.2:Int) (sg:Int):=⟨(B6 g.toNat tf h1 (x.2:Int) (sg:Int)).toNat,by lia⟩;rw[<-fS,<-hsn]at ht1⊢;have f3:=AF.new hu (.tup [.int (((x.1*0#7+i)%(2#6/0#7):Nat):Int),.int (sn:Int)]);have f4:=AF.new ht1 (.tup [.int (sg:Int),.ref u]);have e24:=(e2.trans f3).trans f4;have hX2:=e24 _ _ hX;refine⟨_,hX2,by rw[cO];exact AX 0#0,⟨_,rfl⟩,(eX.trans e24).into hD,ts++[t1],by rw[AD,cX];rfl,?_⟩
   have gt:(C1 g.toNat tf h1 tb x)[i]?=some (sg,((x.1*0#7+i)%(2#6/0#7),sn)):=by unfold C1;rw[cT,fV hi];show some ((tb.getD (x.1*0#7+i) 0).toNat,((x.1*0#7+i)%(2#6/0#7),(B6 g.toNat tf h1 (x.2:Int) (tb.getD (x.1*0#7+i) 0)).toNat))=_;rw[<-hsg,<-hsn,cj,cj]
   rw[d7,gt];have tD:t1≠D:=λz=>by rw[z,(e2.trans f3) _ _ hX]at ht1;cases ht1
   exact Paired.app (Kr.upd hX2 (Kr.same e24 sv)) (.cons ⟨u,by rw[AI tD];exact AD,Ai.updL hX2 (Ai.of (f4 _ _ AD))⟩ .nil)
  ·rintro σ HX ⟨⟨x5,x6,rfl⟩,ts,eX,hX,sv⟩;rw[List.take_of_length_le (by unfold C1;rw[3#0,4#4];exact Nat.le_refl _)]at sv;exact hN _ _ ⟨⟨_,_,rfl⟩,ts,eX,hX,sv⟩
 rintro _ hGo σ HX ⟨⟨x5,x6,rfl⟩,ts,eX,hX,sv⟩;ac_rfl;ac_nf;exact q D ts HX eX hD hX sv
theorem Z4:AJ ["framed","beside","singles"] ["framed","beside"] (AH bT):=CK
theorem bt(T:CI K mg t)(hB:DQ mg base):B3 P w K mg base 12 t.f_2 ["framed","beside"] (Mk P w K LQ t.p_2):=by
 refine Wa T.d_2 Z4 (λ_ _ _ _ _ _=>b2 λ_ _=>rfl) λvs H Q E h=>?_;obtain⟨a,b,g,lf,tf,mf,lb,tb,mb,rfl,oka,fwa,s9,okb,fwb,b9,tbl,q⟩:=h;refine⟨rfl,λA outer s hr=>?_⟩
 refine⟨_,(AB (AK 2 Z4 (AM hr (UV T) T.d_11.1 3#8))
  (AE (AN (MG (cl:=[("singles",_),("beside",_)]) (is:=[2,1]) (Z1 T) 5#1 rfl T.d_43.1 (AA (Ba (Wx T) 5#1 rfl T.d_19.1 BJ 14#8) (AA (TQ (clos:=[("singles",_),("beside",_)]) hB rfl T.hd_2 0#2 rfl) AC)) (.cons ⟨rfl,rfl,by with_unfolding_all rfl,rfl⟩ (.cons ⟨rfl,rfl,by with_unfolding_all rfl,rfl⟩ .nil)))))),?_⟩
 have g2:=oka.g2;have g9:=oka.g9;obtain⟨hna,hla⟩:=Bl g2 oka.len fwa;obtain⟨hnb,hlb⟩:=Bl g2 okb.len fwb;have h9:1#2/0#7<=9:=by lia
 have h9b:2#6/0#7<=9:=by lia
 nofun;refine⟨a,g,lf,tf,mf,rfl,oka,h9,λp ps H2 e2 sl=>hN _ _ ?_⟩;clear hN N;refine⟨[.ref p,.ref b],.cons rfl 24#9,?_⟩;have hh:(g^(mf-1)).toNat=1#2/0#7:=by rw[<-hna,cj]
 have ok2:=oka.same e2;have okb2:=okb.same e2;refine⟨_,rfl,_,rfl,a,b,g,lf,tf,mf,lb,tb,mb,rfl,ok2,fwa,s9,okb2,h9b,λD ss H3 e3 hD hD3 vS=>?_⟩;rw[hh]at vS;have e13:=e2.trans e3;refine⟨tbl.same e13,λf H5 s5 tb5 hf la=>?_⟩;obtain⟨pm,c',ctv,oc,l1,l2,l3⟩:=la;dsimp only[JQ];intro H6 e6 n6 ck6 o6;have ok5:=(okb.same e13).sameT s5 28#9;have sl5:=(sl.same e3).sameT s5 28#9;have ab:=s5.get 28#9 hD3 (λ_ z=>by cases z)
 have hb0:0<2#6/0#7:=by have:=RW.Ab g2 (mb-1);lia
 have sl6:=sl5.same e6;have ok6:=ok5.same e6;have s56:∀{HA:Hp},AF H6 HA->AF H5 (Ft [("singles",0#6+1+1),("beside",0#6+1)] HA):=λeA=>L9 n6 (e6.trans eA)
 have vS6:B9 K H6 ss (Bq (1#2/0#7) (2#6/0#7)):=Paired.mapP vS λ_ _ z=>(Ai.sameT s5 28#9 z).same' e6
 refine⟨D,f,ss,_,2#6/0#7,2^(1#2/0#7),NC g.toNat tf (1#2/0#7) tb,rfl,Ad.of (e6 _ _ ab),vS6,by rw[Gf];lia,h9b,Ev h9,KG,Pb g9 tf hb0,Nw (k:=2) (x1:="pair") (fns:=["singles","beside"]) (Gy.same ⟨pm,c',ctv,oc,l1,l2,l3⟩ e6) ck6 ⟨rfl,rfl,rfl,by decide,λx hx=>by rw[cQ.mp hx];exact .inl rfl,λx hx=>by rcases dA.mp hx with z|z;rw[z];rfl;rw[cQ.mp z];rfl,by decide +kernel,by decide +kernel⟩ rfl ?N (λ_ _ _=>b1 λ_=>rfl) λc2 A2 outer2 s2 HA x bx hr xB eA sx=>⟨_,(S8 (fv:=[]) (cl:=[]) rfl (JF K (AM hr (Wy T) T.d_10.1 (AA 3#3 (AA 3#7 3#8)))) 0#2 0#5 rfl 0#5 rfl rfl trivial 0#2 trivial 0#1 (λ_ _ _ _=>Bm) (λ_ _ _ _=>3#3)),?B⟩,λd H7 ls A e7 hd hls hd7 g7 rp lA=>?_⟩
 case N=>exact dR.mpr ⟨λz=>qG (cQ.mp z) (by show 0#6+1+1≠0#6+1;lia),dR.mpr ⟨cn,ev⟩⟩
 case B =>
  intro QB qB;have eB:=s56 eA;have okB:=ok5.same eB;have slB:=sl5.same eB;have sxB:Ai K (Ft [("singles",0#6+1+1),("beside",0#6+1)] HA) bx (NB x):=Kx (ck6.same eA) sx;generalize Ft [("singles",0#6+1+1),("beside",0#6+1)] HA=HB at eB okB slB sxB qB⊢;refine⟨_,rfl,_,rfl,_,rfl,p,b,bx,ps,g,lb,tb,mb,tf,1#2/0#7,x,rfl,slB,okB,hlb,sxB,xB.1,λD1 ts H8 e8 hD1 hD8 sv=>?_⟩;refine⟨D1,rfl,⟨_,Ad.of hD8⟩,λD2 hD2=>?_⟩;refine OH (K:=K) (xs:=ts.map 6#4) (λi j6 Hx=>∃qs:List qS,j6=qs.map 6#4/\AF H8 Hx/\Hx D2=some 4#8/\B9 K Hx qs ((NC g.toNat tf (1#2/0#7) tb x).take i)) ⟨[],rfl,AF.new hD2 _,AD,.nil⟩ (λi j6 Hx _ ⟨_,_,ex,_⟩=>Ad.of (ex _ _ hD8)) ?_ ?_
  ·intro i v;refine RM ?_;rintro _ hGo j6 Hx gi ⟨qs,rfl,ex,hDx,vq⟩;ac_rfl;clear hGo;rw[cT]at gi;obtain⟨t1,ht1,rfl⟩:=c7.mp gi;obtain⟨y,hy,q1,k1,k2⟩:=BG sv ht1;have ql:=Paired.length vq;rw[dI,Hk]at ql;refine⟨t1,_,_,rfl,Ai.of (ex _ _ k1),?_⟩;dsimp only[LV];rw[qF rfl];refine⟨_,rfl,hDx,by rw[cO];exact AX 0#0,qs++[q1],by rw[cX];rfl,ex.into hD2,AD,?_⟩;have gt:(NC g.toNat tf (1#2/0#7) tb x)[i]?=some y.2:=by unfold NC;rw[22#8,hy];rfl
   rw[d7,gt];exact Paired.app (B9.upd hDx vq) (.cons (Ai.updL hDx (k2.same' ex)) .nil)
  ·refine EO ?_;rintro _ hGo j6 H9 ⟨qs,rfl,e9,h9',vq⟩;ac_rfl;clear hGo;have sl':=Paired.length sv;rw[3#0,List.take_of_length_le (by rw[Hk,sl'];unfold C1;rw[3#0,4#4];exact Nat.le_refl _)]at vq;exact qB D2 qs H9 (e8.trans e9) (e8.free hD2) h9' vq
 have e57:=s56 e7
 have out:∀{b:qS},H6 b=none->b∉Be [(("singles":Str),0#6+1+1),("beside",0#6+1)]:=λ{b} h z=>by obtain⟨_,_,_,y⟩:=ck6.at z;rw[h]at y;cases y
 have fr:∀{b:qS},H6 b=none->H b=none:=λh=>e13.free (s5.free tb5 (e6.free h))
 refine q d _ ls A ((e13.t.trans s5).trans e57.t) (tb5.same e57) (fr hd) (λl hl=>fr (hls l hl)) ?_ ?_ rp lA
 ·obtain⟨bs,k1,k2,k3⟩:=hd7;exact⟨bs,by rw[BR (out hd)];exact k1,k2,λy hy=>Kx (ck6.same e7) (k3 y hy)⟩
 ·refine⟨g7.n,g7.nd,λi c l h1 h2=>?_⟩;obtain⟨qs,k1,k2⟩:=g7.e i c l h1 h2;exact⟨qs,by rw[BR (out (hls l (cp h2)))];exact k1,Paired.mapP k2 λ_ _ z=>Kx (ck6.same e7) z⟩
theorem Vw:AJ ["framed","beside","left","pairs","steps","singles","nearer","pair"] ["framed","beside","left","pairs","steps"] (AH bU):=CK
theorem bu(T:CI K mg t):B3 P w K mg base 4 t.f_8 ["framed","beside","left","pairs","steps"] (Ml P w K):=by
 refine Ap T.d_8.2 Vw (bd:=(λ_ _ _ _ _ _=>b5 λ_ _ _ _ _=>rfl)) λvs H Q E h=>?_;obtain⟨a,b,l,c,g,lf,tf,mf,lb,tb,mb,u,M,f,ps,L,n,rfl,oka,fwa,s9,okb,fwb,b9,dl,nd,hc,vp,lL,bL,q⟩:=h;symm
 refine⟨_,(AB (AK 5 Vw (AM hr (UV T) T.d_11.1 3#8))
  (AB (AK 6 Vw 14#4)
  (AB (BK PassesOwn.never rfl (JF K 7#9) (BY 7 Vw) (AE (Ao (Gh eP fh fk Dh 19#7 (AA (Ct [(4,"steps"),(2,"left")] [("steps",_),("left",_)] (JF K (AM hr (Wy T) T.d_10.1 (AA 13#0 (AA 3#3 27#6)))) (λ_ _ _ _=>(IL (Af CB (Qo (P:=P) (w:=w) (K:=K) rfl rfl rfl 13#9 3#7 (AR (D8 (K:=K) rfl) 2#4 AG (λ_ _=>rfl)) ⟨rfl,rfl,rfl,rfl⟩) 3#3 (AO _)))) (λ_ _ _ _=>2#4)) AC)))))
  (AE (AN 19#7))))),?_⟩
 have g2:=oka.g2;have g9:=oka.g9;obtain⟨hna,hla⟩:=Bl g2 oka.len fwa;obtain⟨hnb,hlb⟩:=Bl g2 okb.len fwb;have h9:1#2/0#7<=9:=by lia
 nofun;refine⟨a,g,lf,tf,mf,rfl,oka,h9,λp ps1 H2 e2 sl=>hN _ _ ?_⟩;clear hN N;nofun;refine⟨di _,λD hD=>hN _ _ ?_⟩;clear hN N;have e23:=AF.new hD (.lst []);have e0:=e2.trans e23;have z0:AU H2 D (.lst []) D=some (.lst []):=AD;have Dn:H D=none:=e2.free hD;generalize AU H2 D (.lst [])=H3 at e0 e23 z0⊢;have sl3:RK H3 p ps1 (DP g.toNat tf (1#2/0#7) (1#2/0#7)):=sl.same e23;refine B2 (λσ HX=>(∃x7,σ=[some 2#0,some 9#2,some 9#5,some 16#3,some (.int (n:Int)),some 1#9,some 2#7,x7])/\AF H HX/\∃ts,HX D=some 20#7/\Kr K HX ts (L.flatMap (F6 g.toNat tf (1#2/0#7) tb M f n))) (λN hN=>?_) ?_
 ·refine⟨_,rfl,c,rfl,⟨_,e0.seq hc⟩,?_⟩;refine By (xs:=ps.map 6#4) (λi σ HX=>(∃x7,σ=[some 2#0,some 9#2,some 9#5,some 16#3,some (.int (n:Int)),some 1#9,some 2#7,x7])/\AF H HX/\AF H2 HX/\∃ts,HX D=some 20#7/\Kr K HX ts ((L.take i).flatMap (F6 g.toNat tf (1#2/0#7) tb M f n))) ⟨⟨_,rfl⟩,e0,e23,[],z0,.nil⟩ (λi σ HX _ z=>z.2.1.seq hc) ?_ ?_
  ·refine G8 ?_;rintro _ _ i v _ hGo σ HX hv ⟨⟨x7,rfl⟩,eX,eX2,ts,hDX,sv⟩;ac_rfl;rw[cT]at hv;obtain⟨b1,hb1,rfl⟩:=c7.mp hv;obtain⟨x,hx,sx⟩:=BG vp hb1;have xm:=cp hx;have il:=(cP.mp hx).1;dsimp only[C8];refine⟨_,rfl,.inl ⟨rfl,_,Ad.of hDX⟩,_,rfl,_,rfl,_,rfl,p,b,b1,ps1,g,lb,tb,mb,tf,1#2/0#7,x,rfl,sl.same eX2,okb.same eX,hlb,Ai.same' eX sx,bL x xm,λD1 ts1 H8 e8 hD1 hD8 sv1=>?_⟩;refine⟨D1,rfl,⟨_,Ad.of hD8⟩,λD2 hD2=>?_⟩;have eH8:=eX.trans e8;refine Bj (xs:=ts1.map 6#4) (λj j6 Hx=>∃qs:List qS,j6=qs.map 6#4/\AF H8 Hx/\Hx D2=some 4#8/\Kr K Hx qs (((C1 g.toNat tf (1#2/0#7) tb x).take j).filter λs=>decide (s.2∈M/\f s.2=n))) ⟨[],rfl,AF.new hD2 _,AD,.nil⟩ (λi j6 Hx _ ⟨_,_,ex,_⟩=>Ad.of (ex _ _ hD8)) ?_ ?_
   ·refine DE ?_;rintro j v _ hGo j6 Hx gi ⟨qs,rfl,ex,hDx,vq⟩;ac_rfl;rw[cT]at gi;obtain⟨t1,ht1,rfl⟩:=c7.mp gi;obtain⟨y,hy,q1,k1,k2⟩:=BG sv1 ht1;have ql:=Paired.length vq;have dlx:=dl.same (eH8.trans ex);have gt:((C1 g.toNat tf (1#2/0#7) tb x).take (j+1)).filter (λs=>decide (s.2∈M/\f s.2=n))=((C1 g.toNat tf (1#2/0#7) tb x).take j).filter (λs=>decide (s.2∈M/\f s.2=n))++[y].filter λs=>decide (s.2∈M/\f s.2=n):=by rw[d7,hy,fP];rfl
    rw[gt];refine⟨_,rfl,l,rfl,⟨u,_,dlx⟩,_,rfl,t1,_,1,_,rfl,rfl,Ai.of (ex _ _ k1),rfl,q1,u,_,Bw y.2,rfl,dlx,k2.same' ex,_,rfl,?_⟩;rw[ML nd]
    by_cases m:y.2∈M/\f y.2=n
    ·rw[qF m.1,m.2,i8];refine⟨Cj,_,rfl,?_⟩;dsimp only;rw[qF (qH rfl),Zc (p:=λs:Nat×(qY)=>decide (s.2∈M/\f s.2=n)) (j:=y) (qH m)];have y1:=fN (λs:Nat×(qY)=>decide (s.2∈M/\f s.2=n)) ((C1 g.toNat tf (1#2/0#7) tb x).take j);have y2:((C1 g.toNat tf (1#2/0#7) tb x).take j).length<=0#7:=by rw[List.length_take];unfold C1;rw[3#0,4#4];exact Nat.min_le_right ..
     have y3:qs.length<=1000:=by rw[ql];lia
     refine⟨_,rfl,hDx,by rw[cO];exact AX y3,qs++[t1],by rw[cX];rfl,ex.into hD2,AD,Paired.app (Kr.upd hDx vq) (.cons ?_ .nil)⟩;exact⟨q1,by rw[AI λz=>by rw[<-z,ex _ _ k1]at hDx;cases hDx];exact ex _ _ k1,Ai.updL hDx (k2.same' ex)⟩
    ·rw[Zd (p:=λs:Nat×(qY)=>decide (s.2∈M/\f s.2=n)) (j:=y) (qI m),eI]
     by_cases m2:y.2∈M
     ·rw[qF m2,i8];refine⟨Cj,_,rfl,?_⟩;dsimp only;rw[qE (by rw[qI λz=>m ⟨m2,by cases z;rfl⟩];decide)];exact⟨qs,rfl,ex,hDx,vq⟩
     ·rw[qE m2,Option.getD_none];refine⟨U7,_,rfl,?_⟩;dsimp only;rw[qE (by rw[qI λz=>by cases z];decide)];exact⟨qs,rfl,ex,hDx,vq⟩
   ·refine EO ?_;rintro _ hGo j6 H9 ⟨qs,rfl,e9,h9',vq⟩;ac_rfl;clear hGo;have sl':=Paired.length sv1;rw[cO,eE (by rw[sl'];exact cU _)]at vq;have e19:=e8.trans e9;have hDX9:=e19 _ _ hDX;have tl:=Paired.length sv;have ql:=Paired.length vq;refine⟨D,D2,_,_,rfl,rfl,hDX9,h9',?_,?_⟩
    ·have y1:=Hl g.toNat tf (1#2/0#7) tb M f n (L.take i);have y2:=Hl g.toNat tf (1#2/0#7) tb M f n [x];rw[iU]at y2;have y3:(F6 g.toNat tf (1#2/0#7) tb M f n x).length=qs.length:=ql.symm;rw[dI]at y1;have y4:=ik (show min i L.length<=4608 by lia) (show 0#7<=9 by lia);rw[cm]at y2;rw[cO,cO,sizeLine_eq];lia
    ·rw[<-cX];refine⟨⟨_,rfl⟩,(eX.trans e19).into Dn,(eX2.trans e19).into hD,ts++qs,AD,?_⟩;rw[d7,hx,28#5];refine Kr.upd hDX9 (Paired.app (Kr.same e19 sv) ?_);rw[Option.toList_some,iU];exact vq
  ·rintro σ HX ⟨⟨x7,rfl⟩,eX,eX2,ts,hDX,sv⟩;have pl:=Paired.length vp;rw[cO,eE 0#0]at sv;exact hN _ _ ⟨⟨_,rfl⟩,eX,ts,hDX,sv⟩
 rintro _ hGo σ HX ⟨⟨x7,rfl⟩,eX,ts,hDX,sv⟩;ac_rfl;ac_nf;exact q D ts HX eX Dn hDX sv
theorem EQ:AJ ["one","other","framed","beside","nexts","left","pairs","stretch","steps","nearer","sign"] ["one","other"] (AH Ye):=CK
theorem M6(T:CI K mg t)(hB:DQ mg base):B3 P w K mg base 13 t.f_44 ["one","other"] (KI t.c_40 LQ t.p_2):=by
 refine Gv T.d_44.2 EQ λvs H Q E h=>?_;obtain⟨a,b,g,lo,j3,m,lf,tf,mf,lo',tab',m',lb,tb,mb,rfl,oka,fwa,okb,fwb,tbl,hsm,hbig⟩:=h;symm
 refine⟨_,(AB (Ao (AM hr (br T) T.d_1.1 14#8))
  (AB (AK 2 EQ (Ba (Pu T) 5#1 rfl T.d_57.1 BJ 3#8))
  (AB (AK 3 EQ (Ba (Pu T) 5#1 rfl T.d_57.1 BJ 5#3))
  (AB (AK 4 EQ (Ba (bt T hB) 5#1 rfl T.m_2 BJ (AA 3#7 17#1)))
  (AB (AK 5 EQ (AM hr (bp T) T.d_7.1 (AA 8#9 (AA (Ct [] [] (Jx (P:=P) (w:=w) (K:=K) rfl rfl rfl 8#9) (λ_ _ _ _=>(IL (Af CB (AR (D8 (K:=K) rfl) 2#4 AG (λ_ _=>rfl)) AG (AO _)))) (λ_ _ _ _=>2#4)) AC))))
  (AB (D9 (iy:=6) (fv:=[(5,"left")]) (cl:=[("left",_)]) rfl EQ.nd rfl 4#6 (JF K (Ba (Wx T) 5#1 rfl T.d_19.1 BJ (AA 3#7 17#1))) 0#2 0#2 0#5 rfl 0#5 rfl ⟨0#2,trivial⟩ 0#2 ⟨⟨rfl,rfl,0#2,rfl⟩,trivial⟩ 0#1 (λ_ _ _ _=>(IL (Hq (VO (P:=P) (w:=w) (K:=K) rfl rfl rfl 13#9 2#4 3#3)))) (λ_ _ _ _=>2#4))
  (AB (Ay (Af CB (AV 15#4 rfl T.z_len dC (AA 19#7 AC)) AG (AO _)) (AE (AN Dw)) Ae)
  (AB (AK 7 EQ 14#4)
  (AB (AK 8 EQ (AV (Gm rfl) rfl T.z_min PyProof.Rows.boot_min (AA (Ct [(5,"left")] [("left",_)] (JF K 19#7) (λ_ _ _ _=>Bm) (λ_ _ _ _=>(by exact Ij (P:=P) (w:=w) (K:=K) rfl rfl rfl 13#9 3#3 2#4 (λ_ _=>rfl)))) AC)))
  (AB (PS.nox (Bs PassesOwn.never (Af Ck (pv 8) AG (AO _)) (AB (AK 8 EQ (AL CU (pv 8) AG))
  (AB (AK 9 EQ (AM hr (bu T) T.d_8.1 (AA 3#7 (AA 7#9 (AA 13#0 (AA 19#7 (AA (pv 8) AC)))))))
  (AB (AK 10 EQ (AV (Gm rfl) rfl T.z_min PyProof.Rows.boot_min (AA (Ct [] [] (JF K (pv 9)) (λ_ _ _ _=>Bm) (λ_ _ _ _=>(AR (D8 (K:=K) rfl) 2#4 AG (λ_ _=>rfl)))) AC)))
  (AB (AK 6 EQ (Vj (K:=K) rfl hr.units rfl rfl T.z_set rfl T.z_sorted (AA (Ct [(10,"sign")] [("sign",_)] (JF K (pv 9)) (λ_ _ _ _=>(IL (Af CB (AR (D8 (K:=K) rfl) 2#4 AG (λ_ _=>rfl)) 3#3 (AO _)))) (λ_ _ _ _=>(AR (D8 (K:=K) rfl) 2#4 AG (λ_ _=>rfl)))) AC)))
  (AE (Ao (X8 K 20#0 (AA (pv 10) AC))))))))))
  (AE (AN 20#0)))))))))))),?_⟩
 have g2:=oka.g2;have g9:=oka.g9;nofun;refine⟨a,b,g,lo,j3,m,lo',tab',m',rfl,oka,okb,hN _ _ ?_⟩;clear hN N;nofun;refine⟨a,g,lo,j3,m,lf,tf,mf,rfl,oka,fwa,λs9 a1 H1 e1 oka1=>hN _ _ ?_,λz=>hbig 27#9⟩;clear hN N;nofun;refine⟨b,g,lo',tab',m',lb,tb,mb,rfl,okb.same e1,fwb,λb9 b1 H2 e2 okb2=>hN _ _ ?_,λz H' e=>hbig (.inr z) H' (e1.trans e)⟩;clear hN N;obtain⟨hq1,hq2⟩:=hsm s9 b9;clear hsm hbig;have e12:=e1.trans e2;have oka2:=oka1.same e2;have fa:=Eo g2 oka.len fwa;have fb:=Eo g2 okb.len fwb;obtain⟨hna,hla⟩:=Bl g2 oka2.len fa;obtain⟨hnb,hlb⟩:=Bl g2 okb2.len fb;have h9:1#2/0#7<=9:=by lia
 have h9b:2#6/0#7<=9:=by lia
 nofun;refine⟨a1,b1,g,lf,tf,mf,lb,tb,mb,rfl,oka2,fa,s9,okb2,fb,b9,tbl.same e12,λd H3 ls A s3 tb3 hd hls w3 g3 rA bA=>hN _ _ ?_⟩;clear hN N;have s13:=e12.t.trans s3;have oka3:=oka2.sameT s3 (tbl.same e12);have okb3:=okb2.sameT s3 (tbl.same e12);nofun;obtain⟨u3,dr3⟩:=w3.r;refine⟨_,rfl,d,u3,_,rfl,dr3,λu' dr' D hD=>?_⟩;have dn:H d=none:=e12.free hd;have gF:=dr3.grl g3 u';have sF:=s13.into dn u'
 have tbF:Au LQ (DD "pairs_reached") t.p_2 (AU H3 d u'):=by obtain⟨bs,z1,_⟩:=w3;exact tb3.into z1 (λ_ z=>by cases z) (λ_ z=>by cases z)
 have s2F:=s3.into hd u';have tb2:=tbl.same e12;generalize AU H3 d u'=HF at dr' gF sF tbF s2F hD⊢;clear w3 g3 dr3 s3 s13 oka3 okb3 tb3 hls
 have cA:4#0<=4608:=by have y1:=Kp rA.nd bA;have y2:=Ev h9;have y3:=ik h9b y2;lia
 refine Np (P:=P) (w:=w) (K:=K) (λi j6 Hx=>∃ps:List qS,j6=ps.map 6#4/\5#5<=i/\AF HF Hx/\Hx D=some 4#8/\B9 K Hx ps ((A.take i).filter λp=>decide (p.2=0))) ⟨[],rfl,cU _,AF.new hD _,AD,.nil⟩ (λi j6 Hx _ z=>by obtain⟨_,_,_,e,_⟩:=z;exact dr'.same e) ?_ ?_
 ·intro i bx k v;refine cJ ?_;rintro _ hGo j6 Hx hk sb ⟨ps,rfl,lp,ex,hDx,hp⟩;ac_rfl;clear hGo;obtain⟨x,l,ha,hl,rfl,rfl⟩:=PB hk;have il:=(cP.mp ha).1;refine⟨_,rfl,bx,_,1,_,rfl,rfl,sb,rfl,?_⟩;refine⟨Cj,_,rfl,?_⟩;dsimp only;rw[K1 ha]
  by_cases z:x.2=0
  ·rw[qF (by rw[z];rfl),qF (qH z)];refine⟨_,rfl,hDx,by rw[cO,sizeLine_eq];lia,ps++[bx],by rw[cX];rfl,by rw[cR,cm];lia,ex.into hD,AD,?_⟩;exact Paired.app (B9.upd hDx hp) (.cons (Ai.updL hDx sb) .nil)
  ·rw[qE (λy=>z (by have:=qO y;injection this with this;lia)),qE (λy=>z (qO y)),eI];exact⟨ps,rfl,by lia,ex,hDx,hp⟩
 ·refine EO ?_;rintro _ hGo j6 H4 ⟨es,rfl,le,e4,hD4,pe4⟩;ac_rfl;clear hGo;rw[C4 (by rw[cO];exact gF.n),eG]at pe4;have leE:=fN (λp:Nat×Nat=>decide (p.2=0)) A;refine⟨d,D,u',ls,es,A,_,_,rfl,dr'.same e4,gF.same e4,rA.nd,rA.cl,cA,λx _=>by rw[Hk];lia,hD4,pe4,by lia,λu5 H5 l M f e5 dr5 hl w5 fw=>hN _ _ ?_⟩;clear hN N;have s25:=((s2F.trans e4.t).into hd u5).trans e5.t;have s5:=e12.t.trans s25;have tb5:Au LQ (DD "pairs_reached") t.p_2 H5:=by obtain⟨z1,z2,z3⟩:=(dr'.same e4).notAny;exact ((tbF.same e4).into z1 z2 z3).same e5
  have oka5:=oka2.sameT s25 tb2;have okb5:=okb2.sameT s25 tb2;clear dr5 e5 pe4 hD4 e4 gF dr' tbF s2F sF s25 tb2 oka2 okb2 hD leE le hl;have hE0:∀x∈A,x.2=0->x∈A.filter λp:Nat×Nat=>decide (p.2=0):=λx hx h0=>dm.mpr ⟨hx,qH h0⟩
  have cM:∀x∈M,f x<4608:=λx hx=>by
   have y1:=(fw.low hx).1;have y2:=fw.nd.length_le_of_subset (l₂:=A) λq hq=>(fw.sub q hq).elim id λz=>(dm.mp z).1
   lia
  obtain⟨ul,dl⟩:=w5.r;refine B2 (λσ HX=>∃c ps,σ=[some 2#0,some 9#2,some (.ref a1),some (.ref b1),some 2#3,some 9#5,some 16#3,none,none,none,none]/\AF H5 HX/\HX c=some 9#1/\B9 K HX ps ((Bq (1#2/0#7) (2#6/0#7)).filter λp=>decide (p∈M))) (λN hN=>?_) ?_
  ·refine⟨_,rfl,_,rfl,a1,b1,g,lf,tf,mf,lb,tb,mb,rfl,oka5,fa,s9,okb5,h9b,λD1 ps1 H6 e6 hD1 hD6 vp1=>?_⟩;refine⟨D1,rfl,⟨_,Ad.of hD6⟩,λD2 hD2=>?_⟩;rw[show (g^(mf-1)).toNat=1#2/0#7 by rw[<-hna,cj]]at vp1;refine Bj (xs:=ps1.map 6#4) (λj j6 Hx=>∃qs:List qS,j6=qs.map 6#4/\qs.length<=j/\AF H6 Hx/\Hx D2=some 4#8/\B9 K Hx qs (((Bq (1#2/0#7) (2#6/0#7)).take j).filter λp=>decide (p∈M))) ⟨[],rfl,cU _,AF.new hD2 _,AD,.nil⟩ (λi j6 Hx _ ⟨_,_,_,ex,_⟩=>Ad.of (ex _ _ hD6)) ?_ ?_
   ·refine DE ?_;rintro j v _ hGo j6 Hx gi ⟨qs,rfl,lq,ex,hDx,vq⟩;ac_rfl;rw[cT]at gi;obtain⟨t1,ht1,rfl⟩:=c7.mp gi;obtain⟨y,hy,sy⟩:=BG vp1 ht1;have jl:=(cP.mp hy).1;rw[Gf]at jl;have sy2:=Ai.same' ex sy;refine⟨_,rfl,_,rfl,l,t1,ul,_,Bw y,rfl,rfl,dl.same (e6.trans ex),sy2,_,rfl,?_⟩;rw[Iy (by rw[cO]) fw.nd,K1 hy];dsimp only
    by_cases z:y∈M
    ·rw[qH z,qF rfl,qF rfl];refine⟨_,rfl,hDx,by rw[cO];exact AX 0#0,qs++[t1],by rw[cX];rfl,by rw[cR,cm];lia,ex.into hD2,AD,?_⟩;exact Paired.app (B9.upd hDx vq) (.cons (Ai.updL hDx sy2) .nil)
    ·rw[qI z,qE dB,qE dB,eI];exact⟨qs,rfl,by lia,ex,hDx,vq⟩
   ·rintro j6 H9 ⟨qs,rfl,_,e9,h9',vq⟩;rw[cO,eE (by rw[Paired.length vp1];exact cU _)]at vq;exact hN _ _ ⟨D2,qs,rfl,e6.trans e9,h9',vq⟩
  rintro _ hGo σ H7 ⟨c,ps,rfl,e7,hc7,vp7⟩;ac_rfl;have pl:=Paired.length vp7;nofun;refine⟨_,.inl (Ad.of hc7),?_⟩;rw[cO,pl]
  by_cases z:(Bq (tf.length/g.toNat) (tb.length/g.toNat)).filter (λp=>decide (p∈M))=[]
  ·rw[z,qF (by rfl)];refine hq1 (λrow h=>OI g2 okb5.tb rA fw hE0 (λx hx hm=>?_) h) H7 (s5.trans e7.t) (tb5.same e7);have y:x∈(Bq (1#2/0#7) (2#6/0#7)).filter λp=>decide (p∈M):=dm.mpr ⟨hx,qH hm⟩
   rw[z]at y;exact qG y cn
  rw[qE (λy=>z (iQ.mp 0#0))];refine hN _ _ ?_;clear hN N hq1;nofun;refine⟨di _,λS hS=>hN _ _ ?_⟩;clear hN N;nofun;obtain⟨L0,hL0⟩:∃L0,L0=(Bq (1#2/0#7) (2#6/0#7)).filter λp=>decide (p∈M):=⟨_,rfl⟩
  rw[<-hL0]at vp7 z pl
  have L0M:∀x∈L0,x∈Bq (1#2/0#7) (2#6/0#7)/\x∈M:=λx hx=>by rw[hL0]at hx;have y:=dm.mp hx;exact⟨y.1,qO y.2⟩
  have l9:L0.length<=9:=by have y:=fN (λp:Nat×Nat=>decide (p∈M)) (Bq (1#2/0#7) (2#6/0#7));rw[Gf,<-hL0]at y;lia
  clear hL0;have e8:=AF.new hS (.lst []);have hS8:AU H7 S (.lst []) S=some (.lst (([]:qX).map 2#1)):=AD;generalize AU H7 S (.lst [])=H8 at e8 hS8⊢;have e58:=e7.trans e8;have S5:H5 S=none:=e7.free hS;refine⟨_,rfl,c,rfl,⟨_,Ad.of (e8 _ _ hc7)⟩,λD2 hD2=>?_⟩;refine Bj (xs:=ps.map 6#4) (λj j6 Hx=>j6=((L0.take j).map λx=>((f x:Nat):Int)).map 2#1/\AF H8 Hx/\Hx D2=some 4#8) ⟨rfl,AF.new hD2 _,AD⟩ (λi j6 Hx _ ⟨_,ex,_⟩=>Ad.of (ex _ _ (e8 _ _ hc7))) ?_ ?_
  ·refine DE ?_;rintro j v _ hGo j6 Hx gi ⟨rfl,ex,hDx⟩;ac_rfl;rw[cT]at gi;obtain⟨t1,ht1,rfl⟩:=c7.mp gi;obtain⟨y,hy,sy⟩:=BG vp7 ht1;have jl:=(cP.mp hy).1;dsimp only[LV];rw[qF rfl];refine⟨_,rfl,_,rfl,l,t1,ul,_,Bw y,.int ((f y:Nat):Int),rfl,rfl,dl.same (e58.trans ex),Ai.same' (e8.trans ex) sy,by rw[ML fw.nd,qF (L0M y (cp hy)).2],hDx,by rw[cO,cO,dI];exact AX 0#0,?_,ex.into hD2,AD⟩;rw[d7,hy,cX,cX];rfl
  ·refine EO ?_;rintro _ hGo j6 H9 ⟨rfl,e9,h9'⟩;ac_rfl;clear hGo;rw[cO,eE 0#0]at h9';refine⟨D2,rfl,_,Ad.of h9',by rw[cO];have:=gK.mpr z;lia,λn0 hn0 hmin=>hN _ _ ?_⟩;clear hN N;obtain⟨x0,hx0,rfl⟩:=c6.mp hn0;obtain⟨y1,y2⟩:=L0M x0 hx0;have wk0:Vo g tf tb M f [] L0 (f x0):=⟨λx hx=>⟨x,(L0M x hx).1,rfl⟩,λx hx=>KG x (L0M x hx).1,⟨x0,hx0,y2,rfl⟩,λn hn=>qG hn cn⟩;have e79:=e8.trans e9;refine B2 (λσ HX=>∃c ws L x9 x10,σ=[some 2#0,some 9#2,some (.ref a1),some (.ref b1),some 2#3,some 9#5,some 16#3,some 24#7,some (.int ((0:Nat):Int)),x9,x10]/\AF H5 HX/\HX S=some 20#8/\Vo g tf tb M f ws L 0/\19#1<=4608) (λN hN=>?_) ?_
   ·refine⟨λm σ HX=>∃c ps L ws x9 x10,σ=[some 2#0,some 9#2,some (.ref a1),some (.ref b1),some 2#3,some 9#5,some 16#3,some 24#7,some (.int ((m:Nat):Int)),x9,x10]/\AF H7 HX/\HX S=some 20#8/\Ad K HX c 3#1/\B9 K HX ps L/\L.length<=4608/\Vo g tf tb M f ws L m/\19#1+m<=4608,⟨_,c,ps,L0,[],none,none,rfl,e79,e9 _ _ hS8,Ad.of (e79 _ _ hc7),B9.same e79 vp7,by lia,wk0,by have:=cM x0 y2;simp only[List.length_nil];lia⟩,?_⟩;clear hmin wk0 y1 y2 hx0 hn0 x0 h9' e9 e79 hD2 H9 D2 e58 hS8 e8 H8 hc7 vp7 pl z L0M l9 L0 ps c;intro m;refine EO ?_;rintro _ hGo σ HX ⟨c,ps,L,ws,x9,x10,rfl,eX,hSX,hc,vp,lL,wk,lw⟩;ac_rfl;clear hGo;refine⟨_,rfl,_,_,rfl,rfl,_,rfl,?_⟩;dsimp only;cases m with
    |zero =>
     rw[qE 0#1];exact hN _ _ ⟨_,_,_,_,_,rfl,e7.trans eX,hSX,wk,lw⟩
    |succ n =>
     rw[qF (qH 0#0)];refine⟨λσ' H'=>∃m',m'<n+1/\∃c ps L ws x9 x10,σ'=[some 2#0,some 9#2,some (.ref a1),some (.ref b1),some 2#3,some 9#5,some 16#3,some 24#7,some (.int ((m':Nat):Int)),x9,x10]/\AF H7 H'/\H' S=some 20#8/\Ad K H' c 3#1/\B9 K H' ps L/\L.length<=4608/\Vo g tf tb M f ws L m'/\19#1+m'<=4608,λ_ _ h=>h,?_⟩;refine Ah λN2 hN2=>?_;ac_nf;rw[show ((n+1:Nat):Int)-1=(n:Int) by lia];refine hN2 _ _ ?_;clear hN2 N2;have e5X:=e7.trans eX;refine Ah λN2 hN2=>?_;ac_nf;refine⟨a1,b1,l,c,g,lf,tf,mf,lb,tb,mb,ul,M,f,ps,L,n,rfl,oka5.same e5X,fa,s9,okb5.same e5X,fb,b9,dl.same e5X,fw.nd,hc,vp,lL,λx hx=>(wk.bel x hx).1,λD4 ts H9 e9 hD4 hD49 sv=>hN2 _ _ ?_⟩;clear hN2 N2;refine Ah λN2 hN2=>?_;ac_nf;obtain⟨NL,hNL⟩:∃NL,NL=L.flatMap (F6 g.toNat tf (1#2/0#7) tb M f n):=⟨_,rfl⟩;rw[<-hNL]at sv
     have nN:NL.length<=41472:=by have z1:=Hl g.toNat tf (1#2/0#7) tb M f n L;have z2:=ik lL (show 0#7<=9 by lia);rw[<-hNL]at z1;lia
     have nz:NL≠[]:=by rw[hNL];exact wk.some fw
     have tl:=Paired.length sv;refine⟨_,rfl,D4,rfl,⟨_,Ad.of hD49⟩,λD5 hD5=>?_⟩;refine Bj (xs:=ts.map 6#4) (λj j6 Hx=>j6=((NL.take j).map λs=>((s.1:Nat):Int)).map 2#1/\AF H9 Hx/\Hx D5=some 4#8) ⟨rfl,AF.new hD5 _,AD⟩ (λi j6 Hx _ ⟨_,ex,_⟩=>Ad.of (ex _ _ hD49)) ?_ ?_
     ·refine DE ?_;rintro j v _ hGo j6 Hx gi ⟨rfl,ex,hDx⟩;ac_rfl;rw[cT]at gi;obtain⟨t1,ht1,rfl⟩:=c7.mp gi;obtain⟨y,hy,q1,k1,k2⟩:=BG sv ht1;dsimp only[LV];rw[qF rfl];refine⟨_,rfl,t1,_,0,_,rfl,rfl,Ai.of (ex _ _ k1),rfl,hDx,by rw[cO,cO,dI,sizeLine_eq];lia,?_,ex.into hD5,AD⟩;rw[d7,hy,cX,cX];rfl
     refine EO ?_;rintro _ hGo j6 HA ⟨rfl,eA,hA⟩;ac_rfl;clear hGo;rw[cO,eE 0#0]at hA;refine⟨D5,rfl,_,Ad.of hA,by rw[cO];have:=gK.mpr nz;lia,λc0 hc0 _=>hN2 _ _ ?_⟩;clear hN2 N2;obtain⟨s0,hs0,rfl⟩:=c6.mp hc0;have svA:=Kr.same eA sv;have hDA:=eA _ _ hD49;refine Ah λN2 hN2=>?_;ac_nf;refine⟨_,rfl,D4,rfl,⟨_,Ad.of hDA⟩,λD6 hD6=>?_⟩;refine Bj (xs:=ts.map 6#4) (λj j6 Hx=>∃qs:List qS,j6=qs.map 6#4/\qs.length<=j/\AF HA Hx/\Hx D6=some 4#8/\B9 K Hx qs (((NL.take j).filter λs=>decide (s.1=s0.1)).map (·.2))) ⟨[],rfl,cU _,AF.new hD6 _,AD,.nil⟩ (λi j6 Hx _ ⟨_,_,_,ex,_⟩=>Ad.of (ex _ _ hDA)) ?_ ?_
     ·refine DE ?_;rintro j v _ hGo j6 Hx gi ⟨qs,rfl,lq,ex,hDx,vq⟩;ac_rfl;rw[cT]at gi;obtain⟨t1,ht1,rfl⟩:=c7.mp gi;have jl:=(cP.mp ht1).1;obtain⟨y,hy,q1,k1,k2⟩:=BG svA ht1;rw[K1 hy,cX];refine⟨_,rfl,t1,_,0,_,rfl,rfl,Ai.of (ex _ _ k1),rfl,?_⟩;refine⟨_,rfl,Cj,_,rfl,?_⟩;dsimp only
      by_cases z:y.1=s0.1
      ·rw[qF (by rw[z];exact qH rfl),qF (qH z)];refine⟨_,rfl,t1,_,1,_,rfl,rfl,Ai.of (ex _ _ k1),rfl,hDx,by rw[cO,sizeLine_eq];lia,qs++[q1],by rw[cX];rfl,by rw[cR,cm];lia,ex.into hD6,AD,?_⟩;exact Paired.app (B9.upd hDx vq) (.cons (Ai.updL hDx (k2.same' ex)) .nil)
      ·rw[qE (λy1=>z (by have:=qO y1;injection this with this;lia)),qE (λy1=>z (qO y1)),gU,eI];exact⟨qs,rfl,by lia,ex,hDx,vq⟩
     refine EO ?_;rintro _ hGo j6 HB ⟨qs,rfl,lq,eB,hDB,vq⟩;ac_rfl;clear hGo;rw[cO,eE 0#0]at vq;obtain⟨Y,hY⟩:∃Y,Y=(NL.filter λs=>decide (s.1=s0.1)).map (·.2):=⟨_,rfl⟩;rw[<-hY]at vq
     have mY:∀z,z∈Y↔∃s∈NL,s.1=s0.1/\s.2=z:=λz=>by
      rw[hY,c6];constructor
      ·rintro⟨s,h1,h2⟩;exact⟨s,(dm.mp h1).1,qO (dm.mp h1).2,h2⟩
      ·rintro⟨s,h1,h2,h3⟩;exact⟨s,dm.mpr ⟨h1,qH h2⟩,h3⟩
     have h0:0<2#6/0#7:=by have:=RW.Ab g2 (mb-1);lia
     rw[hNL]at hs0 mY;have bY:∀z∈Y,Gb (2#6/0#7) (2^(1#2/0#7)) z:=(wk.next g2 g9 okb5.tb h0 hs0 rfl mY).bel;obtain⟨kl,k1,k2,k3⟩:=X6 vq
     have bl:(X5 (2#6/0#7) (2^(1#2/0#7))).length<=4608:=by rw[Pe];exact dO (ik h9b (Ev h9)) 0#1
     have kb:∀p∈kl,p.1∈X5 (2#6/0#7) (2^(1#2/0#7)):=λp hp=>by obtain⟨_,y,hy,e⟩:=k2 p hp;rw[e];exact Vn (bY y hy)
     refine⟨D6,kl,X5 (2#6/0#7) (2^(1#2/0#7)),rfl,by rw[<-k1];exact Ad.of hDB,λp hp=>⟨(k2 p hp).1,by obtain⟨_,y,_,e⟩:=k2 p hp;rw[e];exact List.cons_ne_nil _ _⟩,by lia,kb,λD7 bs hD7 b1' b2' b3'=>hN2 _ _ ?_⟩;clear hN2 N2;have eN:=AF.new hD7 (.lst (bs.map λp=>V.ref p.2));have hC7:AU HB D7 (.lst (bs.map λp=>V.ref p.2)) D7=some (.lst ((bs.map (·.2)).map 6#4)):=by rw[AD,fI];rfl
     have eHB:=(e9.trans eA).trans eB;have DS:D7≠S:=λz=>by rw[z,eHB _ _ hSX]at hD7;cases hD7
     generalize AU HB D7 (.lst (bs.map λp=>V.ref p.2))=HC at eN hC7⊢;have eC:=eHB.trans eN;have hSC:=eC _ _ hSX
     have bn:bs.length<=4608:=by
      have y:=b3'.length_le_of_subset (l₂:=X5 (2#6/0#7) (2^(1#2/0#7))) λk hk=>by obtain⟨p,hp,rfl⟩:=c6.mp hk;exact kb p (b1' p hp)
      rw[cO]at y;lia
     refine⟨_,rfl,.inl ⟨rfl,_,Ad.of hSC⟩,_,rfl,S,_,_,rfl,rfl,hSC,by rw[cO,sizeLine_eq];lia,n,fR n,D7,bs.map (·.2),bs.map (λp=>UL p.1),ws++[(s0.1:Int)],_,_,rfl,(eX.trans eC).into hS,by rw[AD,cX];rfl,Ad.of (by rw[AI DS];exact hC7),B9.upd hSC (G7 λp hp=>?_),by rw[cO];exact bn,wk.next g2 g9 okb5.tb h0 hs0 rfl (λz=>(RE (λp hp=>(k2 p hp).2) k3 b1' b2' z).trans (mY z)),by rw[cR,cm];lia⟩;obtain⟨y1,y,_,y2⟩:=k2 p (b1' p hp);rw[y2]at y1⊢;exact Ai.same' eN y1
   rintro _ hGo σ HX ⟨c,ws,L,x9,x10,rfl,eX,hSX,wk,lw⟩;ac_rfl;ac_nf;obtain⟨x,hx,xM,x0⟩:=wk.one;obtain⟨y,hy,gy⟩:=wk.go x hx;obtain⟨z1,z2⟩:=OJ g2 okb5.tb hy gy (qO (dm.mp (fw.zero x xM x0)).2);exact hq2 S ws HX (s5.trans eX.t) (tb5.same eX) (s5.free tb5 S5) hSX wk.sg lw z1 z2
theorem GA:AJ ["one","row","signs","table","short","number","told","at","sign"] ["one","row"] (AH Yf):=CK
theorem Z5(T:CI K mg t):B3 P w K mg base 3 t.f_60 ["one","row"] (SR K):=by
 refine Ap T.d_60.2 GA λvs H Q E h=>?_;obtain⟨r,a,g,lo,j3,m,ns,rfl,g2,g9,hR,hl,m1,hS,hb,hn,q⟩:=h;symm
 refine⟨_,(AB (AK 2 GA (AR 4#9 4#2 AG (λ_ _=>rfl)))
  (AB (AK 3 GA (AR 4#9 4#2 AG (λ_ _=>rfl)))
  (AB (AK 4 GA (AL (EY CU) (AM hr (JJ T) T.d_54.1 7#6) AG))
  (AB (AK 5 GA AG)
  (AB (AK 6 GA 14#4)
  (AB (BK PassesOwn.never rfl (Kb rfl T.z_enumerate 7#5) (Hs rfl (CA (BY 7 GA) (CA (BY 8 GA) Fe))) (AB (AK 5 GA (AL (Jd BF) (AL 20#3 (AL (Jd B7) (Ac 5) 8#3) (Ac 8)) (AV (OL K) rfl T.z_len dC (AA 16#2 AC))))
  (AE (Ay (Av (EY RZ) (Ac 7) (Ac 4) (AO _)) (AE (Ao (Mp K (Ac 6) (AA (AR 4#9 16#2 (Ac 5) (λ_ _=>rfl)) AC)))) Ae))))
  (AE (AN (Ac 6))))))))),?_⟩
 refine A6.el hR λtb h1 h2=>?_;ac_nf;refine (Ci 8#7 rfl ?_);ac_nf;refine (Ci 8#7 rfl ?_);ac_nf;refine⟨r,g,lo,j3,m,rfl,g2,g9,hR,hl,?_⟩;ac_nf;refine⟨di _,λp hp=>?_⟩;have gp:=RW.Ab g2 m;refine⟨a,_,rfl,(AF.new hp _).seq hS,?_⟩;refine IG (xs:=ns.map 2#1) (λi σ H1=>(∃x7 x8,σ=[some 5#4,some 2#0,some 5#7,some (.ref tb),some (.int ((m:Int)-1)),some (.int (Aw g (ns.take i)%g^m)),some 1#9,x7,x8])/\AF H H1/\H1 p=some (.lst (((List.range (i+1-m)).map (HK g j3 m ns)).map 2#1))) ⟨⟨none,none,by rw[List.take_zero];rfl⟩,AF.new hp _,by rw[AD,show 0+1-m=0 by lia];rfl⟩ (λi σ H1 _ z=>z.2.1.seq hS) ?_ ?_
 ·intro i x p2;refine RM ?_;rintro _ hGo σ H1 hx ⟨⟨x7,x8,rfl⟩,e,hp1⟩;refine hGo _ _ λhp2=>?_;clear hGo;obtain⟨n,hn1,rfl⟩:=Bz hx;have hi:i<1#4:=(cP.mp hn1).1;have e2:AF H (AU H1 p2 (.tup [.int ((i:Nat):Int),.int n])):=e.trans (AF.new hp2 _);have hp3:=AF.new hp2 (.tup [.int ((i:Nat):Int),.int n]) _ _ hp1;refine⟨p2,_,rfl,Ai.of AD,rfl,_,_,rfl,_,_,rfl,rfl,?_⟩;ac_nf;have htl:((j3.map 2#1).length:Int)=g^m:=by rw[cO,hl]
  have hst:(Aw g (ns.take i)%g^m*g+n)%g^m=Aw g (ns.take (i+1))%g^m:=by rw[SO,Fk hn1]
  refine⟨.inr ⟨by lia,by lia⟩,_,.inr (Ai.of (e2 _ _ h2)),by lia,?_⟩;rw[htl,hst]
  by_cases hge:(m:Int)-1<=(i:Int)
  ·rw[qF hge];have hw:=U0 g2 hb (k:=i+1-m) (m:=m) 0#0;rw[show i+1-m+m=i+1 by lia]at hw;have wi:=SQ g2 hb hl (k:=i+1-m) 0#0;rw[hw];refine⟨⟨_,Ad.of hp3⟩,Ci (Ai.of (e2 _ _ h2)) (Da wi.1 wi.2) ⟨_,hp3,?_,rfl,⟨_,rfl⟩,e2.into hp,?_⟩⟩
   ·rw[cO,cO,cw];exact AX 0#0
   ·rw[AD,show i+1+1-m=(i+1-m)+1 by lia,Ak,cX];rfl
  ·rw[qE hge];refine⟨rfl,⟨_,rfl⟩,e2,?_⟩;rw[hp3,show i+1-m=0 by lia,show i+1+1-m=0 by lia]
 ·refine EO ?_;rintro _ hGo σ H1 ⟨⟨x7,x8,rfl⟩,e,hp1⟩;ac_rfl;clear hGo;ac_nf;rw[cO]at hp1;exact q p H1 ⟨e,hp,hp1⟩
theorem Z6:AJ ["one","row"] ["one","row"] (AH Yg):=CK
theorem Z7(T:CI K mg t):B3 P w K mg base 4 t.f_64 ["one","row"] (UO K):=by
 refine Ap T.d_64.2 Z6 λvs H Q E h=>?_;obtain⟨r,a,g,lo,j3,m,ns,rfl,g2,g9,hR,hl,m1,hS,hb,hn,q⟩:=h;symm
 refine⟨_,(AB (Ao (AM hr (Po T) T.d_26.1 (AA 4#7 (AA (AR 4#9 4#2 AG (λ_ _=>rfl)) AC))))
  (AE (AN (AM hr (Z5 T) T.d_60.1 27#5)))),?_⟩
 refine A6.el hR λtb h1 h2=>?_;ac_nf;refine (Ci 8#7 rfl ⟨a,_,g,rfl,hS,HU,?_⟩);rw[FR hb];intro H1 e;exact⟨r,a,g,lo,j3,m,ns,rfl,g2,g9,hR.same e,hl,m1,e.seq hS,hb,hn,λp H' hN=>q p H' ⟨e.trans hN.1,e.free hN.2.1,hN.2.2⟩⟩
theorem Z8:AJ ["one","fitting","ways"] ["one","fitting","ways"] (AH Yh):=CK
theorem Z9(T:CI K mg t):B3 P w K mg base 2 t.f_55 ["one","fitting","ways"] (Lj):=by
 refine Ap T.d_55.2 Z8 λvs H Q E h=>?_;obtain⟨r,f,w',g,lo,j3,m,fs,ws,rfl,ok,hf,fl,hw,wl,q⟩:=h;symm;refine⟨_,(AE (AN (Ct [(2,"ways"),(0,"one")] [("ways",_),("one",_)] (JF K 4#7) (λ_ _ _ _=>Bm) (λ_ _ _ _=>(AR (Dj (K:=K) rfl) 4#7 (AL (Jd BF) 4#2 (AM hr (F9 T) T.d_58.1 17#0)) (λ_ _=>rfl)))))),?_⟩;refine A6.el ok.v λtb h1 h2=>?_;have g2:=ok.g2;have g9:=ok.g9;have m1:=ok.m1;have m8:=ok.m8;have hl:=ok.len;have sz:=ok.sz;have hlm:(j3.map 2#1).length=0#9:=cO ..;have hd:=Bb g2 hl m1;have hp:=RW.Ab g2 (m-1);have hp2:0<0#9/0#7:=by lia
 ac_nf;refine⟨f,rfl,⟨_,Ad.of hf⟩,λD hD=>?_⟩;refine Bj (xs:=(FV fs).map 2#1) (λi j6 Hx=>j6=((fs.take i).map λn=>ws.getD (n%(0#9/0#7)) 0).map 2#1/\Hx=AU H D 4#8) ⟨rfl,rfl⟩ (λi j6 Hx _ z=>by rw[z.2];exact Ad.of (AF.new hD _ _ _ hf)) ?_ ?_
 ·refine DE ?_;rintro i x _ hGo j6 Hx hx ⟨rfl,rfl⟩;ac_rfl;obtain⟨v,hv,rfl⟩:=Bz hx
  obtain⟨n,hn,rfl⟩:∃n:Nat,fs[i]?=some n/\v=(n:Int):=by
   unfold FV at hv;rw[cT]at hv;cases z:fs[i]? with
   |none=>rw[z]at hv;cases hv
   |some n=>rw[z]at hv;exact⟨n,rfl,(Option.some.inj hv).symm⟩
  have en:=AF.new hD (.lst (((fs.take i).map λn=>ws.getD (n%(0#9/0#7)) 0).map 2#1));have md:(n:Int)%((0#9/0#7:Nat):Int)=((n%(0#9/0#7):Nat):Int):=(fS ..).symm;have lt:=eW n hp2;ac_nf;refine⟨r,g,lo,j3,m,rfl,ok.same en,by lia,?_⟩;rw[md];refine (Jc (Ad.of (en _ _ hw)) (DB 0#0) ⟨AD,?_,?_,by rw[Fb]⟩)
  ·rw[cO,cO,dI];exact AX 0#0
  ·rw[ic,hn];simp
 refine EO ?_;rintro _ hGo j6 Hx ⟨rfl,rfl⟩;ac_rfl;clear hGo;have lf:((FV fs).map 2#1).length=fs.length:=by unfold FV;rw[3#0,3#0]
 rw[lf,eG];exact q D _ ⟨AF.new hD _,hD,AD⟩
theorem Pz:AJ ["one","row","ways","sign","ends"] ["one","row"] (AH Yi):=CK
theorem aB(T:CI K mg t):B3 P w K mg base 3 t.f_46 ["one","row"] (Pj K):=by
 refine Ap T.d_46.2 Pz λvs H Q E h=>?_;obtain⟨r,a,g,lo,j3,m,ns,rfl,ok,hS,hn,q⟩:=h;symm
 refine⟨_,(AB (AK 2 Pz (BM (AA (AL KW (BM 23#1) (AM hr (F9 T) T.d_58.1 7#6)) AC)))
  (AB (BK PassesOwn.never rfl (XS rfl T.z_reversed 7#5) (BY 3 Pz) (AB (AK 4 Pz (AR 26#3 8#3 (LB Hu AG) (λ_ _=>rfl)))
  (AE (Ao (Mp K 8#3 (AA (Ct [(3,"sign"),(0,"one"),(4,"ends")] [("sign",_),("one",_),("ends",_)] (Az rfl T.z_range (AA (AM hr (F9 T) T.d_58.1 7#6) AC)) (λ_ _ _ _=>Bm) (λ_ _ _ _=>(AV (Nd (K:=K) rfl rfl) rfl T.z_sum iu (AA (AM hr (Z9 T) T.d_55.1 (AA 8#3 (AA (AM hr (Wp T) T.d_34.1 (AA 8#3 27#5)) (AA 16#2 AC)))) AC)))) AC))))))
  (AE (AN (OY rfl rfl T.z_reversed rfl T.z_list 17#0))))),?_⟩
 refine A6.el ok.v λtb h1 h2=>?_;have g2:=ok.g2;have g9:=ok.g9;have m1:=ok.m1;have m8:=ok.m8;have hl:=ok.len;have sz:=ok.sz;have hlm:(j3.map 2#1).length=0#9:=cO ..;have hd:=Bb g2 hl m1;have hp:=RW.Ab g2 (m-1);have hm1:=BL g2 (show m-1<=m by lia);ac_nf;refine⟨by decide,λp1 hp1=>?_⟩;have f1:=AF.new hp1 (.lst [V.int 1]);refine⟨r,g,lo,j3,m,rfl,ok.same f1,?_⟩;refine Kg AD 0#0 0#0 λp2 H2 f2 n2 h2'=>⟨by decide,λpw hpw=>?_⟩
 rw[cj]at h2';have f3:=AF.new hpw (.lst [.ref p2])
 have c0:H2 p2=some (.lst ((GR g.toNat j3 []).map 2#1)):=by
  rw[h2']
  congr 2
  unfold GR;rw[fI]
  refine Eq.symm ?_
  rw[gd];refine⟨by rw[cO,cw],λb hb=>?_⟩;obtain⟨x,_,e⟩:=c6.mp hb;rw[<-e];rfl
 have sA:AF H (AU H2 pw (.lst [.ref p2])):=(f1.trans f2).trans f3;have npw:H pw=none:=(f1.trans f2).free hpw;refine⟨a,_,rfl,sA.seq hS,?_⟩;refine Uu (xs:=ns.map 2#1) (λi σ H3=>∃(ps:List qS) (x3 x4:Option V),σ=[some 5#4,some 2#0,some (.ref pw),x3,x4]/\AF H H3/\H3 pw=some 9#1/\5#5=i+1/\∀(j:Nat) (q':qS),ps[j]?=some q'->H3 q'=some (.lst ((GR g.toNat j3 (ns.drop (1#4-j))).map 2#1))) ⟨[p2],none,none,rfl,sA,AD,rfl,λj q' hq=>?_⟩ (λi σ H3 _ z=>by obtain⟨_,_,_,_,e,_⟩:=z;exact e.seq hS) ?_ ?_
 ·have hj:j=0:=by
   have:=(cP.mp hq).1;simpa using this
  subst hj;have:q'=p2:=by simpa using hq.symm
  subst this;rw[io,jB];exact f3 _ _ c0
 ·intro i x;refine RM ?_;rintro _ hGo σ H3 hx ⟨ps,x3,x4,rfl,e3,hpw3,pl,hps⟩;ac_rfl;clear hGo;rw[<-List.map_reverse]at hx;obtain⟨sg,hsg,rfl⟩:=Bz hx;ac_nf;have il:i<1#4:=by have:=(cP.mp hsg).1;rw[fy]at this;exact this
  have dr:ns.drop (1#4-(i+1))=sg::ns.drop (1#4-i):=by rw[im il]at hsg;obtain⟨hlt,hget⟩:=cP.mp hsg;rw[show 1#4-(i+1)=1#4-1-i by lia,fK hlt,hget,show 1#4-1-i+1=1#4-i by lia]
  obtain⟨q0,hq0⟩:∃q0,ps[i]?=some q0:=⟨ps[i],cc 0#0⟩;have hv0:=hps i q0 hq0
  have la:LG 3#1 (-1)=some (V.ref q0):=by
   have z:LF (ps.map 6#4).length (-1)=some i:=by
    unfold LF;rw[cO,qE 0#1,qF 0#0]
    congr 1
    lia
   unfold LG;rw[z];show (ps.map 6#4)[i]?=_;rw[cT,hq0];rfl
  refine (Jc (Ad.of hpw3) la ⟨⟨_,Ad.of hpw3⟩,?_⟩);refine⟨r,g,lo,j3,m,rfl,ok.same e3,_,rfl,by lia,by lia,λD hD=>?_⟩;rw[cj]
  have hne:D≠pw:=λz=>by rw[z,hpw3]at hD;cases hD
  refine Bf (n:=0#9/0#7) (λk j6 Hx=>j6=((List.range k).map (E4 g.toNat j3 (sg::ns.drop (1#4-i)))).map 2#1/\AF H3 Hx/\Hx D=some 4#8) ⟨rfl,AF.new hD _,AD⟩ ?_ ?_
  ·refine Dc ?_;rintro k _ hGo j6 Hx hk ⟨rfl,ex,hDx⟩;ac_rfl;ac_nf;refine⟨r,g,lo,j3,m,k,sg,by rw[dh],ok.same (e3.trans ex),hk,λp5 H5 hN5=>?_⟩;have fl:(Co g.toNat j3 k sg).length<=9:=by unfold Co;rw[cO];have:=fN (λj=>decide (j3.getD (k*0#7+j) 0=sg)) (List.range 0#7);rw[cw]at this;lia
   refine⟨r,p5,q0,g,lo,j3,m,Co g.toNat j3 k sg,GR g.toNat j3 (ns.drop (1#4-i)),rfl,ok.same ((e3.trans ex).trans hN5.1),hN5.2.2,by lia,hN5.1 _ _ (ex _ _ hv0),Sc ..,λp6 H6 hN6=>?_⟩
   have sumE:((Co g.toNat j3 k sg).map λn=>(GR g.toNat j3 (ns.drop (1#4-i))).getD (n%(0#9/0#7)) 0).sum=E4 g.toNat j3 (sg::ns.drop (1#4-i)) k:=by
    rw[<-Li]
    congr 1
    refine dc λn _=>Se (eW _ 0#0)
   refine⟨p6,rfl,_,Ad.of hN6.2.2,hN6.1 _ _ (hN5.1 _ _ hDx),?_,?_,((ex.trans hN5.1).trans hN6.1).into hD,AD⟩
   ·rw[cO,cO,cw];exact AX 0#0
   ·rw[sumE,Ak,cX];rfl
  ·refine EO ?_;rintro _ hGo j6 Hx ⟨rfl,ex,hDx⟩;ac_rfl;clear hGo;refine⟨_,ex _ _ hpw3,?_,(e3.trans ex).into npw,ps++[D],?_,?_,λj q' hq=>?_⟩
   ·rw[cO,sizeLine_eq];lia
   ·rw[AD,cX];rfl
   ·rw[cR,pl];rfl
   ·by_cases hj:j<ps.length
    ·rw[dG hj]at hq;have hh:=hps j q' hq
     have:q'≠pw:=λz=>by
      rw[z,hpw3]at hh;have z2:=HO.lst.inj (Option.some.inj hh);have e1:(ps.map 6#4)[i]?=some (V.ref q0):=by rw[cT,hq0];rfl
      rw[z2,cT]at e1;cases hz:(GR g.toNat j3 (ns.drop (ns.length-j)))[i]? with
      |none=>rw[hz]at e1;cases e1
      |some c=>rw[hz]at e1;cases e1
     rw[AI this];exact ex _ _ hh
    ·have hj2:=(cP.mp hq).1;rw[cR]at hj2;have hj3:j=i+1:=by simp only[List.length_cons,List.length_nil]at hj2;lia
     subst hj3;rw[cq 0#0,pl,d4]at hq;have:q'=D:=(Option.some.inj hq).symm;subst this;rw[AI hne,hDx,dr];rfl
 ·refine EO ?_;rintro _ hGo σ H3 ⟨ps,x3,x4,rfl,e3,hpw3,pl,hps⟩;ac_rfl;clear hGo;ac_nf;refine⟨_,Ad.of hpw3,λp9 hp9=>?_⟩;have f9:=AF.new hp9 (.lst (ps.map 6#4).reverse);rw[cO]at pl;refine q p9 _ (e3.trans f9) (e3.free hp9) ⟨ps.reverse,by rw[AD,List.map_reverse],by rw[fy,pl],λk q' hq=>?_⟩;have kl:=(cP.mp hq).1;rw[fy]at kl;rw[im kl]at hq;have hh:=hps _ q' hq;rw[show 1#4-(5#5-1-k)=k by lia]at hh;exact f9 _ _ hh
theorem aC:AJ ["one","row"] ["one","row"] (AH Yj):=CK
theorem aD(T:CI K mg t):B3 P w K mg base 4 t.f_17 ["one","row"] (Pk K):=by
 refine Ap T.d_17.2 aC λvs H Q E h=>?_;obtain⟨r,a,g,lo,j3,m,ns,rfl,ok,hS,hns,hn,h⟩:=h;symm
 refine⟨_,(AB (Ao (AM hr (Po T) T.d_26.1 (AA 4#7 (AA (AR 4#9 4#2 AG (λ_ _=>rfl)) AC))))
  (AE (AN (AV (Ef rfl) rfl T.z_sum iu (AA (AR 26#3 (AM hr (aB T) T.d_46.1 27#5) AG (λ_ _=>rfl)) AC))))),?_⟩
 refine A6.el ok.v λtb h1 h2=>?_;ac_nf;refine (Ci 8#7 rfl ⟨a,_,g,rfl,hS,?_,?_⟩)
 ·intro x hx;obtain⟨n,_,rfl⟩:=c6.mp hx
  trivial
 rw[FR hns];intro H1 e1;refine⟨r,a,g,lo,j3,m,ns,rfl,ok.same e1,e1.seq hS,hn,λp H2 e2 hp hW=>?_⟩;obtain⟨ps,hp2,pl,hps⟩:=hW;obtain⟨q0,hq0⟩:∃q0,ps[0]?=some q0:=⟨ps[0],cc 0#0⟩;have hv:=hps 0 q0 hq0;rw[16#5]at hv;refine (Jc (v:=.ref q0) (Ad.of hp2) ?_ ⟨q0,rfl,GR g.toNat j3 ns,Ad.of hv,?_⟩)
 ·exact Dz (by rw[cT,hq0];rfl)
 ·rw[Sd];exact h H2 23#7
theorem JK:AJ ["first","second","ahead","behind","signs","many","table","number"] ["first","second"] (AH Yk):=CK
theorem Wz(T:CI K mg t):B3 P w K mg base 8 t.f_52 ["first","second"] (Pl t.c_40):=by
 refine Gv T.d_52.2 JK λvs H Q E h=>?_;obtain⟨r,r',g,lo,j3,m,lo',tab',m',low,M,low',M',rfl,ok,ok',hW,hW',kw,h⟩:=h;symm
 refine⟨_,(AB (Ay (Af LC (AR 4#9 2#4 AG (λ_ _=>rfl)) (AR 4#9 3#3 AG (λ_ _=>rfl)) (AO _)) 23#0 Ae)
  (AB (AK 2 JK (AM hr (Ps T) T.d_53.1 3#8))
  (AB (AK 3 JK (AM hr (Ps T) T.d_53.1 5#3))
  (AB (AK 4 JK (AR 4#9 2#4 AG (λ_ _=>rfl)))
  (AB (AK 5 JK (AL CU (AL BE (AM hr (JJ T) T.d_54.1 7#7) (AM hr (JJ T) T.d_54.1 17#1)) AG))
  (AB (Ay (Af Ck (AM hr (Pr T) T.d_12.1 (AA 8#9 18#3)) 12#0 (AO _)) (AE (LL rfl T.x_40 rfl T.m_40 Gj (AA RP AC))) Ae)
  (AB (AK 6 JK 14#4)
  (AB (PS.nox (BK PassesOwn.never rfl (Az rfl T.z_range (AA (AM hr (Pr T) T.d_12.1 (AA 8#9 18#3)) AC)) (BY 7 JK) (AE (Ao (X8 K 19#7 (AA (AM hr (Wn T) T.d_32.1 (AA 7#9 (AA (AM hr (Z7 T) T.d_64.1 (AA 3#7 (AA (AM hr (Wj T) T.d_48.1 (AA 20#0 (AA 8#9 18#3))) AC))) AC))) AC))))))
  (AE (AN (AM hr (Ps T) T.d_53.1 (AA (AM hr (Wm T) T.d_62.1 (AA 8#9 (AA (AL BE (AR 4#9 3#7 AG (λ_ _=>rfl)) (AR 4#9 7#9 AG (λ_ _=>rfl))) (AA 19#7 AC)))) AC)))))))))))),?_⟩
 refine A6.el ok.v λtb h1 h2=>?_;refine A6.el ok'.v λtb' h1' h2'=>?_;have g2:=ok.g2;have g9:=ok.g9;nofun;refine (Ci 8#7 rfl (Ci (Ai.of h1') rfl ⟨rfl,?_⟩));rw[qE (λy=>y rfl)];refine hN _ _ ?_;clear hN N;nofun;refine⟨r,g,lo,j3,m,rfl,ok,λlowx Mx hWx r1 H1 e1 ok1=>hN _ _ ?_⟩;clear hN N;obtain⟨rfl,rfl⟩:=hW.uniq hWx;nofun;refine⟨r',g,lo',tab',m',rfl,ok'.same e1,λlowx Mx hWx r2 H2 e2 ok2=>hN _ _ ?_⟩;clear hN N;obtain⟨rfl,rfl⟩:=hW'.uniq hWx;have e12:=e1.trans e2;have ok1:=ok1.same e2;nofun;refine (Ci (Ai.of (e12 _ _ h1)) rfl (hN _ _ ?_));clear hN N;nofun;refine⟨r1,g,_,_,M,rfl,g2,g9,ok1.v,ok1.len,r2,g,_,_,M',rfl,g2,g9,ok2.v,ok2.len,?_⟩;refine⟨_,rfl,_,rfl,hN _ _ ?_⟩;clear hN N;have M1:=hW.one;have M1':=hW'.one;obtain⟨Mx,hMx⟩:∃Mx:Nat,Mx=M+M'-1:=⟨_,rfl⟩;rw[<-hMx]at h kw;rw[show (M:Int)+(M':Int)-1=((Mx:Nat):Int) by lia];have gp:=RW.Ab g2 Mx;refine B2 (λσ HX=>g^Mx<=256/\σ=[some 5#4,some 19#4,some (.ref r1),some (.ref r2),some 5#7,some (.int ((Mx:Nat):Int)),none,none]/\HX=H2) (λN hN=>?_) ?_
 ·ac_nf;refine⟨g,_,rfl,g2,g9,by lia,λhle=>⟨_,rfl,?_⟩,λhgt rr hrr=>⟨_,rfl,?_⟩⟩
  ·rw[qE 0#0];rw[cj]at hle;exact hN _ _ ⟨hle,rfl,rfl⟩
  ·rw[qF hrr];rw[cj]at hgt;exact⟨by decide,kw hgt _ e12⟩
 rintro _ hGo σ HX ⟨hle,rfl,rfl⟩;ac_rfl;have h:=h hle
 have Mx8:Mx<=8:=by
  by_cases z:Mx<=8
  ·exact z
  ·exfalso;have a:=BL g2 (show 9<=Mx by lia)
   have b:512<=g^9:=by
    obtain z|z|z|z|z|z|z|z:g=2\/g=3\/g=4\/g=5\/g=6\/g=7\/g=8\/g=9:=by have:=ok.g9;lia
    all_goals rw[z];decide
   lia
 nofun;refine⟨di _,λp hp=>hN _ _ ?_⟩;clear hN N;have eN:=AF.new hp (.lst []);obtain⟨T1,hT1⟩:∃T1,T1=Cn g lo j3 m low M:=⟨_,rfl⟩;obtain⟨T2,hT2⟩:∃T2,T2=Cn g lo' tab' m' low' M':=⟨_,rfl⟩;rw[<-hT1,<-hT2]at h;rw[<-hT1]at ok1;rw[<-hT2]at ok2;refine B2 (λσ HY=>(∃x7,σ=[some 5#4,some 19#4,some (.ref r1),some (.ref r2),some 5#7,some (.int ((Mx:Nat):Int)),some 1#9,x7])/\AF HX HY/\HY p=some (.lst ((B1 g T1 M T2 Mx).map 2#1))) (λN hN=>?_) ?_
 ·refine⟨_,rfl,_,rfl,g,_,rfl,g2,g9,by lia,λ_=>⟨_,rfl,?_,?_,?_⟩,λhgt=>?_⟩
  ·rw[cj];lia
  ·rw[cj];lia
  ·rw[cj];refine Bt (n:=(g^Mx).toNat) (λi σ HY=>(∃x7,σ=[some 5#4,some 19#4,some (.ref r1),some (.ref r2),some 5#7,some (.int ((Mx:Nat):Int)),some 1#9,x7])/\AF HX HY/\HY p=some (.lst (((List.range i).map λn:Nat=>T2.getD (Aw g (A7 g T1 M (BN g (n:Int) Mx))).toNat 0).map 2#1))) ⟨⟨none,rfl⟩,eN,AD⟩ ?_ λσ HY z=>hN _ _ z
   refine F8 ?_;rintro _ _ i _ hGo σ HY hi ⟨⟨x7,rfl⟩,eY,hpY⟩;ac_rfl;have wlen:=CJ g (i:Int) Mx;have wlt:=CV g2 (i:Int) Mx;have ll:=A8 g T1 M (BN g (i:Int) Mx);have llt:=Ha g2 ok1.tb M (BN g (i:Int) Mx);ac_nf;rw[dh];refine⟨.inl ⟨_,Ad.of hpY⟩,(i:Int),g,_,rfl,g2,g9,by lia,by lia,λhb=>?_,λ_ _ pw H3 n3=>?_⟩
   ·rw[cj]at hb;lia
   rw[cj]at n3;have e3:=eY.trans n3.1;refine⟨r1,pw,g,low,T1,M,BN g (i:Int) Mx,rfl,g2,g9,ok1.v.same e3,ok1.len,M1,Ad.of n3.2.2,wlt,by rw[wlen];lia,λp4 H4 n4=>?_⟩;have e4:=e3.trans n4.1;refine⟨r2,p4,g,low',T2,M',_,rfl,g2,g9,ok2.v.same e4,ok2.len,Ad.of n4.2.2,HU,?_⟩;have bl:=Go llt;rw[ll,wlen,show Mx+1-M=M' by lia]at bl;rw[bl];intro ms hms H5 e5;have:=II hms;subst this;have e5':=(n3.1.trans n4.1).trans e5;refine⟨_,e5' _ _ hpY,?_,⟨_,rfl⟩,(eY.trans e5').into hp,?_⟩
   ·rw[cO,cO,cw];exact AX 0#0
   ·rw[AD,Ak,cX];rfl
  ·rw[cj]at hgt;lia
 rintro _ hGo σ HY ⟨⟨x7,rfl⟩,eY,hpY⟩;ac_rfl;refine A6.el (ok1.v.same eY) λtb1 k1 k1'=>?_;refine A6.el (ok2.v.same eY) λtb2 k2 k2'=>?_;ac_nf;have jl:=B4 g2 T1 M T2 Mx;have jb:=Lr g2 T1 M ok2.tb Mx;refine (Ci (Ai.of k1) rfl (Ci (Ai.of k2) rfl ⟨_,rfl,_,rfl,JE (E:=E0) g2 g9 0#0 jl hle jb (.inl hpY) λr3 H3 e3 hv=>?_⟩));exact⟨r3,g,_,_,Mx,rfl,⟨hv,g2,g9,by lia,Mx8,jl,hle,jb⟩,λlj Mj hj rj H4 e4 okj=>h lj Mj hj rj H4 (((e12.trans eY).trans e3).trans e4) okj⟩
theorem P0:AJ ["starts","nexts_of","nexts","waiting","here"] ["starts","nexts_of"] (AH bV):=CK
theorem aE(T:CI K mg t) :B3 P w K mg base 3 t.f_43 ["starts","nexts_of"] (J1 P w K mg base 2):=by
 refine Ap T.d_43.2 P0 λvs H Q E h=>?_;obtain⟨a,f,S,N,F,rfl,hS,sl,n5,lS,lF,⟨fd,ps,sp,oc,od,fd',sl',fok,fb,hf,hsp⟩,q⟩:=h;symm
 refine⟨_,(AB (AK 2 P0 IZ)
  (AB (AK 3 P0 (Bu Cy rfl T.z_list gC 3#8))
  (AB (Bs PassesOwn.never (Af Ck (AV 15#4 rfl T.z_len dC 17#1) AG (AO _)) (AB (AK 4 P0 15#3)
  (AE (Ay (Hq (Js 13#9 8#9 3#7)) (AB (Ou 13#9 3#7 8#9 (MF (k:=2) 1 5#1 (AA 8#9 AC)) rfl)
  (AE (Ao (Gh eP fh fk Dh 7#9 (AA (Km 13#9 3#7 8#9 (λ_ _=>rfl)) AC))))) Ae))))
  (AE (AN 3#7))))),?_⟩
 refine Ah λN1 hN=>?_;intro d hd;refine hN _ _ ?_;clear hN N1;have e0:=AF.new hd (.dK []);refine Ah λN1 hN=>?_;ac_nf;refine⟨_,.inl (e0.seq hS),λp hp=>hN _ _ ?_⟩;clear hN N1;have pd:d≠p:=λz=>by rw[<-z,AD]at hp;cases hp
 have dw:FJ S F=FJ S F:=rfl;have low:∀{A W:qX},FF S F A W->(∀a∈A,0<=a/\a<(N:Int))/\(∀a∈W,0<=a/\a<(N:Int)):=λr=>⟨λa ha=>(r.co a (.inl ha)).low lS λx h0=>(lF x h0.1 h0.2).2,λa ha=>(r.co a (.inr ha)).low lS λx h0=>(lF x h0.1 h0.2).2⟩
 refine B2 (λσ HX=>∃x4,σ=[some 2#0,some 6#1,some 2#3,some 1#9,x4]/\∃A,bK H HX d p S F A []) (λN1 hN=>?_) ?_
 ·refine⟨λm σ HX=>(∃x4,σ=[some 2#0,some 6#1,some 2#3,some 1#9,x4])/\∃A W,bK H HX d p S F A W/\m=(512-4#0)*10+W.length/\m<=5220,⟨_,⟨none,rfl⟩,[],S,⟨[],(e0.trans (AF.new hp _)),λl hl=>qG hl cn,?_,Eu.nil,AD,cn,FF.start⟩,rfl,by rw[gf];lia⟩,?_⟩
  ·rw[AI pd];exact AD
  intro m;refine EO ?_;rintro _ hGo σ HX ⟨⟨x4,rfl⟩,A,W,⟨ls,eX,ln,hdX,gX,hpX,np,rc⟩,rfl,m5⟩;ac_rfl;clear hGo;obtain⟨lA,lW⟩:=low rc;have cA:=Ga rc.nd lA;refine⟨_,rfl,p,_,rfl,.inl 10#0,_,_,rfl,rfl,_,rfl,?_⟩;rw[cO]
  by_cases z:W=[]
  ·subst z;rw[qE 0#1];exact hN _ _ ⟨_,rfl,A,ls,eX,ln,hdX,gX,hpX,np,rc⟩
  obtain⟨W',x,rfl⟩:=FX z;rw[qF (by rw[cR,cm];exact qH 0#0)];refine⟨λσ' H'=>∃m',m'<(512-4#0)*10+(W'++[x]).length/\((∃x4,σ'=[some 2#0,some 6#1,some 2#3,some 1#9,x4])/\∃A W,bK H H' d p S F A W/\m'=(512-4#0)*10+W.length/\m'<=5220),λ_ _ h=>h,?_⟩;obtain⟨x0,x1⟩:=lW x (cV.mpr 26#1);obtain⟨fx9,fxl⟩:=lF x x0 x1;refine Ah λN2 hN2=>?_;refine⟨_,rfl,.inl ⟨rfl,_,Ad.of hpX⟩,p,_,.int x,rfl,rfl,hpX,?_,?_⟩
  ·rw[cO,cR,cm,eU,cT,cq (cU _),d4];rfl
  rw[show ((W'++[x]).map 2#1).dropLast=W'.map 2#1 by rw[cX,dN,gU,List.dropLast_concat]];refine hN2 _ _ ?_;clear hN2 N2;have pn:H p=none:=e0.free hp;have dX2:AU HX p 20#6 d=some 15#7:=by rw[AI pd];exact hdX
  have eX2:AF H (AU HX p 20#6):=eX.into pn;have gX2:=gX.keep np 20#6;have pX2:AU HX p 20#6 p=some 20#6:=AD;generalize AU HX p 20#6=HY at dX2 eX2 gX2 pX2⊢;clear hdX eX gX hpX HX hp;have rl:(ls.map 6#4).length=4#0:=by rw[cO];exact gX2.n
  refine⟨_,rfl,_,rfl,d,_,rfl,FD.k (k:=Sum.inl x) dX2,_,rfl,?_⟩;rw[Fv rl rc.nd]
  by_cases m:x∈A
  ·rw[qH m];rw[cR,cm]at m5⊢;exact Rj ⟨_,by lia,⟨_,rfl⟩,A,W',⟨ls,eX2,ln,dX2,gX2,pX2,np,rc.old m⟩,rfl,by lia⟩
  rw[qI m];refine Uo ?_;refine Ah λN2 hN2=>?_;refine⟨f,fd,ps,sp,oc,od,fd',sl',rfl,fok,fb,eX2 _ _ hf,_,rfl,eX2 _ _ hf,hsp x x0 x1 HY _ eX2 λl HZ eZ hl hlZ=>?_⟩
  have cA2:4#0<512:=by have nd2:=rc.next m;have:=Ga nd2.nd (low nd2).1;rw[cR,cm]at this;lia
  refine⟨_,rfl,_,rfl,d,_,rfl,QV.k (k:=Sum.inl x) (eZ _ _ dX2) (by rw[Dr rl];exact AX 0#0),hN2 _ _ ?_⟩;clear hN2 N2;rw[Iv rl m];have nl:=gX2.new hl;have ld:l≠d:=λz=>by rw[z,dX2]at hl;cases hl
  have lp:l≠p:=λz=>by rw[z,pX2]at hl;cases hl
  have dn:d∉ls:=gX2.out λxs z=>by rw[dX2]at z;cases z
  have gQ:=(gX2.same eZ).keep dn (.dK (Ax (A++[x]) (ls.map 6#4++[V.ref l])));have lQ:AU HZ d (.dK (Ax (A++[x]) (ls.map 6#4++[V.ref l]))) l=some (.lst ((F x).map 2#1)):=by rw[AI ld];exact hlZ
  have pQ:AU HZ d (.dK (Ax (A++[x]) (ls.map 6#4++[V.ref l]))) p=some 20#6:=by rw[AI (Ne.symm pd)];exact eZ _ _ pX2
  have eQ:AF H (AU HZ d (.dK (Ax (A++[x]) (ls.map 6#4++[V.ref l])))):=(eX2.trans eZ).into hd;have dQ:AU HZ d (.dK (Ax (A++[x]) (ls.map 6#4++[V.ref l]))) d=some (.dK (Ax (A++[x]) ((ls++[l]).map 6#4))):=by rw[AD,cX];rfl
  generalize AU HZ d (.dK (Ax (A++[x]) (ls.map 6#4++[V.ref l])))=HQ at gQ lQ pQ eQ dQ⊢;have gQ2:=gQ.snoc nl lQ;have rl2:((ls++[l]).map 6#4).length=(A++[x]).length:=by rw[cO];exact gQ2.n
  refine⟨_,rfl,.inl ⟨rfl,_,Ad.of pQ⟩,_,rfl,_,rfl,d,_,rfl,?_,p,l,_,_,rfl,rfl,pQ,lQ,?_,?_⟩
  ·have:=FD.k (k:=Sum.inl x) dQ;rw[CL (rc.next m).nd (i:=4#0) (by rw[cq (cU _),d4];rfl) (v:=.ref l) (by rw[cT,cq (by rw[gQ.n];exact cU _),gQ.n,d4];rfl)]at this;exact this
  ·rw[cR,cm]at m5;rw[cO,cO,sizeLine_eq];lia
  ·rw[<-cX];rw[cR,cm]at m5⊢;have pl:p∉ls++[l]:=λz=>(cV.mp z).elim np λz=>lp (cQ.mp z).symm
   refine⟨_,?_,⟨_,rfl⟩,A++[x],W'++F x,⟨ls++[l],eQ.into pn,λy hy=>?_,?_,gQ2.keep pl _,AD,pl,rc.next m⟩,rfl,?_⟩
   ·rw[cR,cR,cm];lia
   ·rcases cV.mp hy with z|z
    ·exact ln y z
    ·rw[cQ.mp z];exact eX2.free hl
   ·rw[AI pd];exact dQ
   ·rw[cR,cR,cm];lia
 rintro _ hGo σ HX ⟨x4,rfl,A,ls,eX,ln,hdX,gX,hpX,np,rc⟩;ac_rfl;ac_nf;exact q d HX ls A eX hd ln hdX gX rc.done (low rc).1
theorem Yz:AJ ["one","framed","singles"] ["one"] (AH bW):=CK
theorem bv(T:CI K mg t)(hB:DQ mg base):B3 P w K mg base 11 t.f_9 ["one"] (O8 t.c_40 LP t.p_9):=by
 refine Wa T.d_9 Yz (λ_ _ _ _ _ _=>b1 λ_=>rfl) λvs H Q E h=>?_;obtain⟨r,g,lo,j3,m,lf,tf,mf,rfl,ok,fw,tb,hsm,hbig⟩:=h;refine⟨rfl,λA outer s hr=>?_⟩
 refine⟨_,(AB (AK 1 Yz (Ba (Pu T) 5#1 rfl T.d_57.1 BJ 3#8))
  (AB (AK 2 Yz (AM hr (UV T) T.d_11.1 5#3))
  (AE (AN (MG (cl:=[("singles",_),("framed",_)]) (is:=[2,1]) (aE T) 5#1 rfl T.d_43.1 (AA (BM (AA (Ba (Wu T) 5#1 rfl T.d_27.1 BJ 5#3) AC)) (AA (TQ (clos:=[("singles",_),("framed",_)]) hB rfl T.hd_9 0#2 rfl) AC)) (.cons ⟨rfl,rfl,by with_unfolding_all rfl,rfl⟩ (.cons ⟨rfl,rfl,by with_unfolding_all rfl,rfl⟩ .nil))))))),?_⟩
 have g2:=ok.g2;have g9:=ok.g9;obtain⟨hn,hl⟩:=Bl g2 ok.len fw;nofun;refine⟨r,g,lo,j3,m,lf,tf,mf,rfl,ok,fw,λs9 r1 H1 e1 ok1=>hN _ _ ?_,hbig⟩;clear hN N;have h9:1#2/0#7<=9:=by lia
 nofun;refine⟨r1,g,lf,tf,mf,rfl,ok1,h9,λp ps H2 e2 sl=>hN _ _ ?_⟩;clear hN N;have e12:=e1.trans e2;refine⟨[.ref p,.ref r1],.cons rfl 24#9,?_⟩;have fa:=Eo g2 ok.len fw;have hh:(g^(mf-1)).toNat=1#2/0#7:=by rw[<-hn,cj]
 refine⟨_,rfl,r1,g,lf,tf,mf,lf,tf,mf,rfl,ok1.same e2,fa,λ_ H3 e3=>⟨dz (AX (show 1<=1000 by decide)),λa ha=>?_⟩,λz=>by lia⟩;rw[hh];have e4:=AF.new ha (.lst [V.int (2^(1#2/0#7)-1)]);have a4:AU H3 a (.lst [V.int (2^(1#2/0#7)-1)]) a=some (.lst ([DT g tf].map 2#1)):=AD;have e24:=e3.trans e4;generalize AU H3 a (.lst [V.int (2^(1#2/0#7)-1)])=H4 at e4 a4 e24⊢;clear ha;have e14:=e12.trans e24;refine⟨tb.same e14,λf H5 s5 tb5 hf la=>?_⟩;obtain⟨pm,c',ctv,oc,l1,l2,l3⟩:=la;dsimp only[JQ];intro H6 e6 n6 ck6 o6;have ab:=s5.get (tb.same e14) a4 (λ_ z=>by cases z);have ok5:=(ok1.same (e2.trans e24)).sameT s5 (tb.same e14);have sl5:=(sl.same e24).sameT s5 (tb.same e14);have ok6:=ok5.same e6;have sl6:=sl5.same e6;have s56:∀{HA:Hp},AF H6 HA->AF H5 (Ft [("singles",0#6+1+1),("framed",0#6+1)] HA):=λeA=>L9 n6 (e6.trans eA)
 refine⟨a,f,[DT g tf],2^(1#2/0#7),BH g tf,rfl,Ad.of (e6 _ _ ab),(show 1<=100 by decide),Ev h9,λs hs=>by rw[cQ.mp hs];exact TW g tf,Nt g9 tf,Nu (k:=1) (x1:="some") (fns:=["singles","framed"]) (Gy.same ⟨pm,c',ctv,oc,l1,l2,l3⟩ e6) ck6 ⟨rfl,rfl,rfl,by decide,λx hx=>by rw[cQ.mp hx];exact .inr rfl,λx hx=>by rcases dA.mp hx with z|z;rw[z];rfl;rw[cQ.mp z];rfl,by decide +kernel,by decide +kernel⟩ rfl ?N (λ_ _ _=>b1 λ_=>rfl) λc2 A2 outer2 s2 HA x hr x0 x1 eA=>⟨_,(Ct [(0,"some"),(1,"singles")] [("some",_),("singles",_)] (Az rfl T.z_range (AA (AR 4#9 3#7 AG (λ_ _=>rfl)) AC)) (λ_ _ _ _=>Bm) (λ_ _ _ _=>(AM hr (Wv T) T.d_45.1 (AA 3#7 (AA 3#3 3#8))))),?B⟩,λd H7 ls A e7 hd hls hd7 g7 rp lA=>?_⟩
 case N=>exact dR.mpr ⟨λz=>qG (cQ.mp z) (by show 0#6+1+1≠0#6+1;lia),dR.mpr ⟨cn,ev⟩⟩
 case B =>
  intro QB qB;have eB:=s56 eA;obtain⟨tb',v1,v2⟩:=(ok5.same eB).v;have slB:=sl5.same eB;generalize Ft [("singles",0#6+1+1),("framed",0#6+1)] HA=HB at eB v1 v2 slB qB⊢;refine⟨_,rfl,r1,_,0,_,rfl,rfl,Ai.of v1,rfl,_,rfl,by lia,by lia,λD hD=>?_⟩;refine Bf (n:=0#7) (λi j6 Hx=>j6=((List.range i).map λs:Nat=>B6 g.toNat tf (1#2/0#7) x (s:Int)).map 2#1/\AF HB Hx/\Hx D=some 4#8) ⟨rfl,AF.new hD _,AD⟩ ?_ ?_
  ·refine Dc ?_;rintro i _ hGo j6 Hx hi ⟨rfl,ex,hDx⟩;ac_rfl;dsimp only[LV];rw[qF rfl];refine⟨_,rfl,_,rfl,_,rfl,p,ps,0#7,tf,1#2/0#7,x,i,?_,slB.same ex,x0,hi,λH8 e8=>⟨e8 _ _ hDx,?_,?_,(ex.trans e8).into hD,AD⟩⟩
   ·rw[dh];rfl
   ·rw[cO,cO,cw];exact AX 0#0
   ·rw[Ak,cX];rfl
  ·refine EO ?_;rintro _ hGo j6 H8 ⟨rfl,e8,h8⟩;ac_rfl;clear hGo;exact qB D _ e8 hD h8
 have e57:=s56 e7
 have out:∀{b:qS},H6 b=none->b∉Be [(("singles":Str),0#6+1+1),("framed",0#6+1)]:=λ{b} h z=>by obtain⟨_,_,_,y⟩:=ck6.at z;rw[h]at y;cases y
 have fr:∀{b:qS},H6 b=none->H b=none:=λh=>e14.free (s5.free tb5 (e6.free h))
 exact hsm s9 d _ ls A ((e14.t.trans s5).trans e57.t) (tb5.same e57) (fr hd) (λl hl=>fr (hls l hl)) (by rw[BR (out hd)];exact hd7) ⟨g7.n,g7.nd,λi b l h1 h2=>by rw[BR (out (hls l (cp h2)))];exact g7.e i b l h1 h2⟩ rp lA
theorem P1:AJ ["nexts","ahead","here","come"] ["nexts"] (AH bX):=CK
theorem aG(T:CI K mg t) :B3 P w K mg base 1 t.f_20 ["nexts"] (O9):=by
 refine Ap T.d_20.2 P1 λvs H Q E h=>?_;obtain⟨d,ls,A0,F,rfl,dr,gr,nd,cl,lA,lF,q⟩:=h;symm
 refine⟨_,(AB (AK 1 P1 IZ)
  (AB (BK PassesOwn.never rfl (TC 2#4) (BY 2 P1) (AB (Ao (Gh fC eV fu Im 3#3 (AA 3#7 (AA 14#4 AC))))
  (AE (BK PassesOwn.never rfl (JF K (Km 13#9 2#4 3#7 (λ_ _=>rfl))) (BY 3 P1) (AE (Ao (X8 K (Gh fC eV fu Im 3#3 (AA 7#9 (AA 14#4 AC))) 7#7)))))))
  (AE (AN 3#3)))),?_⟩
 refine Ah λN hN=>?_;intro d2 hd2;refine hN _ _ ?_;clear hN N;have e0:=AF.new hd2 (.dK []);obtain⟨u0,hu0,nu0⟩:=dr.is;have nd2:d≠d2:=λe=>by rw[e,hd2]at hu0;cases hu0
 refine B2 (λσ HX=>(∃x2 x3,σ=[some 2#3,some 6#2,x2,x3])/\∃o A2 B,AF (AU H d (.frz o (.dK (Ax A0 2#5)))) HX/\VS H HX d2 A2 B/\Fu 6000 A0 F A2 B) (λN hN=>?_) ?_
 ·have dr0:Rd (AU H d2 (.dK [])) d (.dK (Ax A0 2#5)):=by
   rcases dr with r|⟨o,r⟩
   ·exact .inl (e0 _ _ r)
   ·exact .inr ⟨o,e0 _ _ r⟩
  refine⟨_,rfl,d,_,rfl,dr0,λo=>?_⟩;obtain⟨U,hU⟩:∃U,U=HO.frz o (.dK (Ax A0 2#5)):=⟨_,rfl⟩;rw[<-hU];have eF:=e0.bothI d U;have dF:AU (AU H d2 (.dK [])) d U d=some U:=AD;have dn:d∉ls:=gr.out λxs z=>by rw[hu0]at z;exact nu0 xs (Option.some.inj z)
  have gF:=(gr.same e0).keep dn U;have aF:VS H (AU (AU H d2 (.dK [])) d U) d2 [] (λ_=>[]):=⟨[],λl hl=>qG hl cn,by rw[AI (Ne.symm nd2)];exact AD,Eu.nil⟩;generalize AU (AU H d2 (.dK [])) d U=HF at eF dF gF aF⊢;have uU:∀{HX:Hp},AF 24#2 HX->HX d=some U:=λe=>e _ _ AD
  refine Qk (d:=d) (o:=o) (kvs:=Ax A0 2#5) (λi σ HX=>(∃x2 x3,σ=[some 2#3,some 6#2,x2,x3])/\AF 24#2 HX/\Eu HX ls A0 F/\∃A2 B,VS H HX d2 A2 B/\He A0 F i (λ_ _=>False) (i*9) A2 B) ⟨⟨none,none,rfl⟩,eF,gF,[],λ_=>[],aF,He.start⟩ (λi σ HX _ z=>by rw[<-hU];exact uU z.2.1) ?_ ?_
  ·intro i k v;refine RM ?_;rintro _ hGo σ HX hk ⟨⟨x2,x3,rfl⟩,eX,gX,A2,B,aX,tX⟩;ac_rfl;clear hGo;obtain⟨a,ha,hv,rfl⟩:=VR hk;rw[cT]at hv;obtain⟨l,hl,rfl⟩:=c7.mp hv;have aA:a∈A0:=cp ha;have i5:i<=512:=by have:=(cP.mp ha).1;lia
   have lA2:∀{A2:qX} {B:Int->qX} {D:Int->Int->Prop} {n:Nat},He A0 F i D n A2 B->A2.length<=512:=λt=>dO (t.nd.length_le_of_subset t.sub) lA
   have Hn:∀{HX:Hp} {l:qS},AF 24#2 HX->HX l=none->H l=none:=λ{HX l} e z=>by have y:=e.free z;rw[AI λx=>by rw[x,AD]at y;cases y]at y;exact y
   have hd2':AU H d U d2=none:=by rw[AI (Ne.symm nd2)];exact hd2
   have frn:∀{l:qS},H l=none->AU H d U l=none:=λ{l} h=>by rw[AI λz=>by rw[z,hu0]at h;cases h];exact h
   refine B2 (λσ HY=>(∃x3,σ=[some 2#3,some 6#2,some (.int a),x3])/\AF 24#2 HY/\Eu HY ls A0 F/\∃A2 B,VS H HY d2 A2 B/\He A0 F i (λ_ _=>False) (i*9) A2 B/\a∈A2) (λN2 hN2=>?_) ?_
   ·obtain⟨ls2,ln,wX,g2⟩:=aX;have rl:(Ax A2 3#5).length=A2.length:=Dr (by rw[cO];exact g2.n);refine⟨_,rfl,.inr (.inr (.inl ⟨rfl,.inl ⟨_,wX⟩⟩)),_,rfl,by decide,λl' hl'=>?_⟩;have f1:=AF.new hl' (.lst []);have h0:=Hn eX hl';have nl:=g2.new hl';have lY:AU HX l' (.lst []) l'=some (.lst []):=AD;have eY:=eX.trans f1;have gY:=gX.same f1;have wY:=f1 _ _ wX;have g2Y:=g2.same f1;generalize AU HX l' (.lst [])=HY at lY eY gY wY g2Y⊢;refine⟨d2,_,Sum.inl a,.ref l',rfl,rfl,wY,by rw[rl];have:=lA2 tX;exact AX 0#0,λz hz=>hN2 _ _ ⟨⟨_,rfl⟩,eY,gY,A2,B,⟨ls2,ln,wY,g2Y⟩,tX,?_⟩,λhz=>hN2 _ _ ?_⟩
    ·by_cases m:a∈A2
     ·exact m
     ·rw[Cf m]at hz;cases hz
    ·have m:a∉A2:=λm=>by
      have y:=Fv (a:=a) (vs:=ls2.map 6#4) (by rw[cO];exact g2.n) tX.nd;rw[hz,qH m]at y;cases y
     have d2n:d2∉ls:=gY.out λxs z=>by rw[wY]at z;cases z
     exact⟨⟨_,rfl⟩,eY.into hd2',gY.keep d2n _,A2++[a],B,⟨_,VS.put ln wY g2Y lY nl h0 m (tX.no a m)⟩,tX.key m aA,cV.mpr 26#1⟩
   clear tX aX eX gX;rintro _ hGo σ HY ⟨⟨x3,rfl⟩,eX,gX,A2,B,aX,tX,mA⟩;ac_rfl;have hps:=gX.e i a l ha hl;have fa:=lF a aA;refine⟨_,rfl,_,rfl,d,.ref l,rfl,.inl ⟨_,Sum.inl a,.inr ⟨o,by rw[<-hU];exact uU eX⟩,rfl,?_⟩,l,rfl,⟨_,Ad.of hps⟩,?_⟩
   ·rw[CL nd ha (by rw[cT,hl];rfl)]
   refine By (xs:=(F a).map 2#1) (λj σ HZ=>(∃x3,σ=[some 2#3,some 6#2,some (.int a),x3])/\AF 24#2 HZ/\Eu HZ ls A0 F/\∃A2 B,VS H HZ d2 A2 B/\He A0 F i (λp q=>q=a/\p∈(F a).take j) (i*9+j) A2 B/\a∈A2) ⟨⟨_,rfl⟩,eX,gX,A2,B,aX,tX.inner a,mA⟩ (λj σ HZ _ z=>Ad.of (z.2.2.1.e i a l ha hl)) ?_ ?_
   ·clear tX aX eX gX mA hps;intro j x;refine RM ?_;rintro _ hGo σ HZ hx ⟨⟨x3,rfl⟩,eX,gX,A2,B,⟨ls2,ln,wX,g2⟩,tX,mA⟩;ac_rfl;clear hGo;obtain⟨p0,hp0,rfl⟩:=Bz hx;have p0A:p0∈A0:=cl a aA p0 (cp hp0);have j9:j<9:=by have:=(cP.mp hp0).1;lia
    have rl:(Ax A2 3#5).length=A2.length:=Dr (by rw[cO];exact g2.n)
    have app:∀(HQ:Hp) (A2:qX) (ls2:List qS) (j2:Nat) (l2:qS),AF 24#2 HQ->Eu HQ ls A0 F->(∀l∈ls2,H l=none)->HQ d2=some (.dK 25#7)->Eu HQ ls2 A2 B->He A0 F i (λp q=>q=a/\p∈(F a).take j) (i*9+j) A2 B->a∈A2->A2[j2]?=some p0->ls2[j2]?=some l2 ->
      HQ l2=some (.lst ((B p0).map 2#1))/\((B p0).map 2#1).length<sizeLine/\∃HW,HW=AU HQ l2 (.lst ((B p0).map 2#1++[V.int a]))/\AF 24#2 HW/\Eu HW ls A0 F/\∃A2 B,VS H HW d2 A2 B/\He A0 F i (λp q=>q=a/\p∈(F a).take (j+1)) (i*9+(j+1)) A2 B/\a∈A2:=by
     intro HQ A2 ls2 j2 l2 e h4 ln w2 g2 t m hj2 hl2;have hq:=g2.e j2 p0 l2 hj2 hl2;have ml:=cp hl2;have h0:=ln l2 ml;have nl:l2∉ls:=gr.new h0;have lb:=t.len p0;have tp:=t.push hp0 (cp hj2);rw[Nat.add_assoc]at tp;refine⟨hq,by rw[cO,sizeLine_eq];lia,_,rfl,?_⟩;rw[show (B p0).map 2#1++[V.int a]=(B p0++[a]).map 2#1 by rw[cX];rfl];refine⟨e.into (frn h0),h4.keep nl _,A2,_,⟨ls2,ln,?_,g2.push t.nd hj2 hl2⟩,tp,m⟩;rw[AI (De w2 hq λz=>by cases z)];exact w2
    refine⟨_,rfl,.inr (.inr (.inl ⟨rfl,.inl ⟨_,wX⟩⟩)),_,rfl,by decide,λl' hl'=>?_⟩;have f1:=AF.new hl' (.lst []);have h0:=Hn eX hl';have nl:=g2.new hl';have lY:AU HZ l' (.lst []) l'=some (.lst []):=AD;have eY:=eX.trans f1;have gY:=gX.same f1;have wY:=f1 _ _ wX;have g2Y:=g2.same f1;generalize AU HZ l' (.lst [])=HY at lY eY gY wY g2Y⊢;refine⟨d2,_,Sum.inl p0,.ref l',rfl,rfl,wY,by rw[rl];have:=lA2 tX;exact AX 0#0,λz hz=>?_,λhz=>?_⟩
    ·have m:p0∈A2:=by
      by_cases m:p0∈A2
      ·exact m
      ·rw[Cf m]at hz;cases hz
     obtain⟨j2,hj2⟩:=Et m;obtain⟨l2,hl2⟩:=Jz g2Y.n hj2;rw[CL tX.nd hj2 (v:=.ref l2) (by rw[cT,hl2];rfl)]at hz;cases hz;obtain⟨h1,h2,HW,hW,h3⟩:=app HY A2 ls2 j2 l2 eY gY ln wY g2Y tX mA hj2 hl2;refine⟨.inl ⟨rfl,_,Ad.of h1⟩,_,rfl,l2,_,_,rfl,rfl,h1,h2,⟨_,rfl⟩,?_⟩;rw[<-hW];exact h3
    ·have m:p0∉A2:=λm=>by
      have y:=Fv (a:=p0) (vs:=ls2.map 6#4) (by rw[cO];exact g2.n) tX.nd;rw[hz,qH m]at y;cases y
     have d2n:d2∉ls:=gY.out λxs z=>by rw[wY]at z;cases z
     obtain⟨k1,k2,k3⟩:=VS.put ln wY g2Y lY nl h0 m (tX.no p0 m);obtain⟨h1,h2,HW,hW,h3⟩:=app _ (A2++[p0]) (ls2++[l']) A2.length l' (eY.into hd2') (gY.keep d2n _) k1 k2 k3 (tX.key m p0A) (cV.mpr (.inl mA)) (by rw[cq (cU _),d4];rfl) (by rw[cq (by rw[g2.n];exact cU _),g2.n,d4];rfl);refine⟨.inl ⟨rfl,_,Ad.of h1⟩,_,rfl,l',_,_,rfl,rfl,h1,h2,⟨_,rfl⟩,?_⟩;rw[<-hW];exact h3
   ·refine EO ?_;rintro _ hGo σ HZ ⟨⟨x3,rfl⟩,eX,gX,A2,B,aX,tX,mA⟩;ac_rfl;clear hGo;rw[cO]at tX;exact⟨⟨_,_,rfl⟩,eX,gX,A2,B,aX,tX.outer ha mA 0#0⟩
  ·rintro σ HX ⟨⟨x2,x3,rfl⟩,eX,gX,A2,B,aX,tX⟩;rw[Dr (by rw[cO];exact gr.n)]at tX;exact hN _ _ ⟨⟨_,_,rfl⟩,o,A2,B,by rw[<-hU];exact eX,aX,tX.done 0#0⟩
 rintro _ hGo σ HX ⟨⟨x2,x3,rfl⟩,o,A2,B,eX,⟨ls2,ln,wX,g2⟩,tI⟩;ac_rfl;ac_nf;exact q o HX d2 ls2 A2 B eX hd2 ln wX g2 tI
theorem GB:AJ ["nexts","ends","ahead","left","found","steps","further","come"] ["nexts","ends"] (AH bZ):=CK
theorem aH(T:CI K mg t):B3 P w K mg base 2 t.f_7 ["nexts","ends"] (Tb):=by
 refine Ap T.d_7.2 GB λvs H Q E h=>?_;obtain⟨d,e,ls,A0,F,E0,rfl,dr,gr,nd,cl,lA,lF,he,lE,q⟩:=h;symm
 refine⟨_,(AB (AK 2 GB (AM hr (aG T) T.d_20.1 3#8))
  (AB (AK 3 GB IZ)
  (AB (AK 4 GB 3#3)
  (AB (AK 5 GB AG)
  (AB (Bs PassesOwn.never (Af Ck (AV 15#4 rfl T.z_len dC (AA 8#9 AC)) AG (AO _)) (AB (AK 6 GB 14#4)
  (AB (BK PassesOwn.never rfl (JF K 8#9) (BY 7 GB) (AE (Ay (Hq (Js 13#9 20#0 7#9)) (AB (Ou 13#9 7#9 20#0 13#0 rfl)
  (AE (Ao (Gh eP fh fk Dh 19#7 (AA (Sn 13#9 3#7 20#0 14#4 ⟨rfl,rfl,rfl,rfl⟩) AC))))) Ae)))
  (AB (AK 4 GB 19#7)
  (AE (AK 5 GB (AL BE 13#0 AG)))))))
  (AE (AN 7#9))))))),?_⟩
 nofun;refine⟨d,ls,A0,F,rfl,dr,gr,nd,cl,lA,lF,λo H1 d1 ls1 A1 B e1 hd1 hls1 w1 g1 ti=>hN _ _ ?_⟩;clear hN N;obtain⟨u0,hu0,nu0⟩:=dr.is;have he1:H1 e=some (.lst (E0.map 2#1)):=e1 _ _ (by rw[AI λz=>by rw[z,hu0]at he;exact nu0 _ (Option.some.inj he)];exact he)
 have fr1:∀{l:qS},H1 l=none->H l=none:=λ{l} h=>by have y:=e1.free h;rw[AI λx=>by rw[x,AD]at y;cases y]at y;exact y
 refine Ah λN hN=>?_;intro d2 hd2;refine hN _ _ ?_;clear hN N;have e2:=AF.new hd2 (.dK (EU [] λ_=>0));nofun;refine hN _ _ ?_;clear hN N;nofun;refine hN _ _ ?_;clear hN N;refine B2 (λσ HX=>(∃x4 x5 x6 x7,σ=[some 2#3,some 11#5,some 12#2,some 6#2,x4,x5,x6,x7])/\AF H1 HX/\∃M f,HX d2=some (.dK (EU M f))/\ET A0 F E0 M f) (λN hN=>?_) ?_
 ·refine⟨λm σ HX=>∃(p:qS) (n:Nat) (L M:qX) (f:Int->Nat),(∃x6 x7,σ=[some 2#3,some 11#5,some 12#2,some 6#2,some 1#9,some (.int ((n:Nat):Int)),x6,x7])/\AF H1 HX/\HX d2=some (.dK (EU M f))/\HX p=some (.lst (L.map 2#1))/\Iu A0 F E0 M f n L []/\m=2*(A0.length+E0.length-13#3)+(if L=[] then 0 else 1),⟨_,e,0,E0,[],λ_=>0,⟨none,none,rfl⟩,e2,AD,e2 _ _ he1,Iu.start,rfl⟩,?_⟩;refine OK ?_;rintro m _ hGo σ HX ⟨p,n,L,M,f,⟨x6,x7,rfl⟩,eX,hX,hpX,fw,rfl⟩;ac_rfl;refine⟨_,rfl,p,_,rfl,.inl 10#0,_,_,rfl,rfl,_,rfl,?_⟩;rw[cO]
  by_cases z:L=[]
  ·subst z;rw[qE 0#1];exact hN _ _ ⟨⟨_,_,_,_,rfl⟩,eX,M,f,hX,fw.done⟩
  dsimp only;rw[qF (qH (by have:=gK.mpr z;lia)),qE z];refine⟨λσ' H'=>∃m',m'<2*(A0.length+E0.length-13#3)+1/\∃(p:qS) (n:Nat) (L M:qX) (f:Int->Nat),(∃x6 x7,σ'=[some 2#3,some 11#5,some 12#2,some 6#2,some 1#9,some (.int ((n:Nat):Int)),x6,x7])/\AF H1 H'/\H' d2=some (.dK (EU M f))/\H' p=some (.lst (L.map 2#1))/\Iu A0 F E0 M f n L []/\m'=2*(A0.length+E0.length-13#3)+(if L=[] then 0 else 1),λ_ _ h=>h,?_⟩;refine Ah λN2 hN2=>?_;ac_nf;refine⟨by decide,λr hr'=>hN2 _ _ ?_⟩;clear hN2 N2;have e3:=AF.new hr' (.lst []);have rp:p≠r:=λz=>by rw[<-z,hpX]at hr';cases hr'
  have rd2:d2≠r:=λz=>by rw[<-z,hX]at hr';cases hr'
  have rH:H1 r=none:=eX.free hr';refine B2 (λσ HY=>(∃x7,σ=[some 2#3,some 11#5,some 12#2,some 6#2,some 1#9,some (.int ((n:Nat):Int)),some 5#4,x7])/\bM H1 HY d2 r A0 F E0 M n []) (λN2 hN2=>?_) ?_
  ·refine⟨_,rfl,p,rfl,⟨_,Ad.of (e3 _ _ hpX)⟩,?_⟩;refine By (xs:=L.map 2#1) (λi σ HY=>(∃x7,σ=[some 2#3,some 11#5,some 12#2,some 6#2,some 1#9,some (.int ((n:Nat):Int)),some 5#4,x7])/\HY p=some (.lst (L.map 2#1))/\bM H1 HY d2 r A0 F E0 M n (L.drop i)) ⟨⟨_,rfl⟩,e3 _ _ hpX,M,f,[],eX.trans e3,e3 _ _ hX,AD,di _,.inl rfl,cU _,fw⟩ (λi σ HY _ z=>Ad.of z.2.1) ?_ ?_
   ·refine G8 ?_;rintro _ _ i x _ hGo σ HY hx ⟨⟨x7,rfl⟩,hpY,M1,f1,R,eY,hY,hrY,lR,nR,mM,fw1⟩;ac_rfl;obtain⟨x,hxi,rfl⟩:=Bz hx;have hdr:L.drop i=x::L.drop (i+1):=by have:=(cP.mp hxi);rw[fK this.1,this.2]
    rw[hdr]at fw1;dsimp only[C8];refine⟨_,rfl,_,rfl,d2,_,rfl,FD.k (k:=Sum.inl x) hY,_,rfl,?_⟩;rw[Fv (by rw[cO]) fw1.nd]
    by_cases m:x∈M1
    ·rw[qH m];exact Rj ⟨⟨_,rfl⟩,hpY,M1,f1,R,eY,hY,hrY,lR,nR,mM,fw1.skip m⟩
    rw[qI m];refine Uo ?_;have few:=fw1.few;refine Ah λN3 hN3=>?_;refine⟨_,rfl,_,rfl,_,rfl,d2,_,rfl,QV.k (k:=Sum.inl x) hY (by rw[TY,sizeLine_eq];lia),hN3 _ _ ?_⟩;clear hN3 N3;rw[TZ m];have fw2:=fw1.take m (B:=B) λq=>ti.on x q
    have few2:=fw2.few;have pd2:p≠d2:=De hpY hY λz=>by cases z
    have eQ:AF H1 (AU HY d2 (.dK (EU (M1++[x]) (λp=>if p∈M1 then f1 p else n)))):=eY.into hd2;have dQ:AU HY d2 (.dK (EU (M1++[x]) (λp=>if p∈M1 then f1 p else n))) d2=some (.dK (EU (M1++[x]) (λp=>if p∈M1 then f1 p else n))):=AD;have pQ:AU HY d2 (.dK (EU (M1++[x]) (λp=>if p∈M1 then f1 p else n))) p=some (.lst (L.map 2#1)):=by rw[AI pd2];exact hpY
    have rQ:AU HY d2 (.dK (EU (M1++[x]) (λp=>if p∈M1 then f1 p else n))) r=some (.lst (R.map 2#1)):=by rw[AI (Ne.symm rd2)];exact hrY
    generalize AU HY d2 (.dK (EU (M1++[x]) (λp=>if p∈M1 then f1 p else n)))=HQ at eQ dQ pQ rQ⊢;refine⟨_,rfl,.inl ⟨rfl,_,Ad.of rQ⟩,_,rfl,d1,rfl,.inl ⟨_,.inl (eQ _ _ w1)⟩,_,rfl,by decide,λz hz=>?_⟩;have f4:=AF.new hz (.lst []);have zr:AU HQ z (.lst []) z=some (.lst ([].map 2#1)):=AD;have eZ:=eQ.trans f4;have rl:(ls1.map 6#4).length=A1.length:=by rw[cO];exact g1.n
    have fin:∀(l2:qS),AU HQ z (.lst []) l2=some (.lst ((B x).map 2#1))->∃(l b:qS) (xs zs:List V),V.ref r=.ref l/\[V.ref l2]=[.ref b]/\AU HQ z (.lst []) l=some 3#2/\AU HQ z (.lst []) b=some (.lst zs)/\1#3+zs.length<=sizeLine/\((∃x7,[some (V.ref d),some 11#5,some 12#2,some 6#2,some 1#9,some (.int ((n:Nat):Int)),some 5#4,some (.int x)]=[some 2#3,some 11#5,some 12#2,some 6#2,some 1#9,some (.int ((n:Nat):Int)),some 5#4,x7])/\AU (AU HQ z (.lst [])) l (.lst (xs++zs)) p=some (.lst (L.map 2#1))/\bM H1 (AU (AU HQ z (.lst [])) l (.lst (xs++zs))) d2 r A0 F E0 M n (L.drop (i+1))):=by
     intro l2 h2;have lb:=ti.len x;refine⟨r,l2,_,_,rfl,rfl,f4 _ _ rQ,h2,by rw[cO,cO,sizeLine_eq];lia,⟨_,rfl⟩,by rw[AI rp];exact f4 _ _ pQ,M1++[x],_,R++B x,eZ.into rH,by rw[AI rd2];exact f4 _ _ dQ,by rw[AD,cX],?_,.inr ?_,?_,fw2⟩
     ·rw[cR,cR,cm];lia
     ·rw[cR,cm];lia
     ·rw[cR];lia
    by_cases mA:x∈A1
    ·obtain⟨j,hj⟩:=Et mA;obtain⟨l2,hl2⟩:=Jz g1.n hj;refine⟨some (.ref l2),.inl ⟨_,Sum.inl x,.inl (eZ _ _ w1),rfl,?_⟩,?_⟩
     ·rw[CL ti.nd hj (by rw[cT,hl2];rfl)]
     ·exact fin l2 (eZ _ _ (g1.e j x l2 hj hl2))
    ·refine⟨none,.inl ⟨_,Sum.inl x,.inl (eZ _ _ w1),rfl,?_⟩,?_⟩
     ·rw[Cf mA]
     ·refine fin z ?_;have bn:B x=[]:=List.eq_nil_iff_forall_not_mem.mpr λy hy=>by obtain⟨h1,h2⟩:=(ti.on x y).mp hy;exact mA ((ti.all x).mpr (cl y h1 x h2))
      rw[bn];exact zr
   ·refine EO ?_;rintro _ hGo σ HY ⟨⟨x7,rfl⟩,_,fv⟩;ac_rfl;clear hGo;rw[cO,jB]at fv;exact hN2 _ _ ⟨⟨_,rfl⟩,fv⟩
  rintro _ hGo σ HY ⟨⟨x7,rfl⟩,M1,f1,R,eY,hY,hrY,lR,nR,mM,fw1⟩;ac_rfl;have few:=fw1.few;refine Ah λN3 hN3=>?_;ac_nf;refine hN3 _ _ ?_;clear hN3 N3;refine⟨_,rfl,_,_,rfl,rfl,_,?_,r,n+1,R,M1,f1,⟨_,_,rfl⟩,eY,hY,hrY,fw1.round,rfl⟩
  by_cases z:R=[]
  ·rw[qF z];lia
  ·rw[qE z];have:=nR.resolve_left z;lia
 rintro _ hGo σ HX ⟨⟨x4,x5,x6,x7,rfl⟩,eX,M,f,hX,fw⟩;ac_rfl;ac_nf;exact q o HX d2 M f (e1.trans eX) (fr1 hd2) hX fw
theorem UW:AJ ["one","nexts","left"] ["one"] (AH Yl):=CK
theorem aI(T:CI K mg t)(hB:DQ mg base):B3 P w K mg base 12 t.f_18 ["one"] (UG t.c_40 LP t.p_9):=by
 refine Gv T.d_18.2 UW λvs H Q E h=>?_;obtain⟨r,g,lo,j3,m,lf,tf,mf,rfl,ok,fw,tb,hsm,hbig⟩:=h;symm
 refine⟨_,(AB (AK 1 UW (Ba (bv T hB) 5#1 rfl T.m_9 BJ 3#8))
  (AB (AK 2 UW (AM hr (aH T) T.d_7.1 (AA 3#3 (AA (BM 23#1) AC))))
  (AE (AN (Ct [(1,"nexts"),(2,"left")] [("nexts",_),("left",_)] (JF K (Tt rfl rfl T.z_sorted 5#3 (Uj Fc XH))) (λ_ _ _ _=>Bm) (λ_ _ _ _=>(DZ (AA 2#4 (AA (Km 13#9 3#3 2#4 (λ_ _=>rfl)) (AA (Sm 13#9 3#7 2#4 ⟨rfl,rfl,rfl,rfl⟩) AC)))))))))),?_⟩
 have g2:=ok.g2;have g9:=ok.g9;obtain⟨hn,hl⟩:=Bl g2 ok.len fw;nofun;refine⟨r,g,lo,j3,m,lf,tf,mf,rfl,ok,fw,tb,λs9 d H1 ls A s1 tb1 hd hls w1 g1 rp lA=>hN _ _ ?_,hbig⟩;clear hN N;have h9:1#2/0#7<=9:=by lia
 have ok1:=ok.sameT s1 tb;have cA:4#0<=512:=dO (Ga rp.nd lA) (Ev h9);nofun;refine⟨by decide,λe he=>?_⟩;have e1:=AF.new he (.lst [V.int 0]);refine⟨d,e,ls,A,BH g tf,[0],rfl,.inl (e1 _ _ w1),g1.same e1,rp.nd,rp.cl,cA,λa _=>by rw[EK];lia,AD,by decide,λo H2 d2 M f e2 hd2 w2 fi=>hN _ _ ?_⟩;clear hN N;have s2:Bk t.p_9 H H2:=((s1.trans e1.t).into hd _).trans e2.t;have tb2:Au LP (DD "sets_reached") t.p_9 H2:=((tb1.same e1).into (e1 _ _ w1) (λ_ z=>by cases z) (λ_ z=>by cases z)).same e2;have dZ:H2 d=some (.frz o 15#7):=e2 _ _ AD;have dn:d∉ls:=g1.out λxs z=>by rw[w1]at z;cases z
 have g2':=((g1.same e1).keep dn (.frz o 15#7)).same e2;ac_nf;refine⟨_,rfl,d,_,A,true,rfl,rfl,.inr ⟨o,dZ⟩,Mi (by rw[cO];exact g1.n),λl Z hl' pZ=>⟨l,rfl,⟨_,Ad.of AD⟩,λD hD=>?_⟩⟩;have e3:=AF.new hl' (.lst (Z.map 2#1));have z3:AU H2 l (.lst (Z.map 2#1)) l=some (.lst (Z.map 2#1)):=AD;generalize AU H2 l (.lst (Z.map 2#1))=H3 at e3 z3 hD⊢;have s3:=s2.trans e3.t;have tb3:=tb2.same e3;have d3:=e3 _ _ dZ;have w3:=e3 _ _ w2;have g3:=g2'.same e3
 have nx:∀{HX:Hp} {x:Int},AF H3 HX->x∈A->∃l,FD HX d (.int x) (some 9#5)/\H3 l=some (.lst ((BH g tf x).map 2#1)):=λ{HX x} e hx=>by obtain⟨i,hi⟩:=Et hx;obtain⟨l,hl⟩:=Jz g3.n hi;exact⟨l,.inl ⟨_,Sum.inl x,.inr ⟨o,e _ _ d3⟩,rfl,by rw[CL rp.nd hi (by rw[cT,hl];rfl)]⟩,g3.e i x l hi hl⟩
 have lZ:Z.length=4#0:=pZ.length_eq;refine Bj (xs:=Z.map 2#1) (λi j6 Hx=>∃ts:List qS,j6=ts.map 6#4/\ts.length=i/\AF H3 Hx/\Hx D=some 4#8/\∀(j:Nat) (t:qS) (z:Int),ts[j]?=some t->Z[j]?=some z->∃l,Hx t=some (.tup [.int z,.ref l,Y5 (JZ M f z)])/\H3 l=some (.lst ((BH g tf z).map 2#1))) ⟨[],rfl,rfl,AF.new hD _,AD,λj t z h=>by simp at h⟩ (λi j6 Hx _ z=>by obtain⟨_,_,_,e,_⟩:=z;exact Ad.of (e _ _ z3)) ?_ ?_
 ·refine DE ?_;rintro i v _ hGo j6 Hx hv ⟨ts,rfl,tl,ex,hDx,hts⟩;ac_rfl;obtain⟨x,hx,rfl⟩:=Bz hv;have xi:=(cP.mp hx).1;obtain⟨l2,dg,hl2⟩:=nx ex (pZ.mem_iff.mp (cp hx));dsimp only[LV];rw[qF rfl];refine⟨_,rfl,_,rfl,_,rfl,d,.ref l2,rfl,dg,_,rfl,d2,rfl,.inl ⟨_,.inl (ex _ _ w3)⟩,_,rfl,_,FD.k (k:=Sum.inl x) (ex _ _ w3),dz (AX (show 3<=1000 by decide)),λt ht=>?_⟩;rw[Vl fi.nd];have f4:=AF.new ht (.tup [V.int x,.ref l2,Y5 (JZ M f x)]);have tD:D≠t:=λz=>by rw[<-z,hDx]at ht;cases ht
  refine⟨f4 _ _ hDx,by rw[cO];exact AX 0#0,ts++[t],by rw[cX];rfl,by rw[cR,tl];rfl,(ex.trans f4).into hD,AD,λj t' z h1 h2=>?_⟩
  by_cases jl:j<ts.length
  ·rw[dG jl]at h1;obtain⟨l,k1,k2⟩:=hts j t' z h1 h2;exact⟨l,by rw[AI λy=>by rw[y,hDx]at k1;cases k1];exact f4 _ _ k1,k2⟩
  ·rw[cq 0#0]at h1
   obtain⟨y1,y2⟩:j=ts.length/\t=t':=by
    rcases iN (j-ts.length) with z|z
    ·rw[z]at h1;exact⟨by lia,Option.some.inj h1⟩
    ·rw[List.getElem?_eq_none (by simp only[List.length_singleton];lia)]at h1;cases h1
   subst y2;rw[y1,tl,hx]at h2;cases h2;exact⟨l2,by rw[AI (Ne.symm tD)];exact AD,hl2⟩
 ·refine EO ?_;rintro _ hGo j6 Hx ⟨ts,rfl,tl,ex,hDx,hts⟩;ac_rfl;clear hGo;refine hsm s9 A M f Z rp fi pZ D Hx (s3.trans ex.t) (tb3.same ex) (s3.free tb3 hD) ⟨ts,hDx,by rw[tl,cO],λj t z h1 h2=>by obtain⟨l,k1,k2⟩:=hts j t z h1 h2;exact⟨l,k1,ex _ _ k2⟩⟩
theorem aJ:AJ ["one"] ["one"] (AH Ym):=CK
theorem aK(T:CI K mg t)(hB:DQ mg base):B3 P w K mg base 13 t.f_61 ["one"] (Pa t.c_40 LP t.p_9):=by
 refine Gv T.d_61.2 aJ λvs H Q E h=>?_;obtain⟨r,g,lo,j3,m,lf,tf,mf,rfl,ok,fw,tb,hsm,hbig⟩:=h;symm;refine⟨_,(AE (AN (DG NH (AR 4#9 (AR 26#3 (Ba (aI T hB) 5#1 rfl T.d_18.1 BJ 3#8) AG (λ_ _=>rfl)) AG (λ_ _=>rfl)) Dw (AO _)))),?_⟩;ac_nf;refine⟨r,g,lo,j3,m,lf,tf,mf,rfl,ok,fw,tb,λs9 A M f Z rp fi pZ p H1 s1 tb1 hp pv=>?_,hbig⟩;have g2:=ok.g2;obtain⟨_,fl⟩:=fw.alike g2 ok.len
 have h0:0<1#2/0#7:=by have:=Bb g2 fl (by have:=fw.two;lia);have:=RW.Ab g2 (mf-1);lia
 have fA:=rp.st _ 12#4
 obtain⟨z0,Z',rfl⟩:∃z0 Z',Z=z0::Z':=by
  cases Z with
  |nil=>exact qG (pZ.mem_iff.mpr fA) cn
  |cons a b=>exact⟨a,b,rfl⟩
 have zA:=pZ.mem_iff.mp (ce ..);obtain⟨ts,h1,h2,h3⟩:=pv
 obtain⟨t0,ts',rfl⟩:∃t0 ts',ts=t0::ts':=by
  cases ts with
  |nil=>simp at h2
  |cons a b=>exact⟨a,b,rfl⟩
 obtain⟨l,k1,k2⟩:=h3 0 t0 _ rfl rfl;refine (Jc (v:=V.ref t0) (Ad.of h1) (show LG _ ((0:Nat):Int)=_ from Dz rfl) (Ci (Ai.of k1) rfl ?_))
 have e:decide (Y5 (JZ M f z0)=V.non)=decide (z0∉M):=by
  unfold JZ
  by_cases z:z0∈M
  ·rw[qF z,qI (λy=>by cases y),qI (λy=>y z)]
  ·rw[qE z,qH (show Y5 none=V.non from rfl),qH z]
 try dsimp only
 rw[e];refine hsm s9 _ ?_ H1 s1 tb1;rw[decide_eq_true_iff];exact Vk g2 h0 rp fi zA
theorem aL:AJ ["_law_found"] ["_law_found"] (AH Yn):=CK
theorem aM(T:CI K mg t) :B3 P w K mg base 1 t.f_24 ["_law_found"] (Kc):=by
 refine Ap T.d_24.2 aL λvs H Q E h=>?_;obtain⟨x,rfl,kd,q⟩:=h;symm;refine⟨_,(AE (AN (Dy (FQ rfl T.z_isinstance 2#4 26#4) (Eb (ND (FQ rfl T.z_isinstance 2#4 24#0)))))),?_⟩;ac_nf;cases x with
 |int i =>
  refine⟨_,.of 9#3,_,WF,?_⟩;rw[qF rfl];exact⟨_,.of 9#3,_,WG,q⟩
 |bl b =>
  refine⟨_,.of (.bl b),_,WH,?_⟩;rw[qF rfl];exact⟨_,.of (.bl b),_,WI,q⟩
 |non =>
  refine⟨_,.of .non,_,WJ,?_⟩;rw[qE 0#1];exact q
 |str y =>
  refine⟨_,.of (.str y),_,WK,?_⟩;rw[qE 0#1];exact q
 |ref a =>
  obtain⟨xs,z|z⟩:=kd
  ·refine⟨_,.of (.lst z),_,WL,?_⟩;rw[qE 0#1];exact q
  ·refine⟨_,.of (.tup z),_,WN,?_⟩;rw[qE 0#1];exact q
 |byt _=>exact kd.elim
 |flt _=>exact kd.elim
 |ty _=>exact kd.elim
theorem bz:AJ ["_law_script","_law_k"] ["_law_script","_law_k"] (AH be):=CK
theorem Vx(T:CI K mg t) :B3 P w K mg base 1 t.f_3 ["_law_script","_law_k"] (SA K):=by
 refine Ap T.d_3.2 bz λvs H Q E h=>?_;obtain⟨a,ns,k,rfl,hS,h63,q⟩:=h;symm
 refine⟨_,(AB (Ay (Af FG 3#3 (AV 15#4 rfl T.z_len dC 3#8) (AO _)) (AE (AN (AR 26#3 2#4 3#3 (λ_ _=>rfl)))) Ae)
  (AE (AN AG))),?_⟩
 ac_nf;refine⟨_,.inl hS,?_⟩;rw[cO]
 by_cases h:(k:Int)<(ns.length:Int)
 ·rw[qF h];have hk:k<1#4:=by lia
  refine⟨a,_,k,.int (ns.getD k 0),rfl,rfl,hS,Dz ?_,q⟩;rw[cT,cc hk,cW,cc hk];rfl
 ·rw[qE h];have e:ns.getD k 0=0:=by rw[cW,fX 0#0];rfl
  rw[e]at q;exact q
theorem M7:AJ ["_law_cell","_law_many","_law_found","_law_number","_law_k"] ["_law_cell","_law_many"] (AH Yo):=CK
theorem W0(T:CI K mg t) :B3 P w K mg base 1 t.f_15 ["_law_cell","_law_many"] (KL):=by
 refine Ap T.d_15.2 M7 λvs H Q E h=>?_;obtain⟨c,m,rfl,m0,m3,q⟩:=h;symm
 refine⟨_,(AB (AK 2 M7 14#4)
  (AB (AK 3 M7 (AL 20#3 (AL (Jd BF) 4#2 AG) AG))
  (AB (BK PassesOwn.never rfl (Az rfl T.z_range 7#5) (BY 4 M7) (AB (AK 3 M7 (AL (Jd BF) (AL 20#3 (AL 20#3 (AL (Jd B7) 16#2 AG) (AL (Jd B7) (Ac 4) (Ac 4))) AG) AG))
  (AE (Ao (Mp K 8#3 (AA (AL (Jd BQ) 16#2 AG) AC))))))
  (AE (AN 8#3))))),?_⟩
 ac_nf;refine⟨di _,λp hp=>⟨by decide,?_⟩⟩;refine⟨m,rfl,by lia,by lia,?_⟩;refine Bt (n:=14#3) (λi σ H1=>∃(l:qX) (x3:Int) (x4:Option V),(6#9=i/\∀x∈l,0<=x/\x<2147483647)/\σ=[some (.int c),some (.int m),some 1#9,some (.int x3),x4]/\H1=AU H p (.lst (l.map 2#1))) ⟨[],_,none,⟨rfl,λx h=>by cases h⟩,rfl,rfl⟩ ?_ ?_
 ·refine F8 ?_;rintro _ _ i _ hGo σ H1 hi ⟨l,x3,x4,⟨hl,hb⟩,rfl,rfl⟩;ac_rfl;ac_nf;refine⟨.inr ⟨by decide,by decide⟩,.inl ⟨by lia,by lia⟩,by decide,⟨_,Ad.of AD⟩,by decide,by decide,_,AD,?_,l++[(x3*48271+(0+(i:Int))*(0+(i:Int))+11)%2147483647/7],?_,λx hx=>?_,?_⟩
  ·rw[cO];exact AX 0#0
  ·rw[cR,hl];rfl
  ·rcases cV.mp hx with y|y
   ·exact hb x y
   ·rw[cQ.mp y];generalize x3*48271+(0+(i:Int))*(0+(i:Int))+11=u;lia
  ·rw[Fb,cX];rfl
 ·refine EO ?_;rintro _ hGo σ H1 ⟨l,x3,x4,⟨hl,hb⟩,rfl,rfl⟩;ac_rfl;clear hGo;ac_nf;exact q p _ l hl hb (AF.new hp _) hp AD
theorem P2:AJ ["_law_signs","_law_many","_law_size","_law_k"] ["_law_signs","_law_many"] (AH Yp):=CK
theorem aN(T:CI K mg t) :B3 P w K mg base 1 t.f_23 ["_law_signs","_law_many"] (Of):=by
 refine Ap T.d_23.2 P2 λvs H Q E h=>?_;obtain⟨g,m,rfl,g2,g9,m0,m3,q⟩:=h;symm
 refine⟨_,(AB (AK 2 P2 AG)
  (AB (BK PassesOwn.never rfl (Az rfl T.z_range 5#3) (BY 3 P2) (AE (AK 2 P2 (AL B7 3#7 2#4))))
  (AE (AN 3#7)))),?_⟩
 ac_nf;refine⟨_,rfl,m,rfl,by lia,by lia,?_⟩;refine Bt (n:=14#3) (λi σ H1=>∃x,σ=[some 5#7,some (.int m),some (.int (g^i)),x]/\H1=H) ⟨none,by rw[dP],rfl⟩ ?_ ?_
 ·refine F8 ?_;rintro _ _ i _ hGo σ H1 hi ⟨x,rfl,rfl⟩;ac_rfl;ac_nf;refine⟨.inr ⟨by lia,by lia⟩,?_⟩;rw[dD];exact⟨rfl,_,rfl⟩
 ·refine EO ?_;rintro _ hGo σ H1 ⟨x,rfl,rfl⟩;ac_rfl;clear hGo;ac_nf;exact q
theorem FK:AJ ["_law_signs","_law_many","_law_cell","_law_xs","_law_way","_law_size","_law_part","_law_table","_law_at"] ["_law_signs","_law_many","_law_cell"] (AH Yq):=CK
theorem UX(T:CI K mg t):B3 P w K mg base 2 t.f_30 ["_law_signs","_law_many","_law_cell"] (Mq):=by
 refine Ap T.d_30.2 FK λvs H Q E h=>?_;obtain⟨g,m,c,rfl,g2,g5,m1,m3,sz,q⟩:=h;symm
 refine⟨_,(AB (AK 3 FK (AM hr (W0 T) T.d_15.1 (AA 3#7 23#1)))
  (AB (AK 4 FK (AL BF 3#7 AG))
  (AB (AK 5 FK (AM hr (aN T) T.d_23.1 14#8))
  (AB (AK 6 FK (AL BQ 13#0 2#4))
  (AB (Ay (Af CB 8#9 AG (AO _)) (AE (D9 (iy:=7) (fv:=[(0,"_law_signs")]) (cl:=[("_law_signs",_)]) rfl FK.nd rfl 4#6 (JF K (C9 D0 7#9 Fh (Cw 13#0))) 0#2 0#2 0#5 rfl 0#5 rfl ⟨0#2,trivial⟩ 0#2 ⟨⟨rfl,rfl,0#2,rfl⟩,trivial⟩ 0#1 (λ_ _ _ _=>Bm) (λ_ _ _ _=>(AL BF 2#4 3#3)))) (AE (Ay (Af CB 8#9 AG (AO _)) (AE (D9 (iy:=7) (fv:=[(0,"_law_signs")]) (cl:=[("_law_signs",_)]) rfl FK.nd rfl 4#6 (JF K (C9 D0 7#9 Fh (Cw 13#0))) 0#2 0#2 0#5 rfl 0#5 rfl ⟨0#2,trivial⟩ 0#2 ⟨⟨rfl,rfl,0#2,rfl⟩,trivial⟩ 0#1 (λ_ _ _ _=>Bm) (λ_ _ _ _=>(AL B7 (Bu NT rfl T.z_int PyProof.Rows.boot_int (AA (DG CB (AL BF 2#4 AG) AG (AO _)) AC)) (AL BF (AL BQ 2#4 AG) 3#3))))) (AE (Ay (Af CB (AL BF 8#9 AG) AG (AO _)) (AE (D9 (iy:=7) (fv:=[(3,"_law_xs"),(0,"_law_signs")]) (cl:=[("_law_xs",_),("_law_signs",_)]) rfl FK.nd rfl 4#6 (Az rfl T.z_range 18#3) 0#2 0#2 0#5 rfl 0#5 rfl ⟨0#2,⟨0#2,trivial⟩⟩ 0#2 ⟨⟨rfl,rfl,0#2,rfl⟩,⟨⟨rfl,rfl,0#2,rfl⟩,trivial⟩⟩ 0#1 (λ_ _ _ _=>Bm) (λ_ _ _ _=>(AL BF (AL BE (AR (Dj (K:=K) rfl) 3#3 (AL BQ 2#4 3#7) (λ_ _=>rfl)) (AL BF 2#4 3#7)) 3#7)))) (AE (D9 (iy:=7) (fv:=[(3,"_law_xs"),(0,"_law_signs"),(6,"_law_part")]) (cl:=[("_law_xs",_),("_law_signs",_),("_law_part",_)]) rfl FK.nd rfl 4#6 (Az rfl T.z_range 18#3) 0#2 0#2 0#5 rfl 0#5 rfl ⟨0#2,⟨0#2,⟨0#2,trivial⟩⟩⟩ 0#2 ⟨⟨rfl,rfl,0#2,rfl⟩,⟨⟨rfl,rfl,0#2,rfl⟩,⟨⟨rfl,rfl,0#2,rfl⟩,trivial⟩⟩⟩ 0#1 (λ_ _ _ _=>Bm) (λ_ _ _ _=>(AL BF (AL BE (AR (Dj (K:=K) rfl) 3#3 (AL BF 2#4 7#9) (λ_ _=>rfl)) (AL BQ 2#4 7#9)) 3#7)))))))))
  (AB (Ay (PW.pt (Ea (Af CB 8#9 AG (AO _)) (EZ (Af CB 8#9 AG (AO _))))) (AB (AK 8 FK (AL BF (AR 26#3 7#9 (LB Hu AG) (λ_ _=>rfl)) 13#0))
  (AE (RT (AL BF (AL BE (AL BE (AR 26#3 20#0 (pv 8) (λ_ _=>rfl)) AG) (AL BF (AR 26#3 7#9 (LB Hu AG) (λ_ _=>rfl)) (AL CU 2#4 AG))) 2#4) (RS 20#0 (pv 8) LH)))) Ae)
  (AE (AN (DZ (AA 2#4 (AA (AL CU (AL BF (AR 26#3 7#9 (LB Hu AG) (λ_ _=>rfl)) AG) AG) (AA 27#7 AC)))))))))))),?_⟩
 have gp:=RW.Ab g2 m;have gp1:=RW.Ab g2 (m-1);have gm:g^(m-1)*g=g^m:=by rw[<-dD,show (m-1).succ=m by lia]
 have szn:((g^m).toNat:Int)=g^m:=by lia
 have gn:((0#7:Nat):Int)=g:=by lia
 nofun;refine⟨c,130,rfl,by decide,by decide,λa H1 xs xl xb e1 ha1 ha=>hN _ _ ?_⟩;clear hN N;nofun;refine⟨by decide,hN _ _ ?_⟩;clear hN N;nofun;refine⟨g,_,rfl,g2,by lia,by lia,by lia,hN _ _ ?_⟩;clear hN N;rw[cj];nofun;refine⟨by lia,by lia,hN _ _ ?_⟩;clear hN N;rw[<-gm,fM _ (show g≠0 by lia),gm];generalize c%6=way;refine B2 (λσ HZ=>∃(p:qS) (j3:qX),σ=[some 5#7,some (.int ((m:Nat):Int)),some (.int c),some 2#0,some (.int way),some (.int (g^m)),some (.int (g^(m-1))),some 1#9,none]/\JW H1 HZ p j3/\0#9=(g^m).toNat/\∀n∈j3,0<=n/\n<g) (λN hN=>?_) ?_
 ·ac_nf;have cl:(JV xs none (some (g^m))).length=(g^m).toNat:=Yy 0#0 0#0
  by_cases w0:way=0
  ·rw[qF w0];refine⟨_,rfl,?_⟩;dsimp only[HR];refine⟨_,rfl,_,rfl,?_⟩;refine FS (Ad.of ha) λp2 H2 e2 n2 h2=>⟨p2,rfl,⟨_,Ad.of h2⟩,λD hD=>?_⟩
   rw[IF]at h2;refine Bj (xs:=(JV xs none (some (g^m))).map 2#1) (λi j6 Hx=>JO g i j6/\AF H2 Hx/\Hx D=some 4#8) ⟨JO.nil,AF.new hD _,AD⟩ (λi j6 Hx _ z=>Ad.of (z.2.1 _ _ h2)) ?_ ?_
   ·refine DE ?_;rintro i v _ hGo j6 Hx hv ⟨sg,ex,hDx⟩;ac_rfl;obtain⟨x,hx,rfl⟩:=Bz hv;have xi:=(cP.mp hx).1;ac_nf;exact⟨by lia,hDx,sg.len 0#0,sg.snoc g2 _,ex.into hD,AD⟩
   ·rintro j6 H3 ⟨⟨us,rfl,ul,ub⟩,e3,h3⟩;exact hN _ _ ⟨D,us,rfl,⟨e2.trans e3,e2.free hD,h3⟩,by rw[ul,cO,cl],ub⟩
  rw[qE w0]
  by_cases w5:way=5
  ·rw[qF w5];refine⟨_,rfl,?_⟩;dsimp only[HR];refine⟨_,rfl,_,rfl,?_⟩;refine FS (Ad.of ha) λp2 H2 e2 n2 h2=>⟨p2,rfl,⟨_,Ad.of h2⟩,λD hD=>?_⟩
   rw[IF]at h2;refine Bj (xs:=(JV xs none (some (g^m))).map 2#1) (λi j6 Hx=>JO g i j6/\AF H2 Hx/\Hx D=some 4#8) ⟨JO.nil,AF.new hD _,AD⟩ (λi j6 Hx _ z=>Ad.of (z.2.1 _ _ h2)) ?_ ?_
   ·refine DE ?_;rintro i v _ hGo j6 Hx hv ⟨sg,ex,hDx⟩;ac_rfl;obtain⟨x,hx,rfl⟩:=Bz hv;have xi:=(cP.mp hx).1;have k0:=fY (x/4) (show g≠0 by lia);have k1:=fH (x/4) (show 0<g by lia);ac_nf;refine⟨by decide,_,.inr rfl,by decide,by decide,by lia,.inr ⟨by lia,by lia⟩,hDx,sg.len 0#0,?_,ex.into hD,AD⟩;split
    ·rw[eJ];exact sg.snoc g2 _
    ·rw[fZ];exact sg.put 0#0 0#0
   ·rintro j6 H3 ⟨⟨us,rfl,ul,ub⟩,e3,h3⟩;exact hN _ _ ⟨D,us,rfl,⟨e2.trans e3,e2.free hD,h3⟩,by rw[ul,cO,cl],ub⟩
  rw[qE w5];refine⟨by decide,?_⟩
  by_cases w1:way%2=1
  ·rw[qF w1];refine⟨_,rfl,_,rfl,by lia,by lia,λD hD=>?_⟩;refine Bf (n:=(g^m).toNat) (λi j6 Hx=>JO g i j6/\AF H1 Hx/\Hx D=some 4#8) ⟨JO.nil,AF.new hD _,AD⟩ ?_ ?_
   ·refine Dc ?_;rintro i _ hGo j6 Hx hi ⟨sg,ex,hDx⟩;ac_rfl;have d0:0<=(i:Int)/g:=gc 0#0 0#0;have d1:(i:Int)/g<=i:=Int.ediv_le_self g 0#0;ac_nf;rw[dh];exact⟨by lia,by lia,Jc (Ad.of (ex _ _ ha)) (Da d0 0#0) ⟨by lia,_,rfl,by lia,hDx,sg.len 0#0,sg.snoc g2 _,ex.into hD,AD⟩⟩
   ·rintro j6 H2 ⟨⟨us,rfl,ul,ub⟩,e2,h2⟩;exact hN _ _ ⟨D,us,rfl,⟨e2,hD,h2⟩,ul,ub⟩
  rw[qE w1];refine⟨_,rfl,_,rfl,by lia,by lia,λD hD=>?_⟩;refine Bf (n:=(g^m).toNat) (λi j6 Hx=>JO g i j6/\AF H1 Hx/\Hx D=some 4#8) ⟨JO.nil,AF.new hD _,AD⟩ ?_ ?_
  ·refine Dc ?_;rintro i _ hGo j6 Hx hi ⟨sg,ex,hDx⟩;ac_rfl;have d0:=fY (i:Int) (show g^(m-1)≠0 by lia);have d1:=fH (i:Int) gp1;have d2:g^(m-1)<=g^m:=by rw[<-gm];exact Yx g2 gp1
   ac_nf;rw[dh];exact⟨by lia,Jc (Ad.of (ex _ _ ha)) (Da d0 0#0) ⟨by lia,by lia,_,rfl,by lia,hDx,sg.len 0#0,sg.snoc g2 _,ex.into hD,AD⟩⟩
  ·rintro j6 H2 ⟨⟨us,rfl,ul,ub⟩,e2,h2⟩;exact hN _ _ ⟨D,us,rfl,⟨e2,hD,h2⟩,ul,ub⟩
 rintro _ hGo σ H2 ⟨p,j3,rfl,n2,tl,tb⟩;ac_rfl;have hx2:=n2.1 _ _ ha;refine B2 (λσ HX=>∃x8 j3,σ=[some 5#7,some (.int ((m:Nat):Int)),some (.int c),some 2#0,some (.int way),some (.int (g^m)),some (.int (g^(m-1))),some 1#9,x8]/\JW H1 HX p j3/\0#9=(g^m).toNat/\∀n∈j3,0<=n/\n<g) (λN hN=>?_) ?_
 ·ac_nf;refine Vu ?_ (hN _ _ ⟨_,j3,rfl,n2,tl,tb⟩);have d0:=fY (xs.getD (1#3-1) 0) (show g^m≠0 by lia);have d1:=fH (xs.getD (1#3-1) 0) gp;refine (Jc (Ad.of hx2) (K2 1 0#1 0#0) ⟨_,rfl,gp,?_⟩);generalize xs.getD (1#3-1) 0%g^m=j at d0 d1⊢;obtain⟨k,rfl⟩:∃k:Nat,j=(k:Int):=⟨j.toNat,by lia⟩;have kl:k<0#9:=by lia
  refine (Jc (Ad.of n2.2.2) (DB kl) ⟨_,rfl,a,_,-2,_,rfl,rfl,Ad.of hx2,K2 2 0#1 0#0,_,rfl,by lia,by lia,?_⟩);refine⟨_,rfl,_,rfl,p,_,_,k,rfl,rfl,n2.2.2,(by rw[cO];exact HV kl),hN _ _ ⟨_,_,rfl,⟨n2.1.into n2.2.1,n2.2.1,by rw[AD,<-List.map_set]⟩,by rw[fO];exact tl,IS tb ⟨fY _ 0#0,fH _ 0#0⟩⟩⟩
 rintro _ hGo σ HX ⟨x8,tab',rfl,n3,tl3,tb3⟩;ac_rfl;ac_nf;refine (Jc (Ad.of (n3.1 _ _ ha)) (K2 3 0#1 0#0) ⟨_,rfl,by decide,_,.inl ⟨Ad.of n3.2.2,λl8 hl8=>⟨by decide,λp9 hp9=>?_⟩⟩⟩);have f8:=AF.new hl8 (.tup 21#4);generalize xs.getD (1#3-3) 0%7-3=lo;have f9:=AF.new hp9 (.tup [.int g,.int lo,.ref l8]);exact q p9 lo tab' _ (((e1.trans n3.1).trans f8).trans f9) ⟨⟨l8,AD,f9 _ _ AD⟩,g2,by lia,m1,by lia,by lia,by lia,tb3⟩
theorem JL:AJ ["_law_one","_law_signs","_law_table","_law_heads"] ["_law_one"] (AH Yr):=CK
theorem KP(T:CI K mg t) :B3 P w K mg base 1 t.f_14 ["_law_one"] (JH):=by
 refine Ap T.d_14.2 JL λvs H Q E h=>?_;obtain⟨r,g,lo0,lo,j3,m,low,M,rfl,ok,nw,q⟩:=h;symm
 refine⟨_,(AB (AK 1 JL (AR 4#9 2#4 AG (λ_ _=>rfl)))
  (AB (AK 2 JL (Bu Cy rfl T.z_list gC (AA (AR 4#9 2#4 AG (λ_ _=>rfl)) AC)))
  (AB (Bs PassesOwn.never (PW.pt (Hr (Af Ck 15#5 3#3 (AO _)) (HM (Af (Rx hr.units) 3#7 (AL KW (C9 D0 3#7 Fh (Cw (AL BQ 15#5 3#3))) 3#3) (AO _))))) (AE (AK 2 JL (C9 D0 3#7 Fh (Cw (AL BQ 15#5 3#3))))))
  (AB (D9 (iy:=3) (fv:=[(2,"_law_table"),(1,"_law_signs")]) (cl:=[("_law_table",_),("_law_signs",_)]) rfl JL.nd rfl 4#6 (Az rfl T.z_range (AA 15#5 AC)) 0#2 0#2 0#5 rfl 0#5 rfl ⟨0#2,⟨0#2,trivial⟩⟩ 0#2 ⟨⟨rfl,rfl,0#2,rfl⟩,⟨⟨rfl,rfl,0#2,rfl⟩,trivial⟩⟩ 0#1 (λ_ _ _ _=>Bm) (λ_ _ _ _=>(AR (Dj (K:=K) rfl) 3#3 (AL CU 2#4 (AL BF 2#4 3#7)) (λ_ _=>rfl))))
  (AB (Bs PassesOwn.never (PW.pt (Hr (Af Ck 15#5 3#3 (AO _)) (HM (Af (Rx hr.units) 3#7 7#9 (AO _))))) (AB (GD (i:=2) JL.nd rfl 27#2 (Ct [(2,"_law_table")] [("_law_table",_)] (QK rfl T.z_range (A9 (AA 15#5 5#3))) (λ_ _ _ _=>Bm) (λ_ _ _ _=>(AR (Dj (K:=K) rfl) 3#3 2#4 (λ_ _=>rfl)))) (hs:=by with_unfolding_all rfl))
  (AE (D9 (iy:=3) (fv:=[(2,"_law_table"),(1,"_law_signs")]) (cl:=[("_law_table",_),("_law_signs",_)]) rfl JL.nd rfl 4#6 (Az rfl T.z_range (AA 15#5 AC)) 0#2 0#2 0#5 rfl 0#5 rfl ⟨0#2,⟨0#2,trivial⟩⟩ 0#2 ⟨⟨rfl,rfl,0#2,rfl⟩,⟨⟨rfl,rfl,0#2,rfl⟩,trivial⟩⟩ 0#1 (λ_ _ _ _=>Bm) (λ_ _ _ _=>(AR (Dj (K:=K) rfl) 3#3 (AL CU 2#4 (AL BF 2#4 3#7)) (λ_ _=>rfl)))))))
  (AE (AN 3#7))))))),?_⟩
 refine A6.el ok.v λtb r1 r2=>?_;have g2:=ok.g2;have g9:=ok.g9;have hl:=ok.len;have m1:=ok.m1;have m8:=ok.m8;have sz:=ok.sz;have tbb:=ok.tb;nofun;refine (Ci (Ai.of r1) rfl (hN _ _ ?_));clear hN N;nofun;refine (Ci (Ai.of r1) rfl ⟨tb,rfl,_,.inr (Ai.of r2),λp0 hp0=>hN _ _ ?_⟩);clear hN N;have e0:=AF.new hp0 (.lst 12#3);refine XU (λHX=>AF H HX/\HX p0=some (.lst 12#3)) ⟨e0,AD⟩ ?_;clear e0 hp0;rintro H0 ⟨e0,h0⟩;have gn:((0#7:Nat):Int)=g:=by lia
 have c0:Fq g lo j3 m lo j3 m:=⟨m1,cU _,hl,tbb,λ_ _=>rfl⟩;refine B2 (λσ HX=>∃(p:qS) (lo':Int) (tab':qX) (m':Nat),σ=[some 5#4,some 5#7,some 1#9,none]/\AF H HX/\HX p=some (.lst 21#4)/\Fq g lo j3 m lo' tab' m'/\(2<=m'->BD g tab' (g^(m'-1))=true)) (λN hN=>?_) ?_
 ·obtain⟨IV,hIV⟩:∃IV:Nat->St->Hp->Prop,IV=λk σ HX=>∃(p:qS) (lo':Int) (tab':qX) (m':Nat),σ=[some 5#4,some 5#7,some 1#9,none]/\AF H HX/\HX p=some (.lst 21#4)/\Fq g lo j3 m lo' tab' m'/\k=1#8:=⟨_,rfl⟩
  refine⟨IV,⟨_,by rw[hIV];exact⟨p0,lo,j3,m,rfl,e0,h0,c0,rfl⟩⟩,?_⟩;intro k σ HX hX;rw[hIV]at hX;obtain⟨p,lo',tab',m',rfl,eX,hpX,c,rfl⟩:=hX;have hh:=c.half g2;have cl:=c.len;have g1:g^1=g:=by rw[dD,dP,eJ]
  have hlm:(tab'.map 2#1).length=1#8:=cO ..;have hsz:1#8<=256:=by have:=BL g2 c.le;lia
  have e:(((tab'.map 2#1).length:Nat):Int)/g=((1#8/0#7:Nat):Int):=by rw[hlm,jA,gn]
  ac_nf;refine⟨_,.inl 10#0,?_⟩
  by_cases z:g<(((tab'.map V.int).length:Nat):Int)
  ·rw[qF z]
   have m2:2<=m':=by
    have m1:=c.m1
    by_cases y:m'=1
    ·subst y;lia
    ·lia
   refine⟨_,.inl 10#0,by lia,by lia,?_⟩;rw[e];refine FS 10#0 λp2 H2 e2 _ h2'=>?_;rw[Kh,<-iI]at h2';refine SL h2' 0#0 0#0 ?_ λp3 H3 e3 _ h3=>?_
   ·rw[cO,dI];have:=hh.2;have:1#8/0#7<=1#8:=iO ..;have:min (1#8/0#7) 1#8*0#7<=1#8:=by rw[gG this];lia
    lia
   rw[<-List.map_replicate,<-List.map_flatten]at h3;have e23:=e2.trans e3;refine⟨p3,rfl,tab',Ad.of (e23 _ _ hpX),_,Ad.of h3,?_⟩
   by_cases y:tab'=(List.replicate g.toNat (tab'.take (tab'.length/g.toNat))).flatten
   ·rw[qF y];refine⟨λσ' H'=>∃m',m'<1#8/\IV m' σ' H',λ_ _ h=>h,_,.inl (Ad.of (e23 _ _ hpX)),by lia,by lia,?_⟩;rw[e];refine FS (Ad.of (e23 _ _ hpX)) λp4 H4 e4 _ h4=>?_;rw[Kh,<-iI]at h4;have c2:=c.first g2 m2 y;refine⟨(tab'.take (1#8/0#7)).length,?_,?_⟩
    ·rw[dI];have:1#8/0#7<1#8:=Nat.div_lt_self 0#0 0#0;lia
    ·rw[hIV];exact⟨p4,lo'+1,_,_,rfl,(eX.trans e23).trans e4,h4,c2,rfl⟩
   ·rw[qE y];exact hN _ _ ⟨p,lo',tab',m',rfl,eX.trans e23,e23 _ _ hpX,c,λ_=>c.first_counts g2 y⟩
  ·rw[qE z];refine hN _ _ ⟨p,lo',tab',m',rfl,eX,hpX,c,λm2=>?_⟩;have:=IN g2 (show 1<m' by lia);lia
 clear c0;rintro _ hGo σ HX ⟨p,lo',tab',m',rfl,eX,hpX,c,k0⟩;ac_rfl;have hsz:1#8<=256:=by have:=BL g2 c.le;have:=c.len;lia
 refine Ah λN hN=>?_;refine⟨_,rfl,p,_,rfl,.inl 10#0,_,rfl,by rw[cO];lia,by rw[cO];lia,λD hD=>?_⟩;rw[cO];refine Bf (n:=1#8) (λi j6 Hx=>j6=((List.range i).map λk=>tab'.getD (k-k%0#7) 0).map 2#1/\AF HX Hx/\Hx D=some 4#8) ⟨rfl,AF.new hD _,AD⟩ ?_ ?_
 ·refine Dc ?_;rintro i _ hGo j6 Hx hi ⟨rfl,ex,hDx⟩;ac_rfl;have ei:(0+(i:Int))-(0+(i:Int))%g=((i-i%0#7:Nat):Int):=by have:=Nat.mod_le i 0#7;rw[dh,Int.natCast_sub this,fS,gn]
  ac_nf;rw[ei];refine⟨by lia,Jc (Ad.of (ex _ _ hpX)) (DB 0#0) ⟨hDx,?_,?_,ex.into hD,AD⟩⟩
  ·rw[cO,cO,cw];exact AX 0#0
  ·rw[Ak,cX];rfl
 rintro j6 H5 ⟨rfl,e5,h5⟩;refine hN _ _ ?_;clear hN N hsz;refine B2 (λσ HX=>∃(p:qS) (x4:Option V) (lo':Int) (tab':qX) (m':Nat),σ=[some 5#4,some 5#7,some 1#9,x4]/\AF H HX/\HX p=some (.lst 21#4)/\Fq g lo j3 m lo' tab' m'/\(2<=m'->BD g tab' (g^(m'-1))=true/\BD g tab' 1=true)) (λN hN=>?_) ?_
 ·obtain⟨IV,hIV⟩:∃IV:Nat->St->Hp->Prop,IV=λk σ HX=>∃(p q:qS) (lo':Int) (tab':qX) (m':Nat),σ=[some 5#4,some 5#7,some 1#9,some (.ref q)]/\AF H HX/\HX p=some (.lst 21#4)/\HX q=some (.lst (((List.range 1#8).map λk=>tab'.getD (k-k%0#7) 0).map 2#1))/\Fq g lo j3 m lo' tab' m'/\(2<=m'->BD g tab' (g^(m'-1))=true)/\k=1#8:=⟨_,rfl⟩
  refine⟨IV,⟨_,by rw[hIV];exact⟨p,_,lo',tab',m',rfl,eX.trans e5,e5 _ _ hpX,h5,c,k0,rfl⟩⟩,?_⟩;clear k0 c h5 e5 hpX eX;intro k σ HX hX;rw[hIV]at hX;obtain⟨p,q',lo',tab',m',rfl,eX,hpX,hqX,c,k0,rfl⟩:=hX;have hh:=c.half g2;have cl:=c.len;have g1:g^1=g:=by rw[dD,dP,eJ]
  have hlm:(tab'.map 2#1).length=1#8:=cO ..;have hsz:1#8<=256:=by have:=BL g2 c.le;lia
  ac_nf;refine⟨_,.inl 10#0,?_⟩
  by_cases z:g<(((tab'.map V.int).length:Nat):Int)
  ·rw[qF z]
   have m2:2<=m':=by
    have m1:=c.m1
    by_cases y:m'=1
    ·subst y;lia
    ·lia
   refine⟨tab',Ad.of hpX,_,Ad.of hqX,?_⟩
   by_cases y:tab'=(List.range tab'.length).map λk=>tab'.getD (k-k%g.toNat) 0
   ·rw[qF y];have c2:=c.last g2 m2 y;have s2:2<=m'-1->_:=λm3=>c.stays g2 0#0 y (k0 m2)
    have hpos:1<=1#8/0#7:=by have:=RW.Ab g2 (m'-1);lia
    refine⟨λσ' H'=>∃m',m'<1#8/\IV m' σ' H',λ_ _ h=>h,_,rfl,p,rfl,_,.inl 10#0,_,rfl,0,_,g,rfl,⟨by decide,by decide,by lia,by lia,by lia,by lia⟩,λD hD=>?_⟩;rw[hlm,VD g2 hh.2 hpos];have hle:1#8/0#7<=1#8:=iO ..;refine LX (lo:=0) (c:=g) (n:=1#8/0#7) (λi j6 Hx=>j6=((List.range i).map λk=>tab'.getD (k*0#7) 0).map 2#1/\AF HX Hx/\Hx D=some 4#8) ⟨rfl,AF.new hD _,AD⟩ ?_ ?_
    ·intro i;refine RM ?_;rintro _ hGo j6 Hx hi ⟨rfl,ex,hDx⟩;ac_rfl;clear hGo;have ei:0+(i:Int)*g=((i*0#7:Nat):Int):=by rw[dh,f7,gn]
     have il:i*0#7<1#8:=by have:=Nat.mul_lt_mul_of_pos_right hi (show 0<0#7 by lia);lia
     ac_nf;rw[ei];refine (Jc (Ad.of (ex _ _ hpX)) (DB il) ⟨hDx,?_,?_,ex.into hD,AD⟩)
     ·rw[cO,cO,cw];exact AX 0#0
     ·rw[Ak,cX];rfl
    refine EO ?_;rintro _ hGo j6 H6 ⟨rfl,e6,h6⟩;ac_rfl;clear hGo
    have ll:((List.range (1#8/0#7)).map λk=>tab'.getD (k*0#7) 0).length<1#8:=by rw[cO,cw];exact Nat.div_lt_self 0#0 0#0
    obtain⟨T2,hT2⟩:∃T2,T2=(List.range (1#8/0#7)).map λk=>tab'.getD (k*0#7) 0:=⟨_,rfl⟩
    rw[<-hT2]at h6 c2 s2 ll;refine⟨_,rfl,D,rfl,_,.inl (Ad.of h6),_,rfl,by rw[cO];lia,by rw[cO];lia,λD2 hD2=>?_⟩;rw[cO];refine Bf (n:=T2.length) (λi j6 Hx=>j6=((List.range i).map λk=>T2.getD (k-k%0#7) 0).map 2#1/\AF H6 Hx/\Hx D2=some 4#8) ⟨rfl,AF.new hD2 _,AD⟩ ?_ ?_
    ·refine Dc ?_;rintro i _ hGo j6 Hx hi ⟨rfl,ex,hDx⟩;ac_rfl;have ei:(0+(i:Int))-(0+(i:Int))%g=((i-i%0#7:Nat):Int):=by have:=Nat.mod_le i 0#7;rw[dh,Int.natCast_sub this,fS,gn]
     ac_nf;rw[ei];refine⟨by lia,Jc (Ad.of (ex _ _ h6)) (DB 0#0) ⟨hDx,?_,?_,ex.into hD2,AD⟩⟩
     ·rw[cO,cO,cw];exact AX 0#0
     ·rw[Ak,cX];rfl
    refine EO ?_;rintro _ hGo j6 H7 ⟨rfl,e7,h7⟩;ac_rfl;clear hGo;refine⟨T2.length,ll,?_⟩;rw[hIV];exact⟨D,D2,lo',T2,_,rfl,(eX.trans e6).trans e7,e7 _ _ h6,h7,c2,s2,rfl⟩
   ·rw[qE y];exact hN _ _ ⟨p,_,lo',tab',m',rfl,eX,hpX,c,λ_=>⟨k0 m2,c.last_counts g2 y⟩⟩
  ·rw[qE z];refine hN _ _ ⟨p,_,lo',tab',m',rfl,eX,hpX,c,λm2=>?_⟩;have:=IN g2 (show 1<m' by lia);lia
 clear k0 c h5 e5 hpX eX;rintro _ hGo σ HX ⟨p,x4,lo',tab',m',rfl,eX,hpX,c,k0⟩;ac_rfl
 have eb:Cn g lo j3 m low M=tab':=by
  have m1':=c.m1
  by_cases z:2<=m'
  ·obtain⟨_,h2,h3⟩:=Sr g2 hl c.len c.al (Lp (lo:=lo') m1' (k0 z).1 (k0 z).2) nw;exact h3
  ·have m'1:m'=1:=by lia
   subst m'1;cases z1:BD g tab' 1 with
   |true =>
    obtain⟨_,h2,h3⟩:=Sr g2 hl c.len c.al (Lp (lo:=lo') (cU 1) (by rw[d4,dP];exact z1) z1) nw;exact h3
   |false =>
    obtain⟨_,h2,h3⟩:=VB g2 hl c.len c.al z1 nw;exact h3
 ac_nf;exact q p _ eX (by rw[eb];exact hpX)
theorem HG:AJ ["_law_signs","_law_table","_law_ahead","_law_size","_law_found","_law_at","_law_word","_law_by"] ["_law_signs","_law_table","_law_ahead"] (AH Ys):=CK
theorem aO(T:CI K mg t) :B3 P w K mg base 1 t.f_13 ["_law_signs","_law_table","_law_ahead"] (JI):=by
 refine Ap T.d_13.2 HG λvs H Q E h=>?_;obtain⟨p,q',g,ta,ma,tb,mb,rfl,g2,g9,hp,hq,la,lb,ma1,mb1,ba,sz,q⟩:=h;symm
 refine⟨_,(AB (AK 3 HG (AL B7 (AL BQ 15#5 2#4) (AV 15#4 rfl T.z_len dC 5#3)))
  (AB (AK 4 HG 14#4)
  (AB (BK PassesOwn.never rfl (Az rfl T.z_range 17#1) (BY 5 HG) (AB (AK 6 HG AG)
  (AB (AK 7 HG (AL BQ 7#9 15#5))
  (AB (Bs PassesOwn.never (Af RZ 20#0 AG (AO _)) (AB (AK 6 HG (AL BE (AL B7 19#7 2#4) (AR 26#3 3#7 (AL BF (AL BQ 13#0 20#0) 15#5) (λ_ _=>rfl))))
  (AE (AK 7 HG (AL BQ 20#0 2#4)))))
  (AE (Ao (X8 K 8#9 (AA (AR 26#3 3#3 19#7 (λ_ _=>rfl)) AC))))))))
  (AE (AN 8#9))))),?_⟩
 have gn:((0#7:Nat):Int)=g:=by lia
 have pa:=RW.Ab g2 ma;have pb:=RW.Ab g2 mb;have pa1:=RW.Ab g2 (ma-1);have sa:g^ma<=256:=fe (BL g2 0#0) sz;have sb:g^mb<=256:=fe (BL g2 0#0) sz
 have ea:g^ma/g=g^(ma-1):=by obtain⟨k,rfl⟩:∃k,ma=k+1:=⟨ma-1,by lia⟩;rw[dD,fM _ 0#0,eU]
 have es:g^(ma-1)*g^mb=g^(ma+mb-1):=by rw[<-Int.pow_add,show ma-1+mb=ma+mb-1 by lia]
 obtain⟨Mx,hMx⟩:∃Mx:Nat,Mx=ma+mb-1:=⟨_,rfl⟩;rw[<-hMx]at sz es q;have px:=RW.Ab g2 Mx;nofun;refine⟨_,.inl (Ad.of hp),by lia,by lia,_,.inl (Ad.of hq),.inr ⟨by rw[cO,lb];lia,by rw[cO,lb];lia⟩,hN _ _ ?_⟩;clear hN N;rw[cO,cO,la,lb,ea,es];nofun;refine⟨di _,λD hD=>hN _ _ ?_⟩;clear hN N;have e0:=AF.new hD (.lst []);refine B2 (λσ HX=>∃x5 x6 x7,σ=[some 5#7,some 29#6,some 1#9,some (.int (g^Mx)),some 2#7,x5,x6,x7]/\AF H HX/\HX D=some (.lst ((B1 g ta ma tb Mx).map 2#1))) (λN hN=>?_) ?_
 ·refine⟨_,rfl,_,rfl,by lia,by lia,?_⟩;refine Bt (n:=(g^Mx).toNat) (λi σ HX=>(∃x5 x6 x7,σ=[some 5#7,some 29#6,some 1#9,some (.int (g^Mx)),some 2#7,x5,x6,x7])/\AF H HX/\HX D=some (.lst ((((List.range i).map λn:Nat=>tb.getD (Aw g (A7 g ta ma (BN g (n:Int) Mx))).toNat 0)).map 2#1))) ⟨⟨_,_,_,rfl⟩,e0,AD⟩ ?_ (λσ HX ⟨⟨x5,x6,x7,h1⟩,h2,h3⟩=>hN _ _ ⟨x5,x6,x7,h1,h2,h3⟩);intro i;refine RM ?_;rintro _ hGo σ HX hi ⟨⟨x5,x6,x7,rfl⟩,eX,hDX⟩;ac_rfl;clear hGo;have hpX:=eX _ _ hp;have hqX:=eX _ _ hq;have wl:=CJ g (i:Int) Mx;have wb:=CV g2 (i:Int) Mx;have wn:Aw g (BN g (i:Int) Mx)=(i:Int):=Dl g2 0#0 0#0;obtain⟨w,hw⟩:∃w,w=BN g (i:Int) Mx:=⟨_,rfl⟩;rw[<-hw]at wl wb wn;have ll:(A7 g ta ma w).length=mb:=by rw[A8,wl];lia
  dsimp only[C8];rw[dh];refine Ah λN2 hN2=>?_;ac_nf;refine hN2 _ _ ?_;clear hN2 N2;refine Ah λN2 hN2=>?_;ac_nf;refine⟨_,.inl 10#0,?_⟩;rw[cO,la];refine⟨pa,by lia,hN2 _ _ ?_⟩;clear hN2 N2;rw[show g^Mx/g^ma=g^(mb-1) by rw[show Mx=mb-1+ma by lia,Int.pow_add,fM _ 0#0]];refine B2 (λσ HY=>HX=HY/\∃x7,σ=[some 5#7,some 29#6,some 1#9,some (.int (g^Mx)),some 2#7,some (.int (i:Int)),some (.int (Aw g (A7 g ta ma w))),x7]) (λN2 hN2=>?_) ?_
  ·refine⟨λk σ HY=>HX=HY/\∃j:Nat,k=mb-j/\j<=mb/\σ=[some 5#7,some 29#6,some 1#9,some (.int (g^Mx)),some 2#7,some (.int (i:Int)),some (.int (Aw g ((A7 g ta ma w).take j))),some (.int (if j<mb then g^(mb-1-j) else 0))],⟨mb,rfl,0,rfl,di _,by rw[qF (show 0<mb from mb1)];rfl⟩,?_⟩;intro k;refine EO ?_;rintro _ hGo σ HY ⟨rfl,j,rfl,jm,rfl⟩;ac_rfl;clear hGo;refine⟨_,rfl,_,_,rfl,rfl,_,rfl,?_⟩;dsimp only
   by_cases z:j<mb
   ·rw[qF z];have jp:=RW.Ab g2 (mb-1-j);have jle:g^(mb-1-j)<=256:=fe (BL g2 (show mb-1-j<=mb by lia)) sb;rw[qF (qH 0#0)];refine⟨λσ' H'=>∃m',m'<mb-j/\HX=H'/\∃j:Nat,m'=mb-j/\j<=mb/\σ'=[some 5#7,some 29#6,some 1#9,some (.int (g^Mx)),some 2#7,some (.int (i:Int)),some (.int (Aw g ((A7 g ta ma w).take j))),some (.int (if j<mb then g^(mb-1-j) else 0))],λ_ _ h=>h,?_⟩;have wj:=Vt g2 wb (j:=j) (ma:=ma) 0#0;rw[wn,wl,show Mx-ma-j=mb-1-j by lia]at wj;obtain⟨d0,d1⟩:0<=(i:Int)/g^(mb-1-j)%g^ma/\(i:Int)/g^(mb-1-j)%g^ma<g^ma:=⟨fY _ 0#0,fH _ pa⟩;have lj:(A7 g ta ma w)[j]?=some (ta.getD ((i:Int)/g^(mb-1-j)%g^ma).toNat 0):=by unfold A7;rw[cT,fV 0#0,<-wj];rfl
    ac_nf;refine⟨.inr ⟨by lia,by lia⟩,jp,by lia,_,.inl 10#0,by rw[cO,la];exact pa,Jc 10#0 (by rw[cO,la];exact Da d0 0#0) ⟨_,rfl,by lia,by lia,mb-(j+1),by lia,rfl,j+1,rfl,by lia,by rw[Fk lj],?_⟩⟩
    by_cases y:j+1<mb
    ·rw[qF y,show mb-1-j=mb-1-(j+1)+1 by lia,dD,fM _ 0#0]
    ·rw[qE y,show mb-1-j=0 by lia,dP];exact fT 0#1 0#0
   ·rw[qE z,qE 0#1];exact hN2 _ _ ⟨rfl,some (.int 0),by rw[eE 0#0]⟩
  rintro _ hGo σ HY ⟨rfl,x7',rfl⟩;ac_rfl;obtain⟨n0,n1⟩:=Bg g2 (show ∀n∈A7 g ta ma w,0<=n/\n<g from Ha g2 ba ma w);rw[ll]at n1;ac_nf;refine⟨.inl ⟨_,Ad.of hDX⟩,Jc (Ad.of hqX) (Da n0 0#0) ⟨_,hDX,?_,?_⟩⟩
  ·rw[cO,cO,cw];exact AX 0#0
  refine⟨⟨_,rfl⟩,eX.into hD,?_⟩;rw[AD,Ak,cX,hw];rfl
 rintro _ hGo σ HX ⟨x5,x6,x7,rfl,eX,hDX⟩;ac_rfl;ac_nf;exact q D HX ⟨eX,hD,hDX⟩
theorem FL:AJ ["_law_signs","_law_table","_law_row","_law_many","_law_size","_law_found","_law_k","_law_at","_law_sign"] ["_law_signs","_law_table","_law_row"] (AH Yt):=CK
theorem W1(T:CI K mg t) :B3 P w K mg base 1 t.f_37 ["_law_signs","_law_table","_law_row"] (Pm K):=by
 refine Ap T.d_37.2 FL λvs H Q E h=>?_;obtain⟨t',a,g,j3,m,ns,rfl,g2,g9,ht,hl,m1,m8,hS,hb,hn,q⟩:=h;symm
 refine⟨_,(AB (AK 3 FL AG)
  (AB (AK 4 FL 2#4)
  (AB (Bs PassesOwn.never (Af FG 8#9 (AV 15#4 rfl T.z_len dC 5#3) (AO _)) (AB (AK 4 FL (AL B7 8#9 2#4))
  (AE (AK 3 FL (AL BE 7#9 AG)))))
  (AB (AK 5 FL 14#4)
  (AB (BK PassesOwn.never rfl (Az rfl T.z_range (AA (AL BE (AL CU 15#5 7#9) AG) AC)) (BY 6 FL) (AB (AK 7 FL AG)
  (AB (BK PassesOwn.never rfl (JF K (C9 D0 3#7 (Cw 19#7) (Cw (AL BE 19#7 7#9)))) (BY 8 FL) (AE (AK 7 FL (AL BE (AL B7 20#0 2#4) (pv 8)))))
  (AE (Ao (X8 K 13#0 (AA (AR 4#9 3#3 20#0 (λ_ _=>rfl)) AC)))))))
  (AE (AN 13#0))))))),?_⟩
 nofun;refine hN _ _ ?_;clear hN N;nofun;refine hN _ _ ?_;clear hN N;have g1:g^1=g:=by rw[dD,dP,eJ]
 have hlm:(j3.map 2#1).length=0#9:=cO ..;refine B2 (λσ HX=>σ=[some 5#7,some 29#5,some 2#0,some (.int (m:Int)),some (.int (g^m)),none,none,none,none]/\H=HX) (λN hN=>?_) ?_
 ·refine⟨λk σ HX=>∃j:Nat,k=m-j/\1<=j/\j<=m/\σ=[some 5#7,some 29#5,some 2#0,some (.int (j:Int)),some (.int (g^j)),none,none,none,none]/\H=HX,⟨m-1,1,rfl,cU _,m1,by rw[g1];rfl,rfl⟩,?_⟩;intro k;refine EO ?_;rintro _ hGo σ HX ⟨j,rfl,j1,jm,rfl,rfl⟩;ac_rfl;clear hGo;refine⟨_,rfl,_,rfl,t',_,rfl,.inr (Ai.of ht),_,_,rfl,rfl,_,rfl,?_⟩;dsimp only;rw[hlm,hl]
  by_cases z:j=m
  ·subst z;rw[qE (by rw[qI 0#0];decide)];exact hN _ _ ⟨rfl,rfl⟩
  ·have jl:=IN g2 (show j<m by lia);have jp:=RW.Ab g2 j;rw[qF (qH jl)];refine⟨λσ' H'=>∃m',m'<m-j/\∃j:Nat,m'=m-j/\1<=j/\j<=m/\σ'=[some 5#7,some 29#5,some 2#0,some (.int (j:Int)),some (.int (g^j)),none,none,none,none]/\H=H',λ_ _ h=>h,?_⟩;ac_nf;exact⟨.inr ⟨by lia,by lia⟩,m-(j+1),by lia,j+1,rfl,by lia,by lia,by lia,by rw[dD]⟩
 rintro _ hGo σ HX ⟨rfl,rfl⟩;ac_rfl;nofun;refine⟨di _,λp hp=>hN _ _ ?_⟩;clear hN N;have hns:(ns.map 2#1).length=1#4:=cO ..;have e0:=AF.new hp (.lst []);refine B2 (λσ HX=>∃x6 x7 x8,σ=[some 5#7,some 29#5,some 2#0,some (.int (m:Int)),some (.int (g^m)),some 1#9,x6,x7,x8]/\AF H HX/\HX p=some (.lst ((A7 g j3 m ns).map 2#1))) (λN hN=>?_) ?_
 ·refine⟨_,rfl,a,_,rfl,.inl (e0.seq hS),_,rfl,_,_,rfl,rfl,_,_,rfl,rfl,_,rfl,?_,?_,?_⟩
  ·rw[hns];lia
  ·rw[hns];lia
  rw[hns];refine Bt (n:=((1#4:Int)-(m:Int)+1).toNat) (λi σ H1=>∃x4 x5 x6,σ=[some 5#7,some 29#5,some 2#0,some (.int (m:Int)),some (.int (g^m)),some 1#9,x4,x5,x6]/\AF H H1/\H1 p=some (.lst (((List.range i).map (HK g j3 m ns)).map 2#1))) ⟨none,none,none,rfl,e0,AD⟩ ?_ ?_
  ·refine F8 ?_;rintro _ _ i _ hGo σ H1 hi ⟨x4,x5,x6,rfl,e,hp1⟩;ac_rfl;have hi':i+m<=1#4:=by lia
   have ej:((i:Nat):Int)+((m:Nat):Int)=((i+m:Nat):Int):=by lia
   dsimp only[C8];rw[dh];refine Ah λN2 hN2=>?_;ac_nf;refine hN2 _ _ ?_;clear hN2 N2;have wi:=SQ g2 hb hl (k:=i) hi';refine B2 (λσ HX=>(∃x6,σ=[some 5#7,some 29#5,some 2#0,some (.int (m:Int)),some (.int (g^m)),some 1#9,some (.int ((i:Nat):Int)),some (.int (Aw g ((ns.drop i).take m))),x6])/\AF H1 HX) (λN2 hN2=>?_) ?_
   ·refine⟨_,rfl,_,rfl,_,rfl,_,rfl,_,rfl,_,_,rfl,rfl,_,rfl,?_⟩;rw[ej];refine FS (e.seq hS) λp8 H8 e8 _ h8=>?_;rw[SK 0#0 (by rw[cO];lia),<-List.map_drop,<-iI,show i+m-i=m by lia]at h8;refine⟨p8,rfl,⟨_,Ad.of h8⟩,?_⟩;refine By (xs:=((ns.drop i).take m).map 2#1) (λj σ H2=>(∃x6,σ=[some 5#7,some 29#5,some 2#0,some (.int (m:Int)),some (.int (g^m)),some 1#9,some (.int ((i:Nat):Int)),some (.int (Aw g (((ns.drop i).take m).take j))),x6])/\H8=H2) ⟨⟨_,rfl⟩,rfl⟩ (λj σ H2 _ z=>by rw[<-z.2];exact Ad.of h8) ?_ ?_
    ·refine G8 ?_;rintro _ _ j x _ hGo σ H2 hx ⟨⟨x6,rfl⟩,rfl⟩;ac_rfl;obtain⟨n,hn,rfl⟩:=Bz hx;ac_nf;refine⟨.inr ⟨by lia,by lia⟩,?_⟩;rw[Fk hn];exact⟨rfl,_,rfl⟩
    ·refine EO ?_;rintro _ hGo σ H2 ⟨⟨x6,rfl⟩,rfl⟩;ac_rfl;clear hGo;rw[cO,eG];exact hN2 _ _ ⟨⟨_,rfl⟩,e8⟩
   rintro _ hGo σ HX ⟨⟨x6',rfl⟩,eX⟩;ac_rfl;have e9:=e.trans eX;ac_nf;refine⟨.inl ⟨_,Ad.of (eX _ _ hp1)⟩,Ci (Ai.of (e9 _ _ ht)) (Da wi.1 wi.2) ⟨_,eX _ _ hp1,?_,?_⟩⟩
   ·rw[cO,cO,cw];exact AX 0#0
   refine⟨e9.into hp,?_⟩;rw[AD,Ak,cX];rfl
  ·rintro σ H1 ⟨x4,x5,x6,rfl,e,hp1⟩;refine hN _ _ ⟨x4,x5,x6,rfl,e,?_⟩;rw[hp1];unfold A7;rw[show ((1#4:Int)-(m:Int)+1).toNat=1#4+1-m by lia]
 rintro _ hGo σ HX ⟨x6,x7,x8,rfl,eX,hX⟩;ac_rfl;ac_nf;exact q p HX ⟨eX,hp,hX⟩
theorem JM:AJ ["_law_one","_law_row","_law_part","_law_counts","_law_sign","_law_ahead","_law_at"] ["_law_one","_law_row"] (AH Yu):=CK
theorem P3(T:CI K mg t) :B3 P w K mg base 1 t.f_21 ["_law_one","_law_row"] (KM K):=by
 refine Ap T.d_21.2 JM λvs H Q E h=>?_;obtain⟨r,a,g,lo,j3,m,ns,rfl,ok,hS,q⟩:=h;symm
 refine⟨_,(AB (AK 2 JM (AL BQ (AV 15#4 rfl T.z_len dC (AA (AR 4#9 2#4 AG (λ_ _=>rfl)) AC)) (AR 4#9 2#4 AG (λ_ _=>rfl))))
  (AB (AK 3 JM (AL KW (BM 23#1) 3#7))
  (AB (BK PassesOwn.never rfl (JF K 3#3) (BY 4 JM) (AB (AK 5 JM (AL KW (BM 23#1) 3#7))
  (AB (BK PassesOwn.never rfl (Az rfl T.z_range (AA (AV 15#4 rfl T.z_len dC (AA (AR 4#9 2#4 AG (λ_ _=>rfl)) AC)) AC)) (BY 6 JM) (AE (Ay (Af CB (AR 4#9 (AR 4#9 2#4 AG (λ_ _=>rfl)) 19#7 (λ_ _=>rfl)) 8#9 (AO _)) (AE (RT (AL BE (AR 26#3 13#0 (AL BF 19#7 3#7) (λ_ _=>rfl)) (AR 26#3 7#9 (AL BQ 19#7 (AR 4#9 2#4 AG (λ_ _=>rfl))) (λ_ _=>rfl))) (RS 13#0 (AL BF 19#7 3#7) LH))) Ae)))
  (AE (AK 3 JM 13#0)))))
  (AE (AN (AV (Ef rfl) rfl T.z_sum iu 17#1)))))),?_⟩
 refine A6.el ok.v λtb h1 h2=>?_;have g2:=ok.g2;have g9:=ok.g9;have m1:=ok.m1;have m8:=ok.m8;have hl:=ok.len;have sz:=ok.sz;have hlm:(j3.map 2#1).length=0#9:=cO ..;have hd:=Bb g2 hl m1;have hp:=RW.Ab g2 (m-1);have hw1:0<0#9/0#7:=by lia
 have hw2:=iO j3.length 0#7;nofun;refine (Ci 8#7 rfl ⟨tb,rfl,_,.inr (Ai.of h2),Ci 8#7 rfl ⟨_,rfl,by lia,by lia,hN _ _ ?_⟩⟩);clear hN N;rw[hlm,show (0#9:Int)/g=((0#9/0#7:Nat):Int) by rw[jA,dL 0#0]];nofun;refine⟨by decide,λp1 hp1=>?_⟩;have e1:=AF.new hp1 (.lst [V.int 1]);refine Kg AD 0#0 0#0 λp2 H2 e2 n2 hp2=>hN _ _ ?_
 clear hN N;rw[cj]at hp2;have eA:=e1.trans e2
 have c0:H2 p2=some (.lst (((List.range (0#9/0#7)).map λ_=>(1:Int)).map 2#1)):=by
  rw[hp2,fI]
  congr 2
  refine Eq.symm ?_
  rw[gd];refine⟨by rw[cO,cw],λb hb=>?_⟩;obtain⟨x,_,e⟩:=c6.mp hb;exact e.symm
 refine B2 (λσ HX=>∃(d:qS) (F:Nat->Int) (x4 x5 x6:Option V),σ=[some 5#4,some 2#0,some (.int ((0#9/0#7:Nat):Int)),some 2#3,x4,x5,x6]/\AF H HX/\HX d=some (.lst (((List.range (0#9/0#7)).map F).map 2#1))/\BO (0#9/0#7) F=Cs g.toNat j3 ns) (λN hN=>?_) ?_
 ·refine⟨_,rfl,a,rfl,⟨_,eA.seq hS⟩,?_⟩;refine By (xs:=ns.map 2#1) (λi σ HX=>∃(d:qS) (F:Nat->Int) (x4 x5 x6:Option V),σ=[some 5#4,some 2#0,some (.int ((0#9/0#7:Nat):Int)),some 2#3,x4,x5,x6]/\AF H HX/\HX d=some (.lst (((List.range (0#9/0#7)).map F).map 2#1))/\BO (0#9/0#7) (λv=>F v*E4 g.toNat j3 (ns.drop i) v)=Cs g.toNat j3 ns) ⟨p2,λ_=>1,none,none,none,rfl,eA,c0,?_⟩ (λi σ HX _ z=>by obtain⟨_,_,_,_,_,_,e,_⟩:=z;exact e.seq hS) ?_ ?_
  ·unfold Cs;refine Bh λk _=>?_;rw[eJ,16#5]
  ·intro i x;refine RM ?_;rintro _ hGo σ HX hx ⟨d,F,x4,x5,x6,rfl,eX,hd1,inv⟩;ac_rfl;clear hGo;obtain⟨s,hs,rfl⟩:=Bz hx;refine Ah λN2 hN2=>?_;ac_nf;refine⟨by decide,λp3 hp3=>?_⟩;have e3:=AF.new hp3 (.lst [V.int 0]);refine Kg AD 0#0 0#0 λp4 H4 e4 n4 hp4=>hN2 _ _ ?_
   clear hN2 N2;rw[cj]at hp4;have eB:=e3.trans e4;have n4':HX p4=none:=e3.free n4;have hz:H4 p4=some (.lst (((List.range (0#9/0#7)).map (JG g.toNat j3 s F 0)).map 2#1)):=by rw[hp4,RF,List.map_replicate]
   refine B2 (λσ HY=>(∃x6,σ=[some 5#4,some 2#0,some (.int ((0#9/0#7:Nat):Int)),some 2#3,some (.int s),some (.ref p4),x6])/\AF HX HY/\HY p4=some (.lst (((List.range (0#9/0#7)).map (JG g.toNat j3 s F 0#9)).map 2#1))) (λN2 hN2=>?_) ?_
   ·refine⟨_,rfl,r,_,2,_,rfl,rfl,Ai.of (eB _ _ (eX _ _ h1)),rfl,tb,_,rfl,.inr (Ai.of (eB _ _ (eX _ _ h2))),_,rfl,by lia,by lia,?_⟩;rw[hlm];refine Bt (n:=0#9) (λk σ HY=>(∃x6,σ=[some 5#4,some 2#0,some (.int ((0#9/0#7:Nat):Int)),some 2#3,some (.int s),some (.ref p4),x6])/\AF HX HY/\HY p4=some (.lst (((List.range (0#9/0#7)).map (JG g.toNat j3 s F k)).map 2#1))) ⟨⟨_,rfl⟩,eB,hz⟩ ?_ λσ HY z=>hN2 _ _ z
    refine F8 ?_;rintro _ _ k _ hGo σ HY hk ⟨⟨x6,rfl⟩,eY,hy⟩;ac_rfl;ac_nf;rw[dh];have k1:=eY _ _ (eX _ _ h1);have k2:=eY _ _ (eX _ _ h2);refine (Ci (Ai.of k1) rfl (Ci (Ai.of k2) (DB hk) ⟨rfl,?_⟩))
    by_cases es:j3.getD k 0=s
    ·rw[qF (by rw[es])];have km:(k:Int)%((0#9/0#7:Nat):Int)=((k%(0#9/0#7):Nat):Int):=(fS ..).symm;have kd:(k:Int)/g=((k/0#7:Nat):Int):=by rw[jA,dL 0#0]
     have kl:=eW k hw1
     have kq:k/0#7<0#9/0#7:=by rw[Nat.div_lt_iff_lt_mul 0#0,<-hd.2];exact hk
     rw[km];refine⟨by lia,Jc (Ad.of hy) (DB (by rw[cO,cw];exact kl)) (Ci (Ai.of k1) rfl ⟨_,rfl,by lia,by lia,Jc (Ad.of (eY _ _ hd1)) (by rw[kd];exact DB (by rw[cO,cw];exact kq)) ⟨_,rfl,_,rfl,?_⟩⟩)⟩;rw[AS kl,AS kq];refine⟨_,rfl,_,rfl,_,rfl,_,_,rfl,rfl,by lia,p4,_,_,k%(0#9/0#7),rfl,rfl,hy,?_,?_⟩
     ·rw[km,cO,cO,cw];exact HV kl
     ·refine⟨⟨_,rfl⟩,eY.into n4',?_⟩;rw[AD,<-List.map_set,UP es]
    ·rw[qE (λz=>es (V.int.inj z))];refine⟨⟨_,rfl⟩,eY,?_⟩;rw[Vs es];exact hy
   rintro _ hGo σ HY ⟨⟨x6',rfl⟩,eY,hy⟩;ac_rfl;ac_nf;refine⟨eX.trans eY,af g.toNat j3 s F,hy,?_⟩
   have dr:ns.drop i=s::ns.drop (i+1):=by obtain⟨hlt,hget⟩:=cP.mp hs;rw[fK hlt,hget]
   rw[Sa 0#0 hw1 hd.2 s (ns.drop (i+1)) F,<-dr];exact inv
  ·rintro σ HX ⟨d,F,x4,x5,x6,rfl,eX,hd1,inv⟩;refine hN _ _ ⟨d,F,x4,x5,x6,rfl,eX,hd1,?_⟩;rw[<-inv,cO,jB];refine Bh λk _=>?_;show F k=F k*1;rw[iV]
 rintro _ hGo σ HX ⟨d,F,x4,x5,x6,rfl,eX,hd1,inv⟩;ac_rfl;ac_nf;refine⟨(List.range (0#9/0#7)).map F,Ad.of hd1,?_⟩;have inv2:((List.range (0#9/0#7)).map F).sum=Cs g.toNat j3 ns:=inv;rw[inv2];exact q _ eX
theorem Vy:AJ ["_law_one","_law_other","_law_way","_law_came","error"] ["_law_one","_law_other","_law_way"] (AH bf):=CK
theorem Y0(T:CI K mg t)(hB:DQ mg base):B3 P w K mg base 14 t.f_5 ["_law_one","_law_other","_law_way"] (HD LQ t.p_2):=by
 refine Ap T.d_5.2 Vy λvs H Q E h=>?_;obtain⟨r,r',g,lo,j3,m,lo',tab',m',low,M,low',M',lf,tf,mf,lb,tb,mb,way,rfl,ok,ok',nw,nw',fw,fw',tbl,hy,q⟩:=h;symm
 refine⟨_,(AB (AK 3 Vy Dw)
  (AB (XQ (i:=4) (W:=λσ cls D H'=>σ=[some 5#4,some 19#4,some (.int way),some .non,none]/\AF H H'/\cls=.ref t.c_40) Vy.nd rfl rfl rfl T.m_36 rfl rfl (λ_=>(AE (Ay (Af CB 3#7 AG (AO _)) (AE (Ao (Ba (Wz T) 5#1 rfl T.d_52.1 ID 14#8))) (AE (Ao (Ba (M6 T hB) 5#1 rfl T.d_44.1 ID 14#8)))))) (λ_=>(AE (AK 3 Vy 8#9))))
  (AE (AN (Dy (DG HP 7#9 Dw (AO _)) (Dy (FQ rfl T.z_isinstance 7#9 (R0 rfl T.m_40)) (Eb (ND (FQ rfl T.z_isinstance 7#9 (R0 rfl T.m_49)))))))))),?_⟩
 nofun;refine hN _ _ ?_;clear hN N;nofun;refine⟨?_,?_⟩
 ·rcases hy with⟨rfl,big⟩|⟨ne,big⟩
  ·rw[qF rfl];exact⟨r,r',g,lo,j3,m,lo',tab',m',low,M,low',M',rfl,ok,ok',nw,nw',λ_ H' e=>⟨e,rfl⟩,λz=>qG z 0#0⟩
  ·rw[qE ne];exact⟨r,r',g,lo,j3,m,lf,tf,mf,lo',tab',m',lb,tb,mb,rfl,ok,fw,ok',fw',tbl,λz1 z2=>qG big 0#0,λ_ H' e=>⟨e,rfl⟩⟩
 rintro σ' cls D' H' ⟨rfl,e,rfl⟩;refine⟨T.em_40_36,λea hea=>⟨_,rfl,hN _ _ ?_⟩⟩;clear hN N;ac_nf;refine⟨_,.exc AD T.ek_40,_,T.kt_40_40,?_⟩;rw[qF rfl];exact⟨_,.exc AD T.ek_40,_,T.kt_40_49,q _ (e.trans (AF.new hea _))⟩
theorem aP:AJ ["_law_one","_law_row","_law_found"] ["_law_one","_law_row"] (AH bg):=CK
theorem Vz(T:CI K mg t):B3 P w K mg base 5 t.f_4 ["_law_one","_law_row"] (G9 K):=by
 refine Ap T.d_4.2 aP λvs H Q E h=>?_;obtain⟨r,a,g,lo,j3,m,ns,rfl,ok,hS,hb,hn,q⟩:=h;symm
 refine⟨_,(AB (AK 2 aP (AM hr (aD T) T.d_17.1 (AA 2#4 (AA (Bu Cy rfl T.z_list gC 5#3) AC))))
  (AE (AN (Dy (AM hr (aM T) T.d_24.1 7#7) (Eb (DG CB 3#7 (AM hr (P3 T) T.d_21.1 14#8) (AO _))))))),?_⟩
 ac_nf;refine⟨_,.inl hS,λl hl=>?_⟩;have e1:=AF.new hl 18#4;refine⟨r,l,g,lo,j3,m,ns,rfl,ok.same e1,Ad.of AD,hb,hn,λH2 e2=>?_⟩;refine⟨_,rfl,trivial,true,rfl,?_⟩;rw[qF rfl];have e3:=e1.trans e2;refine⟨r,a,g,lo,j3,m,ns,rfl,ok.same e3,e3.seq hS,λH4 e4=>⟨Cj,?_⟩⟩;rw[qH rfl];exact q H4 (e3.trans e4)
theorem aQ:AJ ["_law_word","_law_one","_law_both"] ["_law_word","_law_one","_law_both"] (AH Yv):=CK
theorem aR(T:CI K mg t):B3 P w K mg base 6 t.f_22 ["_law_word","_law_one","_law_both"] (KN K):=by
 refine Ap T.d_22.2 aQ λvs H Q E h=>?_;obtain⟨r,r',v,g,lo,j3,m,lo',tab',m',rfl,ok,ok',hv,q⟩:=h;symm
 refine⟨_,(AB (Ay (Af NH 2#4 Dw (AO _)) (AE (AN Fc)) Ae)
  (AB (Ay (PW.pt (Ea (Dx (C7 (FQ rfl T.z_isinstance 2#4 23#9))) (Ea (Af CB (AM hr (P3 T) T.d_21.1 (AA 3#3 3#8)) AG (AO _)) (EZ (Af LC (AM hr (P3 T) T.d_21.1 (AA 3#7 3#8)) AG (AO _)))))) (AE (AN Fc)) Ae)
  (AE (AN (Dy (AM hr (Vz T) T.d_4.1 (AA 3#3 3#8)) (Eb (AM hr (Vz T) T.d_4.1 (AA 3#7 3#8)))))))),?_⟩
 ac_nf;rcases hv with rfl|⟨d,ws,rfl,hd,hw,lw,t1,t2⟩
 ·rw[qF rfl];exact q H (AF.refl _)
 rw[qE (λz=>by cases z)];refine⟨_,.of (.lst hd),true,WM,?_⟩;rw[qE 0#1];refine⟨r,d,g,lo,j3,m,ws,rfl,ok,Ad.of hd,λH1 e1=>⟨Cj,?_⟩⟩;rw[qE (λz=>t1 (V.int.inj z))];refine⟨r',d,g,lo',tab',m',ws,rfl,ok'.same e1,Ad.of (e1 _ _ hd),λH2 e2=>⟨Cj,?_⟩⟩;rw[t2,qE (λz=>z rfl)];have e12:=e1.trans e2;refine⟨r,d,g,lo,j3,m,ws,rfl,ok.same e12,Ad.of (e12 _ _ hd),hw,lw,λH3 e3=>⟨_,rfl,?_⟩⟩;rw[qF rfl];have e13:=e12.trans e3;exact⟨r',d,g,lo',tab',m',ws,rfl,ok'.same e13,Ad.of (e13 _ _ hd),hw,lw,λH4 e4=>q H4 (e13.trans e4)⟩
theorem JN:AJ ["_law_first","_law_second","_law_third","_law_row","_law_signs","_law_both","_law_due","_law_small","_law_told","_law_word"] ["_law_first","_law_second","_law_third","_law_row"] (AH Yw):=CK
theorem aU(T:CI K mg t)(hB:DQ mg base):B3 P w K mg base 15 t.f_29 ["_law_first","_law_second","_law_third","_law_row"] (Mr t):=by
 refine Ap T.d_29.2 JN λvs H Q E h=>?_;obtain⟨r1,r2,r3,a,g,l1,t1,m1,l2,t2,m2,l3,t3,m3,ns,low,M,low',M',rfl,ok1,ok2,ok3,g5,s2,s3,nw,nw',sz,ha,hns,ln,tq,ts,q⟩:=h;symm
 refine⟨_,(AB (AK 4 JN (AR 4#9 2#4 AG (λ_ _=>rfl)))
  (AB (AK 5 JN (AM hr (Wz T) T.d_52.1 14#8))
  (AB (AK 6 JN (AM hr (aO T) T.d_13.1 (AA 8#9 (AA (AM hr (KP T) T.d_14.1 5#3) (AA (AM hr (KP T) T.d_14.1 3#8) AC)))))
  (AB (AK 7 JN (AM hr (KP T) T.d_14.1 (AA (DZ (AA 8#9 (A9 (AA (Bu CC rfl T.z_tuple ft (AA 19#7 AC)) AC)))) AC)))
  (AB (Ay (Af (XY hr.units) (AR 4#9 13#0 AG (λ_ _=>rfl)) 27#7 (AO _)) (AE (AN Fc)) Ae)
  (AB (Ay (Af Ck (AL BQ (AV 15#4 rfl T.z_len dC 27#6) 8#9) AG (AO _)) (AE (AN (Dy (AM hr (Y0 T hB) T.d_5.1 (AA 3#3 (AA 13#0 23#1))) (Eb (AM hr (Y0 T hB) T.d_5.1 (AA 13#0 (AA 3#7 23#1))))))) Ae)
  (AB (AK 8 JN (AM hr (W1 T) T.d_37.1 (AA 8#9 (AA (AR 4#9 3#3 AG (λ_ _=>rfl)) (AA (AM hr (W1 T) T.d_37.1 (AA 8#9 (AA (AR 4#9 2#4 AG (λ_ _=>rfl)) 17#1))) AC)))))
  (AB (Ay (PW.pt (Ea (Dx (C7 (AM hr (Vz T) T.d_4.1 (AA 3#3 (AA (pv 8) AC))))) (Ea (Dx (C7 (AM hr (Vz T) T.d_4.1 (AA 13#0 (AA (pv 8) AC))))) (EZ (Af CB (AM hr (P3 T) T.d_21.1 (AA 13#0 (AA (pv 8) AC))) AG (AO _)))))) (AE (AN Fc)) Ae)
  (AB (AK 9 JN (AM hr (M6 T hB) T.d_44.1 (AA 13#0 5#3)))
  (AB (Ay (PW.pt (Ea (Af HP (AM hr (M6 T hB) T.d_44.1 (AA 3#3 18#3)) Dw (AO _)) (EZ (Dx (C7 (AM hr (aR T) T.d_22.1 (AA (pv 9) (AA 3#3 (AA (DZ (AA 8#9 (A9 (AA 27#7 AC)))) AC))))))))) (AE (AN Fc)) Ae)
  (AB (Ay (PW.pt (Hr (Af HP (pv 9) Dw (AO _)) (Hr (Af RY (AL BQ (AV 15#4 rfl T.z_len dC (AA (AM hr (KP T) T.d_14.1 3#8) AC)) 8#9) AG (AO _)) (HM (C7 (AM hr (aK T hB) T.d_61.1 3#8)))))) (AE (AN Fc)) Ae)
  (AE (AN (ZC (DG HP (AM hr (M6 T hB) T.d_44.1 (AA 13#0 7#7)) Dw (AO _)) (Eb (DG NH (AM hr (M6 T hB) T.d_44.1 (AA 3#3 7#7)) Dw (AO _))))))))))))))))),?_⟩
 have g2:=ok1.g2;refine A6.el ok1.v λv1 k1 k1'=>?_;refine A6.el ok2.v λv2 k2 k2'=>?_;nofun;refine (Ci (Ai.of k1) rfl (hN _ _ ?_));clear hN N;obtain⟨lj,Mj,nj⟩:=Em g (low+low') (B1 g 26#6 M (Cn g l2 t2 m2 low' M') (M+M'-1)) (M+M'-1);nofun;refine⟨r1,r2,g,l1,t1,m1,l2,t2,m2,low,M,low',M',rfl,ok1,ok2,nw,nw',λz=>qG sz 0#0,λ_ lx Mx nx rj H1 e1 okj=>hN _ _ ?_⟩;clear hN N;obtain⟨rfl,rfl⟩:=nj.uniq nx;clear nx;have M1:=nw.one;have M1':=nw'.one;have lb1:=Aq g2 l1 t1 m1 low M;have lb2:=Aq g2 l2 t2 m2 low' M';have jis:=RG g2 ok1.len ok1.m1 ok1.tb ok2.len ok2.m1 ok2.tb nw nw' nj;have bb1:=GP g2 l1 ok1.tb m1 low M;have bb2:=GP g2 l2 ok2.tb m2 low' M';have jlt:=Lr g2 26#6 M bb2 (M+M'-1);obtain⟨JT,hJT⟩:∃JT,JT=B1 g 26#6 M (Cn g l2 t2 m2 low' M') (M+M'-1):=⟨_,rfl⟩;have lJT:(JT.length:Int)=g^(M+M'-1):=by rw[hJT];exact B4 g2 _ _ _ _
 nofun;refine⟨r2,g,l2,l2,t2,m2,low',M',rfl,ok2.same e1,nw',λp2 H2 e2 hp2=>⟨r1,g,l1,l1,t1,m1,low,M,rfl,ok1.same 23#7,nw,λp1 H3 e3 hp1=>?_⟩⟩;refine⟨p1,p2,g,_,M,_,M',rfl,g2,ok1.g9,hp1,e3 _ _ hp2,lb1,lb2,M1,M1',bb1,sz,λd H4 n4=>hN _ _ ?_⟩;clear hN N;rw[<-hJT]at n4 jlt;have e14:=((e1.trans e2).trans e3).trans n4.1;have okj4:=okj.same ((e2.trans e3).trans n4.1)
 have Mx8:M+M'-1<=8:=by
  by_cases z:M+M'-1<=8
  ·exact z
  ·exfalso;have a:=BL g2 (show 9<=M+M'-1 by lia)
   have b:512<=g^9:=by
    obtain z|z|z|z:g=2\/g=3\/g=4\/g=5:=by lia
    all_goals (rw[z];decide)
   lia
 nofun;refine⟨_,.inl ⟨Ad.of n4.2.2,λl5 hl5=>⟨by decide,λp5 hp5=>?_⟩⟩⟩;have f5:=AF.new hl5 (.tup (JT.map 2#1));have f6:=AF.new hp5 (.tup [.int g,.int 0,.ref l5]);rw[<-hJT]at nj;refine⟨p5,g,0,low+low',JT,M+M'-1,lj,Mj,rfl,⟨⟨l5,AD,f6 _ _ AD⟩,g2,ok1.g9,by lia,Mx8,lJT,sz,jlt⟩,nj,λd6 H6 e6 hd6=>hN _ _ ?_⟩;clear hN N;have e46:=(f5.trans f6).trans e6;have e16:=e14.trans e46;rw[<-hJT]at okj4 jis;have okj6:=okj4.same e46;clear okj4 okj e46 f5 f6 hp5 hl5 n4 hp1 hp2 e3 e2 e1 e6 e14;obtain⟨TJ,hTJ⟩:∃TJ,TJ=Cn g (low+low') JT (M+M'-1) lj Mj:=⟨_,rfl⟩;rw[<-hTJ]at hd6 okj6 jis;have njj:=nj.again g2 lJT;rw[<-hTJ]at njj;refine A6.el okj6.v λvj kj kj'=>?_;nofun;refine (Ci (Ai.of kj) rfl ⟨_,.inl ⟨Ad.of hd6,λl7 hl7=>?_⟩⟩);have e7:=AF.new hl7 (.tup 27#1);have e17:=e16.trans e7;have okj7:=okj6.same e7;refine⟨_,_,Oc (e7 _ _ kj'),Oc AD,Kf TJ,Kf TJ,QS TJ,_,rfl,?_⟩;rw[Uz];rw[qE 0#1];refine hN _ _ ?_;clear hN N;have hd7:=e7 _ _ hd6;generalize AU H6 l7 (.tup 27#1)=H7 at e7 e17 okj7 hd7⊢;have kp7:Dv t H H7:=Dv.same ⟨λ_ _ _ h=>h,tq,ts⟩ e17;clear e7 hl7 kj kj' okj6 hd6 e16;have lTJ:=okj7.len;have Mj1:=okj7.m1;refine Dt g2 l2 (j3:=t2) (m:=m2) λlf2 tf2 mf2 fw2=>?_;refine Dt g2 l3 (j3:=t3) (m:=m3) λlf3 tf3 mf3 fw3=>?_;refine Dt g2 lj (j3:=TJ) (m:=Mj) λlfj tfj mfj fwj=>?_;have fj:=KO ok1.g9 njj fwj;have s2f:=HE g2 ok1.g9 ok2.len fw2 s2;have s3f:=HE g2 ok1.g9 ok3.len fw3 s3;obtain⟨lowj,MMj,nwj⟩:=Em g lj TJ Mj;obtain⟨low3,M3,nw3⟩:=Em g l3 t3 m3;nofun
 have eg:g^Mj/g=g^(Mj-1):=by obtain⟨k,rfl⟩:∃k,Mj=k+1:=⟨Mj-1,by lia⟩;rw[dD,fM _ 0#0,eU]
 refine⟨_,.inl (Ad.of hd7),by lia,by lia,?_⟩;rw[cO,lTJ,eg]
 by_cases big:9<g^(Mj-1)
 ·rw[qF big];have bigf:9<g^(mfj-1):=by lia
  refine⟨r2,rj,g,l2,t2,m2,lj,TJ,Mj,low',M',lowj,MMj,lf2,tf2,mf2,lfj,tfj,mfj,1,rfl,ok2.same e17,okj7,nw',nwj,fw2,fwj,kp7.q,.inr ⟨by decide,.inr bigf⟩,λH8 e8=>⟨true,rfl,?_⟩⟩;rw[qF rfl];exact⟨rj,r3,g,lj,TJ,Mj,l3,t3,m3,lowj,MMj,low3,M3,lfj,tfj,mfj,lf3,tf3,mf3,1,rfl,okj7.same e8,ok3.same (e17.trans e8),nwj,nw3,fwj,fw3,kp7.q.same e8,.inr ⟨by decide,.inl bigf⟩,λH9 _=>q H9⟩
 rw[qE big];refine hN _ _ ?_;clear hN N;have sjf:g^(mfj-1)<=9:=fj.mpr 0#0;have ok17:=ok1.same e17;have ok27:=ok2.same e17;have ok37:=ok3.same e17;have T2:=e17 _ _ k2;have T2':=e17 _ _ k2';have T1:=e17 _ _ k1;have T1':=e17 _ _ k1';nofun;refine (Ci (Ai.of T2) rfl (Ci (Ai.of T1) rfl ⟨v1,a,g,t1,m1,ns,rfl,g2,ok1.g9,T1',ok1.len,ok1.m1,ok1.m8,Ad.of (e17 _ _ ha),hns,ln,λp8 H8 n8=>?_⟩));have b8:=Ha g2 ok1.tb m1 ns;have c8:(A7 g t1 m1 ns).length<=100:=by rw[A8];have:=ok1.m1;lia
 refine⟨v2,p8,g,t2,m2,_,rfl,g2,ok1.g9,n8.1 _ _ T2',ok2.len,ok2.m1,ok2.m8,Ad.of n8.2.2,b8,c8,λp9 H9 n9=>hN _ _ ?_⟩;clear hN N;have b9:=Ha g2 ok2.tb m2 26#9;have c9:(A7 g t2 m2 26#9).length<=5000:=by rw[A8];have:=ok2.m1;lia
 have tJ:1<=Cs g.toNat TJ (A7 g t2 m2 26#9):=by rw[<-Vv g2 ok1.m1 ok2.m1 hns];exact Cq g2 (B4 g2 ..) (by have:=ok1.m1;have:=ok2.m1;lia) lTJ Mj1 (λx hx=>(jis x hx).symm) (Ms g2 (B4 g2 ..) (by have:=ok1.m1;have:=ok2.m1;lia) hns)
 generalize A7 g t2 m2 26#9=tol at n9 b9 c9 tJ;have kp9:=(kp7.same n8.1).same n9.1;have e79:=n8.1.trans n9.1;have okj9:=okj7.same e79;have h9:=n9.2.2;have hd9:=e79 _ _ hd7;clear n9 n8 b8 c8 e79 kp7 okj7 hd7;nofun;refine⟨r2,p9,g,l2,t2,m2,tol,rfl,kp9.ok ok2,Ad.of h9,b9,c9,λH10 e10=>⟨true,rfl,?_⟩⟩;rw[qE 0#1];refine⟨rj,p9,g,lj,TJ,Mj,tol,rfl,okj9.same e10,Ad.of (e10 _ _ h9),b9,c9,λH11 e11=>⟨true,rfl,?_⟩⟩;rw[qE 0#1];have e911:=e10.trans e11;refine⟨rj,p9,g,lj,TJ,Mj,tol,rfl,okj9.same e911,Ad.of (e911 _ _ h9),λH12 e12=>⟨Cj,?_⟩⟩;rw[qE (λz=>by have:=V.int.inj z;lia)];refine hN _ _ ?_;clear hN N;have e912:=e911.trans e12;have kp12:=kp9.same e912;have okj':=okj9.same e912;have hd':=e912 _ _ hd9;have ok1':=kp12.ok ok1;have ok2':=kp12.ok ok2;have ok3':=kp12.ok ok3;have kb:Dv t H12 H12:=⟨λ_ _ _ h=>h,kp12.q,kp12.s⟩;clear e912 e911 e12 e11 e10 hd9 h9 okj9 kp9 tJ c9 b9 ok17 ok27 ok37 T1 T1' T2 T2' kp12 e17;have m11:=ok1.m1;have m21:=ok2.m1;have subj:∀row,1<=Cs g.toNat TJ row->1<=Cs g.toNat t2 row:=λrow h=>UI g2 ok1.len ok2.len m11 m21 ok1.tb (Cq g2 lTJ Mj1 (B4 g2 ..) 0#0 jis h)
 have onj:ag g t1->∀row,1<=Cs g.toNat t2 row->1<=Cs g.toNat TJ row:=λon row h=>Cq g2 (B4 g2 ..) 0#0 lTJ Mj1 (λx hx=>(jis x hx).symm) (Vm g2 ok1.len ok2.len m11 m21 on h)
 have f2:=E8 g2 ok2.len m21 fw2;have fJ:=E8 g2 lTJ Mj1 fwj;have f3:=E8 g2 ok3.len ok3.m1 fw3;have nz:∀{j3 row:qX},¬1<=Cs g.toNat j3 row->Cs g.toNat j3 row=0:=λ{j3 row} h=>by have:=EG g.toNat j3 row;lia
 clear ok1 ok2 ok3 jis tq ts ha hns ln k1 k1' k2 k2' hJT lJT jlt nj njj bb1 bb2 lb1 lb2;refine B2 (λσ HX=>∃v,σ=[some (.ref r1),some (.ref r2),some (.ref r3),some 2#0,some 5#7,some (.ref rj),some 2#3,some (.ref d6),some (.ref p9),some v]/\Dv t H12 HX/\(v=.non\/∃(e:qS) (ws:qX),v=.ref e/\HX e=some 20#8/\(∀n∈ws,0<=n/\n<g)/\19#1<=5000/\1<=Cs g.toNat t2 ws/\Cs g.toNat TJ ws=0)) (λN hN=>?_) ?_
 ·ac_nf;refine⟨rj,r2,g,lj,TJ,Mj,lfj,tfj,mfj,l2,t2,m2,lf2,tf2,mf2,rfl,okj',fwj,ok2',fw2,kb.q,λ_ _=>⟨λ_ HX e tb=>hN _ _ ⟨_,rfl,kb.pairs T.ne_2_9 e tb,.inl rfl⟩,λe ws HX ex tb _ he hw lw h1 h2=>hN _ _ ⟨_,rfl,kb.pairs T.ne_2_9 ex tb,.inr ⟨e,ws,rfl,he,hw,by lia,(f2 ws).mp h1,nz λz=>?_⟩⟩⟩,λz=>qG z 0#0⟩;have:=(fJ ws).mpr z;lia
 rintro _ hGo σ HX ⟨v,rfl,kX,hv⟩;ac_rfl;nofun;refine⟨r2,rj,g,l2,t2,m2,lf2,tf2,mf2,lj,TJ,Mj,lfj,tfj,mfj,rfl,kX.ok ok2',fw2,kX.ok okj',fwj,kX.q,λ_ _=>⟨λ_ H13 e13 tb13=>?_,λe ws H13 e13 tb13 _ he hw lw h1 h2=>qG ((f2 ws).mpr (subj ws ((fJ ws).mp h1))) 0#0⟩,λz=>qG z 0#0⟩;have k13:=kX.pairs T.ne_2_9 e13 tb13;have hv13:v=.non\/∃(e:qS) (ws:qX),v=.ref e/\H13 e=some 20#8/\(∀n∈ws,0<=n/\n<g)/\19#1<=5000/\1<=Cs g.toNat t2 ws/\Cs g.toNat TJ ws=0:=hv.imp_right λ⟨e,ws,z1,z2,z3⟩=>⟨e,ws,z1,e13.get kX.q z2 (λ_ z=>by cases z),z3⟩
 clear hv e13 tb13 kX
 try dsimp only
 rw[qE (λz=>z rfl)];refine⟨_,.inl ⟨Ad.of (k13.lst hd'),λl14 hl14=>⟨by decide,λp14 hp14=>?_⟩⟩⟩;have f14:=AF.new hl14 (.tup 27#1);have f15:=AF.new hp14 (.tup [.int g,.int 0,.ref l14]);have f1415:=f14.trans f15;have okz:Aa (AU (AU H13 l14 (.tup 27#1)) p14 (.tup [.int g,.int 0,.ref l14])) p14 g 0 TJ Mj:=⟨⟨l14,AD,f15 _ _ AD⟩,g2,okj'.g9,Mj1,okj'.m8,lTJ,okj'.sz,okj'.tb⟩;generalize AU (AU H13 l14 (.tup 27#1)) p14 (.tup [.int g,.int 0,.ref l14])=H15 at f1415 okz⊢;have k15:=k13.same f1415;refine⟨r2,p14,v,g,l2,t2,m2,0,TJ,Mj,rfl,k15.ok ok2',okz,hv13.imp_right λ⟨e,ws,z1,z2,z3,z4,z5,z6⟩=>⟨e,ws,z1,f1415 _ _ z2,z3,z4,by lia,z6⟩,λH16 e16=>⟨true,rfl,?_⟩⟩;rw[qE 0#1];refine hN _ _ ?_;clear hN N;have k16:=k15.same e16;have hv16:v=.non\/∃(ws:qX),(∃e,v=.ref e)/\1<=Cs g.toNat t2 ws/\Cs g.toNat TJ ws=0:=hv13.imp_right λ⟨e,ws,z1,z2,z3,z4,z5,z6⟩=>⟨ws,⟨e,z1⟩,z5,z6⟩
 clear hv13 k15 okz e16 f1415 k13 f14 f15;refine B2 (λσ HX=>σ=[some (.ref r1),some (.ref r2),some (.ref r3),some 2#0,some 5#7,some (.ref rj),some 2#3,some (.ref d6),some (.ref p9),some v]/\Dv t H12 HX) (λN hN=>?_) ?_
 ·ac_nf;rcases hv16 with rfl|⟨ws,⟨e,rfl⟩,z1,z2⟩
  ·rw[qE (λz=>z rfl)];exact hN _ _ ⟨rfl,k16⟩
  rw[qF (λz=>by cases z)];refine⟨r1,g,l1,l1,t1,m1,low,M,rfl,k16.ok ok1',nw,λp17 H17 e17 hp17=>⟨p17,rfl,_,.inl (Ad.of hp17),by lia,by lia,?_⟩⟩;have k17:=k16.same e17
  rw[cO,Aq g2 l1 t1 m1 low M,show g^M/g=g^(M-1) by obtain⟨k,rfl⟩:∃k,M=k+1:=⟨M-1,by lia⟩;rw[dD,fM _ 0#0,eU]]
  by_cases sm:g^(M-1)<=9
  ·rw[qF sm];refine Dt g2 l1 (j3:=t1) (m:=m1) λlf1 tf1 mf1 fw1=>?_;have s1f:=(KO ok1'.g9 nw fw1).mpr sm;refine⟨r1,g,l1,t1,m1,lf1,tf1,mf1,rfl,k17.ok ok1',fw1,k17.s,λ_ b hb H18 e18 tb18=>⟨b,rfl,?_⟩,λz=>qG z 0#0⟩
   have b0:b=false:=by
    cases hbv:b with
    |false=>rfl
    |true =>
     have on:=onj (λrow hr=>(E8 g2 ok1'.len m11 fw1 row).mp (hb.mp hbv row hr)) ws z1;lia
   subst b0;rw[qE 0#1];exact hN _ _ ⟨rfl,k17.sets T.ne_2_9 e18 tb18⟩
  ·rw[qE sm];exact hN _ _ ⟨rfl,k17⟩
 rintro _ hGo σ H17 ⟨rfl,k17⟩;ac_rfl;ac_nf;refine⟨rj,r3,g,lj,TJ,Mj,lfj,tfj,mfj,l3,t3,m3,lf3,tf3,mf3,rfl,k17.ok okj',fwj,k17.ok ok3',fw3,k17.q,λ_ _=>⟨λsub H18 e18 tb18=>?_,λe ws H18 e18 tb18 _ he hw lw h1 h2=>?_⟩,λz=>qG z 0#0⟩
 ·have k18:=k17.pairs T.ne_2_9 e18 tb18
  try dsimp only
  rw[qE (λz=>z rfl)];refine⟨r2,r3,g,l2,t2,m2,lf2,tf2,mf2,l3,t3,m3,lf3,tf3,mf3,rfl,k18.ok ok2',fw2,k18.ok ok3',fw3,k18.q,λ_ _=>⟨λ_ H19 e19 tb19=>?_,λe ws H19 e19 tb19 _ he hw lw h1 h2=>qG ((f2 ws).mpr (subj ws ((fJ ws).mp (sub ws h1)))) 0#0⟩,λz=>qG z 0#0⟩
  try dsimp only
  rw[qH rfl];exact q H19
 ·try dsimp only
  rw[qF (λz=>by cases z)];exact q H18
theorem FM:AJ ["_law_script","_law_cell","_law_shapes","_law_shape","_law_signs","_law_first","_law_second","_law_third","_law_row","_law_size"] ["_law_script"] (AH Vr):=CK
theorem aV{f:qS}{fd:FuncData}(T:CI K mg t)(F:M9 K "law" "law" Vr f fd)(hB:DQ mg base):FC P w K mg base 13#8 16 f fd ["_law_script"] (Ko K [t.p_9,t.p_2]):=by
 refine F.okY FM λvs H Q E h=>?_;obtain⟨a,ns,rfl,hS,hn,hT,q⟩:=h;symm;refine Zi ?_
 refine⟨_,(CF (Cz (i:=1) FM.nd rfl 4#6 (.of (AM hr (Vx T) T.d_3.1 (AA 2#4 23#1))) rfl (by first|exact .inl rfl|exact .inr rfl))
  (CF (Cz (i:=2) FM.nd rfl 4#6 (On (BZ 24#5 (BZ 24#5 (BZ 24#5 (BZ 24#5 (BZ 24#5 (BZ 24#5 (BZ 24#5 (BZ 24#5 (BZ 24#5 Bp)))))))))) rfl (by first|exact .inl rfl|exact .inr rfl))
  (CF (Cz (i:=3) FM.nd rfl 4#6 (Xc 26#3 (X7 Rh (.of 3#7) (On (BZ 24#5 (BZ 24#5 (BZ 24#5 (BZ 24#5 Bp)))))) (.of (AL BF 3#3 AG)) (λ_ _=>rfl)) rfl (by first|exact .inl rfl|exact .inr rfl))
  (CF (Cz (i:=4) FM.nd rfl 27#2 (.of (AR 4#9 7#9 AG (λ_ _=>rfl))) rfl (by first|exact .inl rfl|exact .inr rfl))
  (CF (Cz (i:=5) FM.nd rfl 4#6 (.of (AM hr (UX T) T.d_30.1 (AA 8#9 (AA (AR 4#9 7#9 AG (λ_ _=>rfl)) (AA (AM hr (Vx T) T.d_3.1 (AA 2#4 23#1)) AC))))) rfl (by first|exact .inl rfl|exact .inr rfl))
  (CF (Cz (i:=6) FM.nd rfl 4#6 (.of (AM hr (UX T) T.d_30.1 (AA 8#9 (AA (AR 4#9 7#9 AG (λ_ _=>rfl)) (AA (AM hr (Vx T) T.d_3.1 (AA 2#4 23#1)) AC))))) rfl (by first|exact .inl rfl|exact .inr rfl))
  (CF (Cz (i:=7) FM.nd rfl 4#6 (.of (AM hr (UX T) T.d_30.1 (AA 8#9 (A9 (AA (AM hr (Vx T) T.d_3.1 (AA 2#4 23#1)) AC))))) rfl (by first|exact .inl rfl|exact .inr rfl))
  (CF (Cz (i:=8) FM.nd rfl 4#6 (.of (AL Rh (Ct [(4,"_law_signs")] [("_law_signs",_)] (JF K (AM hr (W0 T) T.d_15.1 (AA 3#3 23#1))) (λ_ _ _ _=>Bm) (λ_ _ _ _=>(AL BF 2#4 3#3))) (Ct [(4,"_law_signs")] [("_law_signs",_)] (JF K (C9 D0 2#4 (Cw AG) (Cw AG))) (λ_ _ _ _=>Bm) (λ_ _ _ _=>(AL BF 2#4 3#3))))) rfl (by first|exact .inl rfl|exact .inr rfl))
  (CF (Cz (i:=9) FM.nd rfl 4#6 (.of (AL BQ (AL B7 (AV 15#4 rfl T.z_len dC (AA (AM hr (KP T) T.d_14.1 18#3) AC)) (AV 15#4 rfl T.z_len dC (AA (AM hr (KP T) T.d_14.1 (AA 19#7 AC)) AC))) 8#9)) rfl (by first|exact .inl rfl|exact .inr rfl))
  (CF (Xd (Af Ck (pv 9) AG (AO _)) (Ol (.of (AN (AM hr (Y0 T hB) T.d_5.1 (AA 13#0 (AA 19#7 23#1)))))) U5)
  (Ol (.of (AN (AM hr (aU T hB) T.d_29.1 (AA 13#0 (AA 19#7 (AA 20#0 (AA (pv 8) AC)))))))))))))))))),?_⟩
 have ts:=Au.start (pos:=LP) (q:=DD "sets_reached") (hT _ ce);have tq:=Au.start (pos:=LQ) (q:=DD "pairs_reached") (hT _ (cZ _ ce));nofun;refine⟨a,ns,0,rfl,hS,hn,hN _ _ ?_⟩;clear hN N;generalize ns.getD 0 0=c0;have z0:=fY c0 (show (13:Int)≠0 by decide);have z1:=fH c0 (show (0:Int)<13 by decide);refine B2 (λσ HX=>∃(pA:qS) (ps:List qS),σ=[some 2#0,some (.int c0),some (.ref pA),none,none,none,none,none,none,none]/\AF H HX/\HX pA=some 9#1/\Ep HX ps K3) (λN hN=>?_) ?_
 ·show JP (QD (L5 K3)) _ _ _ _;exact Xl (L6 0#1 0#1 λps H1 e1 hv p hp=>hN _ _ ⟨p,ps,rfl,e1.trans (AF.new hp _),AD,hv.same (AF.new hp _)⟩)
 rintro _ hGo σ H1 ⟨pA,ps,rfl,e1,hA,vA⟩;ac_rfl;refine B2 (λσ HX=>∃(b:qS) (g:Int) (m m':Nat),σ=[some 2#0,some (.int c0),some (.ref pA),some 9#2,none,none,none,none,none,none]/\AF H HX/\HX b=some (.tup [.int g,.int ((m:Nat):Int),.int ((m':Nat):Int)])/\Br g m m') (λN hN=>?_) ?_
 ·show JP (UY (Rb K) (UY XI (RN 2) (QD (L5 Pn))) _) _ _ _ _;refine Xk ⟨_,rfl,L6 0#1 0#1 λqs H2 e2 hv p hp=>?_⟩;have f2:=AF.new hp 26#0;have e12:=e2.trans f2;have al:=Ep.app (vA.same e12) (hv.same f2);have nl:=al.n;refine Oe (e12 _ _ hA) AD (by rw[cO,cO,vA.n,hv.n];decide) λp3 H3 e3 _ hp3=>?_;rw[<-cX]at hp3;obtain⟨k,hk⟩:∃k:Nat,(k:Int)=c0%13:=⟨(c0%13).toNat,by lia⟩;have kl:k<13:=by lia
  obtain⟨b,hb⟩:∃b,(ps++qs)[k]?=some b:=⟨_,cc (by rw[nl];exact kl)⟩;obtain⟨g,m,m',hw,hs⟩:=Mt k kl;refine⟨_,rfl,_,_,rfl,rfl,(by show (0:Int)<13;decide),Jc (v:=.ref b) (Ad.of hp3) ?_ ?_⟩
  ·rw[<-hk];exact Dz (by rw[cT,hb];rfl)
  ·exact hN _ _ ⟨b,g,m,m',rfl,(e1.trans e12).trans e3,e3 _ _ (al.e k b _ hb hw),hs⟩
 rintro _ hGo σ H2 ⟨b,g,m,m',rfl,e2,hb,g2,g5,m1,m3,m1',m3',sz,sz',s9⟩;ac_rfl;nofun;refine (Ci (Ai.of hb) rfl (hN _ _ ?_));clear hN N;nofun;refine (Ci (Ai.of hb) rfl ⟨a,ns,1,rfl,e2.seq hS,hn,g,m,_,rfl,g2,g5,m1,m3,sz,λr1 l1 t1 H3 e3 ok1=>hN _ _ ?_⟩);clear hN N;have e23:=e2.trans e3;nofun;refine (Ci (Ai.of (e3 _ _ hb)) rfl ⟨a,ns,2,rfl,e23.seq hS,hn,g,m',_,rfl,g2,g5,m1',m3',sz',λr2 l2 t2 H4 e4 ok2=>hN _ _ ?_⟩);clear hN N;have e24:=e23.trans e4;nofun;refine⟨a,ns,3,rfl,e24.seq hS,hn,g,2,_,rfl,g2,g5,by decide,by decide,?_,λr3 l3 t3 H5 e5 ok3=>hN _ _ ?_⟩
 ·rw[dD,dD,dP,eJ];exact fe (iA g5 g5 0#0 0#1) 0#1
 clear hN N;have e25:=e24.trans e5;have ok1:=ok1.same (e4.trans e5);have ok2:=ok2.same e5;refine B2 (λσ HX=>∃(p:qS) (us:qX),σ=[some 2#0,some (.int c0),some (.ref pA),some 9#2,some 5#7,some (.ref r1),some (.ref r2),some (.ref r3),some 1#9,none]/\AF H5 HX/\HX p=some (.lst (us.map 2#1))/\(∀n∈us,0<=n/\n<g)/\10#2<=100) (λN hN=>?_) ?_
 ·refine⟨_,rfl,_,7,rfl,by decide,by decide,λp6 H6 xs xl _ e6 hp6' hp6=>⟨p6,rfl,⟨_,Ad.of hp6⟩,λD hD=>?_⟩⟩;refine Bj (xs:=xs.map 2#1) (λi j6 Hx=>JO g i j6/\AF H6 Hx/\Hx D=some 4#8) ⟨JO.nil,AF.new hD _,AD⟩ (λi j6 Hx _ z=>Ad.of (z.2.1 _ _ hp6)) ?_ ?_
  ·refine DE ?_;rintro i v _ hGo j6 Hx hv ⟨sg,ex,hDx⟩;ac_rfl;obtain⟨x,hx,rfl⟩:=Bz hv;have xi:=(cP.mp hx).1;ac_nf;exact⟨by lia,hDx,sg.len (by rw[xl]at xi;have:(7:Int).toNat=7:=rfl;lia),sg.snoc g2 _,ex.into hD,AD⟩
  refine EO ?_;rintro _ hGo j6 H7 ⟨⟨us,rfl,ul,ub⟩,e7,h7⟩;ac_rfl;clear hGo;rw[cO,xl]at ul;have e67:=e6.trans e7;refine⟨_,rfl,_,rfl,_,rfl,?_⟩;refine FS ((e25.trans e67).seq hS) λp8 H8 e8 _ h8=>⟨p8,rfl,⟨_,Ad.of h8⟩,λD2 hD2=>?_⟩
  rw[IF]at h8
  have cl:(JV ns (some 4) (some 62)).length<=63:=by unfold JV;rw[dI,dq];lia
  refine Bj (xs:=(JV ns (some 4) (some 62)).map 2#1) (λi j6 Hx=>JO g i j6/\AF H8 Hx/\Hx D2=some 4#8) ⟨JO.nil,AF.new hD2 _,AD⟩ (λi j6 Hx _ z=>Ad.of (z.2.1 _ _ h8)) ?_ ?_
  ·refine DE ?_;rintro i v _ hGo j6 Hx hv ⟨sg,ex,hDx⟩;ac_rfl;obtain⟨x,hx,rfl⟩:=Bz hv;have xi:=(cP.mp hx).1;ac_nf;exact⟨by lia,hDx,sg.len 0#0,sg.snoc g2 _,ex.into hD2,AD⟩
  refine EO ?_;rintro _ hGo j6 H9 ⟨⟨us',rfl,ul',ub'⟩,e9,h9⟩;ac_rfl;clear hGo;rw[cO]at ul';have e89:=e8.trans e9;refine Oe (e89 _ _ h7) h9 (by rw[cO,cO,ul,ul'];have:(7:Int).toNat=7:=rfl;lia) λp10 H10 e10 _ hp10=>?_;rw[<-cX]at hp10;refine hN _ _ ⟨p10,us++us',rfl,(e67.trans e89).trans e10,hp10,λn hn=>(cV.mp hn).elim (ub n) (ub' n),?_⟩;rw[cR,ul,ul'];have:(7:Int).toNat=7:=rfl;lia
 rintro _ hGo σ H6 ⟨p,us,rfl,e6,hp,hus,lus⟩;ac_rfl;have e26:=e25.trans e6;have ok1:=ok1.same e6;have ok2:=ok2.same e6;have ok3:=ok3.same e6;obtain⟨low,M,nw⟩:=Em g l1 t1 m;obtain⟨low',M',nw'⟩:=Em g l2 t2 m';nofun;have M1:=nw.one;have M1':=nw'.one;have Mm:=nw.small m1;have Mm':=nw'.small m1';have lb1:=Aq g2 l1 t1 m low M;have lb2:=Aq g2 l2 t2 m' low' M';have pM:=RW.Ab g2 M;have pM':=RW.Ab g2 M';have qM:g^M<=125:=fe (BL g2 Mm) sz;have qM':g^M'<=125:=fe (BL g2 Mm') sz';refine⟨r1,g,l1,l1,t1,m,low,M,rfl,ok1,nw,λp7 H7 e7 hp7=>⟨p7,rfl,_,.inl (Ad.of hp7),r2,g,l2,l2,t2,m',low',M',rfl,ok2.same e7,nw',λp8 H8 e8 hp8=>⟨p8,rfl,_,.inl (Ad.of hp8),.inr ⟨?_,?_⟩,by lia,by lia,hN _ _ ?_⟩⟩⟩
 ·rw[cO,lb2];lia
 ·rw[cO,lb2];lia
 clear hN N
 rw[cO,cO,lb1,lb2,show g^M*g^M'/g=g^(M+M'-1) by rw[<-Int.pow_add,show M+M'=M+M'-1+1 by lia,dD,fM _ 0#0,eU]]
 have e68:=e7.trans e8;have e28:=e26.trans e68;have ok1:=ok1.same e68;have ok2:=ok2.same e68;have ok3:=ok3.same e68;refine Dt g2 l1 (j3:=t1) (m:=m) λlf1 tf1 mf1 fw1=>?_;refine Dt g2 l2 (j3:=t2) (m:=m') λlf2 tf2 mf2 fw2=>?_;ac_nf
 by_cases big:256<g^(M+M'-1)
 ·rw[qF big];exact⟨r1,r2,g,l1,t1,m,l2,t2,m',low,M,low',M',lf1,tf1,mf1,lf2,tf2,mf2,0,rfl,ok1,ok2,nw,nw',fw1,fw2,tq.same e28,.inl ⟨rfl,big⟩,λH' _=>q H'⟩
 rw[qE big];have g1:g^(2-1)=g:=by rw[show 2-1=0+1 from rfl,dD,dP,eJ]
 exact⟨r1,r2,r3,p,g,l1,t1,m,l2,t2,m',l3,t3,2,us,low,M,low',M',rfl,ok1,ok2,ok3,g5,s9,by lia,nw,nw',by lia,e68 _ _ hp,hus,lus,tq.same e28,ts.same e28,q⟩
end
theorem Y1{l:PySem.W.OpenLaw}{w:qV}{K:qW}{h:Heap}{mg:Str->Option qR}{fa c_36 c_49 c_56 c_50 c_35 c_40 f_39 f_42 f_26 f_6 f_33 f_48 f_25 f_28 f_12 f_16 f_62 f_54 f_32 f_34 f_58 f_51 f_38 f_0 f_31 f_53 f_47 f_57 f_59 f_27 f_41 f_11 f_45 f_43 f_20 f_7 f_1 f_19 f_10 f_2 f_8 f_44 f_60 f_64 f_55 f_46 f_17 f_52 f_9 f_18 f_61 f_24 f_3 f_15 f_23 f_30 f_14 f_13 f_37 f_21 f_5 f_4 f_22 f_29 f_63 cc_9 p_9 cc_2 p_2:qS}{g_LONGEST_TABLE g_MOST_NODES:Tok}(X:K.In h)(G:h.Ns mainGlobals mg)(hfa:mg "law"=some 22#4)(n_36:PySem.W.nsIn K mainGlobals "RowError"=some (some (.ref c_36)))(n_49:PySem.W.nsIn K mainGlobals "NoRule"=some (some (.ref c_49)))(n_56:PySem.W.nsIn K mainGlobals "NoRow"=some (some (.ref c_56)))(n_50:PySem.W.nsIn K mainGlobals "NoSuch"=some (some (.ref c_50)))(n_35:PySem.W.nsIn K mainGlobals "NoWindow"=some (some (.ref c_35)))(n_40:PySem.W.nsIn K mainGlobals "TooWide"=some (some 17#2))(h_39:AW K "is_whole" YA f_39)(h_42:AW K "is_sign" YB f_42)(h_26:AW K "check_word" YC f_26)(h_6:AW K "check_length" bP f_6)(h_33:AW K "number_of" YD f_33)(h_48:AW K "word_of" YE f_48)(h_25:AW K "check_head" YF f_25)(h_28:AW K "places_for" YG f_28)(h_12:AW K "table_length" YH f_12)(h_16:AW K "check_table" YI f_16)(h_62:AW K "rule" YJ f_62)(h_54:AW K "places" YK f_54)(h_32:AW K "next_sign" YL f_32)(h_34:AW K "told_from" YM f_34)(h_58:AW K "heads" YN f_58)(h_51:AW K "counts" YO f_51)(h_38:AW K "counting" YQ f_38)(h_0:AW K "sign_or_nought" bQ f_0)(h_31:AW K "by_window" YR f_31)(h_53:AW K "narrow" YS f_53)(h_47:AW K "widened" YT f_47)(h_57:AW K "frame" YU f_57)(h_59:AW K "nodes" YV f_59)(h_27:AW K "everything" YW f_27)(h_41:AW K "ends_of" YX f_41)(h_11:AW K "single_steps" YY f_11)(h_45:AW K "step_by" YZ f_45)(h_43:AW K "reached" Ya f_43)(h_20:AW K "turned_back" Yb f_20)(h_7:AW K "fewest_steps" bR f_7)(h_1:AW K "check_as_many" bS f_1)(h_19:AW K "start_pairs" Yc f_19)(h_10:AW K "signed_steps" Yd f_10)(h_2:Kn K "pairs_reached" bT f_2 cc_2 p_2)(h_8:AW K "nearer_steps" bU f_8)(h_44:AW K "reaches" Ye f_44)(h_60:AW K "lead" Yf f_60)(h_64:AW K "led" Yg f_64)(h_55:AW K "shares" Yh f_55)(h_46:AW K "ways_on" Yi f_46)(h_17:AW K "many_before" Yj f_17)(h_52:AW K "joined" Yk f_52)(h_9:Kn K "sets_reached" bW f_9 cc_9 p_9)(h_18:AW K "reach_paper" Yl f_18)(h_61:AW K "onto" Ym f_61)(h_24:AW K "_law_whole" Yn f_24)(h_3:AW K "_law_cell_at" be f_3)(h_15:AW K "_law_stream" Yo f_15)(h_23:AW K "_law_power" Yp f_23)(h_30:AW K "_law_rule" Yq f_30)(h_14:AW K "_law_narrow" Yr f_14)(h_13:AW K "_law_behind" Ys f_13)(h_37:AW K "_law_led" Yt f_37)(h_21:AW K "_law_count" Yu f_21)(h_5:AW K "_law_refused" bf f_5)(h_4:AW K "_law_counted" bg f_4)(h_22:AW K "_law_lacks" Yv f_22)(h_29:AW K "_law_rows" Yw f_29)(h_63:AW K "law" Vr f_63)(z_len:PySem.W.nsIn K mainGlobals "len"=some none)(z_list:PySem.W.nsIn K mainGlobals "list"=some none)(z_reversed:PySem.W.nsIn K mainGlobals "reversed"=some none)(z_isinstance:PySem.W.nsIn K mainGlobals "isinstance"=some none)(z_range:PySem.W.nsIn K mainGlobals "range"=some none)(z_int:PySem.W.nsIn K mainGlobals "int"=some none)(z_bool:PySem.W.nsIn K mainGlobals "bool"=some none)(z_ValueError:PySem.W.nsIn K mainGlobals "ValueError"=some none)(z_tuple:PySem.W.nsIn K mainGlobals "tuple"=some none)(z_enumerate:PySem.W.nsIn K mainGlobals "enumerate"=some none)(z_min:PySem.W.nsIn K mainGlobals "min"=some none)(z_sum:PySem.W.nsIn K mainGlobals "sum"=some none)(z_sorted:PySem.W.nsIn K mainGlobals "sorted"=some none)(z_set:PySem.W.nsIn K mainGlobals "set"=some none)(w_LONGEST_TABLE:PySem.W.nsIn K mainGlobals "LONGEST_TABLE"=some (some (.int 256 g_LONGEST_TABLE)))(w_MOST_NODES:PySem.W.nsIn K mainGlobals "MOST_NODES"=some (some (.int 9 g_MOST_NODES)))(x_40:PySem.W.excIn K c_40 XO "ValueError.__new__"=true)(ci_40:(PySem.W.clsIn K c_40).isSome=true)(ga_40:PySem.W.findIn K 17#2 "__getattribute__"=some (some (.builtin "BaseException.__getattribute__")))(gn_40:PySem.W.findIn K 17#2 "__getattr__"=some none)(ca_40:PySem.W.findIn K 17#2 "__class__"=some (some (.builtin "object.__class__")))(sg_40:PySem.W.specialIn K (.builtin "object.__class__") "__get__"=some (some (.builtin "getset_descriptor.__get__")))(tk_40:PySem.W.takesIn K (.builtin "object.__class__")=some true)(mo_40:PySem.W.mroIn K c_40 (.type "object")=some true)(mb_40:PySem.W.mroIn K c_40 (.type "BaseException")=some true)(kt_40_40:PySem.W.kitOne K 17#2 17#2=some true)(kt_40_49:PySem.W.kitOne K 17#2 (.ref c_49)=some false)(em_40_36:PySem.W.exmOne K 17#2 (.ref c_36)=some true)(ne_2_9:p_2≠p_9)
  : (∀P∈[p_9,p_2],∃c,PySem.W.codeHdIn K c P=true)/\∃fd:FuncData,(∀(s:qT) (v:qR),BindsTo s fd ⟨[v],[]⟩ [("_law_script",v)])/\∀base:Heap,K.In base->base.Ns mainGlobals mg->DQ mg base->FC l.prog w K mg base (JU l.prog w) 16 fa fd ["_law_script"] (Ko K [p_9,p_2]):=by
 have mo:∀{n:Str}{v:Value},PySem.W.nsIn K mainGlobals n=some 13#6->mg n=some v:=λe=>PySem.W.mg_of X G e;have T:CI K mg ⟨c_36,c_49,c_56,c_50,c_35,c_40,f_39,f_42,f_26,f_6,f_33,f_48,f_25,f_28,f_12,f_16,f_62,f_54,f_32,f_34,f_58,f_51,f_38,f_0,f_31,f_53,f_47,f_57,f_59,f_27,f_41,f_11,f_45,f_43,f_20,f_7,f_1,f_19,f_10,f_2,f_8,f_44,f_60,f_64,f_55,f_46,f_17,f_52,f_9,f_18,f_61,f_24,f_3,f_15,f_23,f_30,f_14,f_13,f_37,f_21,f_5,f_4,f_22,f_29,f_63,cc_9,p_9,cc_2,p_2⟩:=⟨mo n_36,mo n_49,mo n_56,mo n_50,mo n_35,mo n_40,dX X G h_39,dX X G h_42,dX X G h_26,dX X G h_6,dX X G h_33,dX X G h_48,dX X G h_25,dX X G h_28,dX X G h_12,dX X G h_16,dX X G h_62,dX X G h_54,dX X G h_32,dX X G h_34,dX X G h_58,dX X G h_51,dX X G h_38,dX X G h_0,dX X G h_31,dX X G h_53,dX X G h_47,dX X G h_57,dX X G h_59,dX X G h_27,dX X G h_41,dX X G h_11,dX X G h_45,dX X G h_43,dX X G h_20,dX X G h_7,dX X G h_1,dX X G h_19,dX X G h_10,mo h_2.2,h_2.1,(let ⟨_,z⟩:=h_2.1;z.hd),dX X G h_8,dX X G h_44,dX X G h_60,dX X G h_64,dX X G h_55,dX X G h_46,dX X G h_17,dX X G h_52,mo h_9.2,h_9.1,(let ⟨_,z⟩:=h_9.1;z.hd),dX X G h_18,dX X G h_61,dX X G h_24,dX X G h_3,dX X G h_15,dX X G h_23,dX X G h_30,dX X G h_14,dX X G h_13,dX X G h_37,dX X G h_21,dX X G h_5,dX X G h_4,dX X G h_22,dX X G h_29,dX X G h_63,PySem.W.mg_none_of X G z_len,PySem.W.mg_none_of X G z_list,PySem.W.mg_none_of X G z_reversed,PySem.W.mg_none_of X G z_isinstance,PySem.W.mg_none_of X G z_range,PySem.W.mg_none_of X G z_int,PySem.W.mg_none_of X G z_bool,PySem.W.mg_none_of X G z_ValueError,PySem.W.mg_none_of X G z_tuple,PySem.W.mg_none_of X G z_enumerate,PySem.W.mg_none_of X G z_min,PySem.W.mg_none_of X G z_sum,PySem.W.mg_none_of X G z_sorted,PySem.W.mg_none_of X G z_set,⟨_,mo w_LONGEST_TABLE⟩,⟨_,mo w_MOST_NODES⟩,x_40,⟨ci_40,ga_40,gn_40,ca_40,sg_40,tk_40,mo_40,mb_40⟩,kt_40_40,kt_40_49,em_40_36,ne_2_9⟩;have e:=hfa.symm.trans T.d_63.1;cases e;obtain⟨fd,F⟩:=T.d_63.2;obtain⟨oc,od,kV,doc,pm,an,j8,ct,osl,ef,lk,hcd⟩:=F.ex;refine⟨(hJ.mpr ⟨⟨_,T.hd_9⟩,(hJ.mpr ⟨⟨_,T.hd_2⟩,(λ_ h=>qG h cn)⟩)⟩),fd,λs v=>by rw[ef];exact .of_eq rfl,λbase _ _ hB=>?_⟩;exact aV T F hB
end K48
noncomputable def PySem.W.Fast.tw14829078273781271665:=PySem.Challenge.pw_rowrules_k48_whole_rows_of_joined_rules
theorem PySem.W.Fast.te14829078273781271665:PySem.Challenge.pw_rowrules_k48_whole_rows_of_joined_rules=PySem.W.Fast.tw14829078273781271665:=rfl
namespace PySem.W.Fast
abbrev A:=Nat
def tw16142210750402173655:=A
def tw9140748151646394028:=A
def tw12490967509482199026:=A
def tw6733407714311312054:=A
def tw1193218164074768209:=A
def tw8572571569732783376:=A
def tw12896684329941443830:=A
def tw3649814528100140095:=A
def tw17375234602031653421:=A
def tw12852743862915750791:=A
def tw1761250715506776361:=A
def tw14468438351706953131:=A
def tw1475000583708633995:=A
def tw11562904377412002684:=A
def tw6790843836017059994:=A
def tw4343261528155979001:=A
def tw5549085801882589485:=A
def tw4036143706472562113:=A
def tw6602061510523499703:=A
def tw11846262390791094420:=A
def tw16359174951482258355:=A
def tw15742051287849015810:=A
def tw1338255942853261084:=A
def tw1932858970046447946:=A
def tw11978464659538189500:=A
def tw17043398083501551691:=A
def tw6017746554848471119:=A
def tw6236482932781782260:=A
def tw16742164111762899843:=A
def tw17600443255835491893:=A
def tw10682039535614447258:=A
def tw15082124502961207388:=A
def tw11949568247998279819:=A
def tw5000956175006242787:=A
def tw4060928850698557600:=A
def tw15843473263621461311:=A
def tw12133392381818162191:=A
def tw9638164052474382662:=A
def tw9210716930442638158:=A
def tw8370521753653396029:=A
def tw15660254432365171311:=A
def tw3745290893616245919:=A
def tw3780413487559580880:=A
def tw8888234510299739348:=A
def tw1757463846276695742:=A
def tw4399920214734803038:=A
def tw4539112976117790738:=A
def tw14347251172063810629:=A
def tw7393611045502518585:=A
def tw13290528011166626290:=A
def tw4524385651034783897:=A
def tw17684699349296408325:=A
def tw16659379712553789912:=A
def tw6660498142159408119:=A
def tw15479821950000364748:=A
def tw4205914579425104463:=A
def tw11120877395364337161:=A
def tw2619599801402979811:=A
def tw9268239554366102059:=A
def tw14277832358459354616:=A
def tw4635288455250769147:=A
def tw8875925947928886849:=A
def tw2222539470154550189:=A
def tw6511901950006790208:=A
def tw2136646313384436043:=A
def tw14101560057235209696:=A
def tw9284332489499016599:=A
def tw14654108621670779368:=A
def tw279512095513420010:=A
def tw14840286615303920487:=A
def tw17658069534483963948:=A
def tw1353296218146254291:=A
def tw3967639277638093126:=A
def tw17015531888144966632:=A
def tw10958512175290511683:=A
def tw7657388580423902805:=A
def tw13892599662882963626:=A
def tw11167941958946786620:=A
def tw1291728621145862449:=A
def tw6418289241176867710:=A
def tw13633442939567256471:=A
def tw10978094847148512845:=A
def tw8472694842322261523:=A
def tw16006863722557080896:=A
def tw8375029111909975880:=A
def tw9213584371779721901:=A
def tw16235315985330467615:=A
def tw15900780584621192131:=A
def tw10102481441849380394:=A
def tw7586422400333171610:=A
def tw17426369591367866332:=A
def tw9130398399800580001:=A
def tw13978422045221519479:=A
def tw18380093541450055112:=A
def tw9911272198521179281:=A
def tw8111717547558858887:=A
def tw9830683773564286726:=A
def tw13175821151450517143:=A
def tw14835036602119490844:=A
def tw12442619119338780135:=A
def tw3385318955677884030:=A
def tw4942244022388697017:=A
def tw11032470725840936952:=A
def tw10508377585347125511:=A
def tw3588836494950562572:=A
def tw1321071709573365959:=A
def tw2857185315479021321:=A
def tw9560716470248264129:=A
def tw9287493804988650373:=A
def tw12528672746981075321:=A
def tw6187626344188741000:=A
def tw996006944235424907:=A
def tw3752848756330399614:=A
def tw14587602609603782200:=A
def tw14108987983303017159:=A
def tw768513322864475209:=A
def tw14390284884630933561:=A
def tw9761688948431355151:=A
def tw15716848352882468226:=A
def tw8992991706451634655:=A
def tw3820210561986970062:=A
def tw3197036773248761855:=A
def tw7807718712832245730:=A
def tw14606221926674572356:=A
def tw16536569564381812297:=A
def tw13043106483123295339:=A
def tw3955840314134474018:=A
def tw18265676139574744052:=A
def tw12614161538416916695:=A
def tw4958040774536896848:=A
def tw10902194700764871176:=A
def tw8424536011103709417:=A
def tw9313799546552723309:=A
def tw4070474245608693922:=A
def tw7714364308687020971:=A
def tw2741342586177231277:=A
def tw1284051174624646753:=A
def tw1487512892353468115:=A
def tw14886734693344753470:=A
def tw9021782408123060620:=A
def tw16171190247311889460:=A
def tw16354746329844094516:=A
def tw8165564279279425073:=A
def tw9215016614775023428:=A
def tw11808714487440942023:=A
def tw3571994466246724165:=A
def tw15053747316449042079:=A
def tw7279699788104793420:=A
def tw1308145129586707960:=A
def tw12923958128668358634:=A
def tw5154591460200893980:=A
def tw1177385601480807809:=A
def tw11666743847185452761:=A
def tw16853341781283094744:=A
def tw14882858398152440796:=A
def tw4727001647772972961:=A
def tw4093786206757588745:=A
def tw2144546754738507617:=A
def tw4918786512643113479:=A
def tw2058297046300754095:=A
def tw16671698958941606218:=A
def tw14167149920995934153:=A
def tw7085802115916858810:=A
def tw10969028636997721599:=A
def tw9832471237068810119:=A
def tw14392513116618262788:=A
def tw9234894634839828399:=A
def tw10090046233133186905:=A
def tw8490413256985233998:=A
def tw541087877448331738:=A
def tw1989037183976479352:=A
def tw15442223854473589057:=A
def tw4641706839498822596:=A
def tw13910406309121789915:=A
def tw5534826295039361311:=A
def tw14566360836571549262:=A
def tw10507075961034149301:=A
def tw3983798405608394683:=A
def tw10354089302092563357:=A
def tw731448018283873880:=A
def tw17944929291165513457:=A
def tw5718767486574001016:=A
def tw7602588130474089175:=A
def tw2330924141279560130:=A
def tw5955941497754318249:=A
def tw7084272468088505679:=A
def tw13958976632438847480:=A
def tw18299787084109724096:=A
def tw3083908299880872365:=A
def tw16149944043503999725:=A
def tw7418361738205997593:=A
def tw3450338817959223702:=A
def tw7048764283890516656:=A
def tw11659035001638718033:=A
def tw10981438610966072277:=A
def tw5457012940681840577:=A
def tw7770745703242630118:=A
def tw13093226028054756031:=A
def tw9553374401513837085:=A
def tw6273368609920585885:=A
def tw9534146848709379720:=A
end PySem.W.Fast
open PySem PySem.W PyProof.Rows
set_option maxRecDepth 100000 in
set_option maxHeartbeats 0 in
theorem PySem.Challenge.cw_rowrules_k48_whole_rows_of_joined_rules_holds : PySem.Challenge.rw_rowrules_k48_whole_rows_of_joined_rules.Holds := by
 w_on;o_law;k_head;(case hw=>w_witness2)
 k_fill
 refine L2.Qm (l:=PySem.Challenge.rw_rowrules_k48_whole_rows_of_joined_rules) (k:=16) (n:=0) (x:="_law_script") (ts:=[_,_]) rfl rfl ⟨rfl,by decide,by decide⟩ (λw h Y=>⟨PySem.W.km_in_of Y,PySem.W.km_tabs_of Y⟩) ?hTab ?F
 case hTab=>exact λw=>(hJ.mpr ⟨by kernel_rfl,(hJ.mpr ⟨by kernel_rfl,λ_ h=>absurd h cn⟩)⟩)
 case F =>
  intro w mg fa h KX G hmg;refine' K48.Y1 KX G hmg ?_ ?_ ?_ ?_ ?_ ?_ (L2.AZ ?_ ?_ ?_ ?_) (L2.AZ ?_ ?_ ?_ ?_) (L2.AZ ?_ ?_ ?_ ?_) (L2.AZ ?_ ?_ ?_ ?_) (L2.AZ ?_ ?_ ?_ ?_) (L2.AZ ?_ ?_ ?_ ?_) (L2.AZ ?_ ?_ ?_ ?_) (L2.AZ ?_ ?_ ?_ ?_) (L2.AZ ?_ ?_ ?_ ?_) (L2.AZ ?_ ?_ ?_ ?_) (L2.AZ ?_ ?_ ?_ ?_) (L2.AZ ?_ ?_ ?_ ?_) (L2.AZ ?_ ?_ ?_ ?_) (L2.AZ ?_ ?_ ?_ ?_) (L2.AZ ?_ ?_ ?_ ?_) (L2.AZ ?_ ?_ ?_ ?_) (L2.AZ ?_ ?_ ?_ ?_) (L2.AZ ?_ ?_ ?_ ?_) (L2.AZ ?_ ?_ ?_ ?_) (L2.AZ ?_ ?_ ?_ ?_) (L2.AZ ?_ ?_ ?_ ?_) (L2.AZ ?_ ?_ ?_ ?_) (L2.AZ ?_ ?_ ?_ ?_) (L2.AZ ?_ ?_ ?_ ?_) (L2.AZ ?_ ?_ ?_ ?_) (L2.AZ ?_ ?_ ?_ ?_) (L2.AZ ?_ ?_ ?_ ?_) (L2.AZ ?_ ?_ ?_ ?_) (L2.AZ ?_ ?_ ?_ ?_) (L2.AZ ?_ ?_ ?_ ?_) (L2.AZ ?_ ?_ ?_ ?_) (L2.AZ ?_ ?_ ?_ ?_) (L2.AZ ?_ ?_ ?_ ?_) (L2.O6 ?_ ?_ ?_ ?_ ?_) (L2.AZ ?_ ?_ ?_ ?_) (L2.AZ ?_ ?_ ?_ ?_) (L2.AZ ?_ ?_ ?_ ?_) (L2.AZ ?_ ?_ ?_ ?_) (L2.AZ ?_ ?_ ?_ ?_) (L2.AZ ?_ ?_ ?_ ?_) (L2.AZ ?_ ?_ ?_ ?_) (L2.AZ ?_ ?_ ?_ ?_) (L2.O6 ?_ ?_ ?_ ?_ ?_) (L2.AZ ?_ ?_ ?_ ?_) (L2.AZ ?_ ?_ ?_ ?_) (L2.AZ ?_ ?_ ?_ ?_) (L2.AZ ?_ ?_ ?_ ?_) (L2.AZ ?_ ?_ ?_ ?_) (L2.AZ ?_ ?_ ?_ ?_) (L2.AZ ?_ ?_ ?_ ?_) (L2.AZ ?_ ?_ ?_ ?_) (L2.AZ ?_ ?_ ?_ ?_) (L2.AZ ?_ ?_ ?_ ?_) (L2.AZ ?_ ?_ ?_ ?_) (L2.AZ ?_ ?_ ?_ ?_) (L2.AZ ?_ ?_ ?_ ?_) (L2.AZ ?_ ?_ ?_ ?_) (L2.AZ ?_ ?_ ?_ ?_) (L2.AZ ?_ ?_ ?_ ?_) ?_ ?_ ?_ ?_ ?_ ?_ ?_ ?_ ?_ ?_ ?_ ?_ ?_ ?_ ?_ ?_ ?_ ?_ ?_ ?_ ?_ ?_ ?_ ?_ ?_ ?_ ?_ ?_ ?_
  any_goals k_is
  ·kernel_rfl
  ·kernel_rfl
  ·k_exc
  ·show PySem.W.isClsIn _ _=true;k_is
  ·kit_is
  ·kit_is
  ·kts_exm
  ·decide
