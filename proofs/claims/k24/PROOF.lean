import PyProof.Rows.All
import Wide.All
import OpenK.AllK
import Wide.FinOn
import Lean
import PyProof.EqAt
import PyProof.EqKinds
import PyProof.TupleCall
import PySem.Challenge.RW_bellferry_k24_a_round
import PyProof.Rows.SetFrom
import PyProof.FactsAll.set_1
import PyProof.CollectWalk
import PyProof.Rows.SortStr
import PyProof.IsiH_list
import PyProof.ConsumeWalk
import PyProof.StrWalks
import PyProof.IsiH_tuple
import PyProof.SliceStr2
import PyProof.ListRange
import PyProof.Rows.Range3
import PyProof.Rows.CallKwBuiltin
import PyProof.WalkInts
import PyProof.FString5
set_option Elab.async false
set_option linter.all false
set_option maxRecDepth 100000
set_option maxHeartbeats 8000000
set_option genSizeOf false
set_option genSizeOfSpec false
noncomputable section
set_option bootstrap.genMatcherCode false
set_option compiler.extract_closed false
open PySem renaming Value→X0, World→Xe, Program→Xl, sysModules→YH, mainGlobals→XA, bootBuiltins→YD, Around→Xq, Shared→X1, GenState→ZV, wpAny→X4, model→X8, backTo→Yq, starEach→XG, wpAny_mono→Zp, wpAny_truthy_bool→Zq, swapsWith→Uh, assignEach→Zr, wpAny_bind→X3, wpAny_holding→YI, letOwnedTupleGo→Bj, wpAny_pure→Xa, wpAny_load→Va, rawInt→Y1, foldedSetIterable→Bk, wpAny_passesOwn→VU, Operator→ZW, binaryOp→Z5, compareOp→XU, FuncData→Xi, codeAny→Z6, codeAny_mono→VW, wpAny_Call_Name_kw→UH, Keyword→Zs, NameKind→Z7, wpAny_callSpecial?_slot→Bl, wpAny_call_entry→Z8, wpAny_typeOf→Zt, wpAny_newObj_type→ZX, typeLookup→Vb, sliceBounds→YX, attributeBase→VX, valueAt→YY, tupleKind_room_in1→Bm, PyData→Yr, wpAny_richCompare_same_room→Vc, wpAny_loadPart'→Ym, plainId_quiet→Zg, codeAny_builtin→Z9, codeAny_call_builtin→VY, wpAny_dictEntries→Bn, wpAny_notOrdered_dict→Bo, wpAny_isInstance→Ui, SetTable→Yw, wpAny_setState_of→VZ, wpAny_rule→Uj, wpAny_askSetting→W0, wpAny_pyIter_list→Bp, typeLookup_type→Vd, builtinLookup_eq_fast→Ve, wpAny_setField→Vf, ownMembersOf→YO, getattributeRaised→Bq
open List renaming getElem?_eq_getElem→X6, length_map→X2, mem_of_getElem?→Xk, getElem?_map→Xg, getElem?_eq_some_iff→Xx, mem_cons→Xn, getD_eq_getElem?_getD→Y2, map_cons→Xz, length_take→XL, size_toArray→XO, getElem_of_mem→Y0, mem_cons_of_mem→Yb, length_append→Y5, getElem_mem→XY, mem_map→XI, getD_cons_succ→Yn, getD_cons_zero→Yo, mem_cons_self→Yh, not_mem_nil→Y3, map_append→Y4, cons_append→Yi, take_of_length_le→YQ, nil_append→Yc, mem_singleton→YE, mem_append→Ys, getElem?_append_left→Zu, range→XN, getElem?_append_right→ZY, map_nil→Y6, map_map→Y7, length_cons→YJ, nodup_cons→YF, mem_append_right→Zv, getElem?_eq_none→Zw, nodup_append→Zx, length_range→Zy, getElem?_inj→Zz, lookup_cons→ZA, take_add_one→ZZ, length_zip→ZB, getElem?_take_of_lt→W3, length_drop→Uk, eq_nil_of_length_eq_zero→Br, any_cons→ZC, getElem?_set→UI, length_singleton→W4, length_set→UJ, replicate→UK, drop_eq_nil_of_le→Bs, append_nil→Vg, find?_cons→Vh, foldl_cons→Vi, all_cons→UL, append_assoc→W5, ext_getElem?→W6, getElem?_eq_none_iff→CP, mem_or_eq_of_mem_set→CQ, take_length→W7, map_set→UM, length_eq_zero_iff→CS, take_sublist→Bt, length_replicate→CT, mem_of_mem_take→CU, map_take→W8, filterMap_cons→CV, length_eraseIdx_of_lt→G6, mem_range→Bu, getElem?_zip_eq_some→G7, pairwise_iff_getElem→G8, foldl_append→CW, getElem_take→CY, getElem?_replicate→G9, getElem_map→CZ, getElem?_set_self→Ga, mem_filter→D0, of_mem_zip→D3, map_id'→Bv, drop_zero→D4, nodup_nil→D6, getD→W9
open PySem.W renaming Frag→X5, nsIn→XM, mg_none_of→YZ, kia_one→Zh, kia_tup→Zi, mg_of→Z0, keepIn→U0, kitOne→UN, fnOf→Ul, findIn→Vj, kitx_list→Bw, kitx_dict→Bx, kitAny→By, methodObj→D7, cellsFrom_some→Gb, instObj→D8, OpenLaw→D9, lookIn→Da, codeIn→Db
open PySem.Heap renaming get?_push_of_some→Xr, get?_push_size→XQ, lt_size→Xv, get?_update_self→UO, get?_update_other→Vk, size_push→U4, SameBut→Um, ExtBut→Bz
open Bool renaming false_ne_true→XB, and_eq_true→Yd, false_eq_true→Yt, false_and→UP, and_true→UQ, or_self→Vl, not_true→Wa, eq_iff_iff→BA, not_false→BB, true_or→BC, or_true→BD, and_false→Dc
open Nat renaming le_refl→Xh, ne_of_lt→XC, le_trans→XV, lt_of_lt_of_le→YK, zero_le→YL, lt_succ_of_lt→UR, le_succ→Uo, ne_of_gt→US, lt_trans→UT, lt_irrefl→Vm, le_of_eq→Wb, lt_succ_iff_lt_or_eq→Gc, lt_succ_self→Dd, min_eq_right→De, le_of_lt→BE, min_eq_left→Df
open Array renaming length_toList→XW, getElem?_eq_getElem→UU, toList_append→BF, getElem?_eq_none→Dg, getElem?_toList→Gd
open PySem.Value renaming none→Xw, type→XD, ref→Xy, str→XE, bool→Yj, int→Wc
open Sum renaming inr→Xf, inl→UV
open Int renaming emod_lt_of_pos→Yx, emod_nonneg→Yp, toNat_of_nonneg→U5, toNat_natCast→Up
open PySem.Str renaming ofString→XS, empty→Wd, length→BG
open Option.some renaming inj→Yk, injEq→BH
open PySem.NameKind renaming free→Yu, cell→Vn
open PySem.Around renaming under_plainId→Zj
open PyProof.Rows renaming callWith_type1→UW, slot_tuple_getitem→Vo, callWith_builtin1→Ge
open PySem.Heap.SameBut renaming update→U6
open PySem.Builtin.Str renaming glued→ZD, strSliceIndices→BJ, tooLong→Gf
open False renaming elim→Yy
open PySem.Builtin.Range renaming rangeSize→Vp, small→Gg
open PySem.Builtin.Tuple renaming tupleCompareSizes→BK, tupleExact→BL, tupleItemsOf→Gh, tupleIsExact→Gi
open Iff renaming rfl→XT
open PySem.PyData renaming canLay0→ZE, depth→ZF, canLayAll0→Vq, strOk→Uq, depthAll→Vr, eqv→U7
open True renaming intro→YR
open PySem renaming mem_of_lookup→Vs
open PySem.SeqAt renaming shaped→ZG
open PySem.Builtin.Slice renaming slicePlaces→BM, sliceAdjust→Dh, sliceApplied→Gj
open PySem.Builtin.Dict renaming dictSlotArgs→BN, updateFrom→BO, selfAndRest→Gk, samePairs→Gm
open PySem.F renaming slot_tuple_getattribute→BP, slot_list_getattribute→BQ, called_set→Ur, slot_dict_keyiterator_iter→Gn, args_tuple_add_2→Go, entry_tuple_add→Gp, slot_tuple_add→Gq, sub_dict_dict→Gr, slot_str_join→Gs, slot_list_pop→Gu, type_list_pop→Gv, slot_dict_get→Gw, type_dict_get→Gx, slot_dict_eq→Gy, slot_dict_ne→Gz, slot_list_eq→Di, slot_list_ne→Dj
open PySem.Data renaming fields→ZH, seq→Z1
open PySem.SetTable renaming grown→UX, below→BR
open PySem.Calls renaming spliced_cons→We, spliced_nil→Wf, Name_function_global→GA, callWith_builtin→GC
open PySem.Manifest renaming find?→Vt
open Sum.inr renaming inj→Us
open PySem.Obj renaming mapSeq→U8, data_mapFields→BS, isFreed_of_fields→Dk, cls_mapFields→Dl, mapFields→Dm
open PySem.Builtin.List renaming listTooLong→Do, listExtendWith→GD, listSameRef→GE
open Option renaming map_eq_some_iff→Dq, toList_some→Dr, isSome_map→Ds
open PySem.Shared renaming TypeIs→Wg
open Ne renaming symm→Za
open ForInStep renaming yield→BT
open Nat.succ renaming inj→Wh
open PySem.AutoSeq1 renaming sub_tuple_tuple→GF, sub_list_list→GG
open PySem.Builtin.Frozenset renaming sizeOf→GH
open PySem.Heap.DictOf renaming new→Dt
open PySem.SeqAt.EqAt renaming int_str→GJ, str_int→GK
open PySem.ScopeKind renaming function→GM
open PySem.SetTable.below renaming go→GN
open Char renaming toNat→BU
open List.Pairwise renaming imp→GO
open PySem.IsRange renaming new→Du
namespace L2
open PySem PySem.Spec PyProof.Rows
theorem nl0 {α:Type _}{p:α->Prop}:∀x∈([]:List α),p x:=λ_ h=>nomatch h
theorem fMc{α:Type _}{p:α->Prop}{a:α}{l:List α}(h:p a/\∀x∈l,p x):∀x∈a::l,p x:=List.forall_mem_cons.2 h
noncomputable abbrev Key:=Sum Int Str
noncomputable def Vu:Key->X0->Bool
 |.inl k,v=>Value.isInt k v
 |.inr x,v=>Value.isStrOf x v
noncomputable def keyH(w:Xe):Key->Int
 |.inl k=>hashInt k
 |.inr x=>hashStr w x
theorem ZI:∀{k:Key} {v:X0},Vu k v=true->(∃i t,k=UV i/\v=Wc i t)\/(∃x t,k=Xf x/\v=XE x t)
 |.inl i,v,h=>by
  obtain⟨t,e⟩:=Value.isInt_shape (k:=i) (v:=v) h;exact .inl ⟨i,t,rfl,e⟩
 |.inr x,v,h=>by
  obtain⟨t,e⟩:=Value.isStrOf_shape (x:=x) (v:=v) h;exact .inr ⟨x,t,rfl,e⟩
theorem QA(i:Int)(t:Tok):Vu (.inl i) (.int i t)=true:=by simp[Vu,Value.isInt]
theorem QB(x:Str)(t:Tok):Vu (.inr x) (.str x t)=true:=by simp[Vu,Value.isStrOf]
theorem QC(a b:Int):decide ((UV a:Key)=UV b)=(a==b):=by
 by_cases e:a=b
 ·subst e;simp
 ·have h:¬(UV a:Key)=UV b:=λq=>e (Sum.inl.inj q);rw[decide_eq_false h];exact(beq_eq_false_iff_ne.mpr e).symm
theorem QD(a b:Str):decide ((Xf a:Key)=Xf b)=decide (a=b):=by
 by_cases e:a=b
 ·subst e;simp
 ·have h:¬(Xf a:Key)=Xf b:=λq=>e (Us q);rw[decide_eq_false h,decide_eq_false e]
theorem QE(a:Int)(b:Str):decide ((UV a:Key)=Xf b)=false:=decide_eq_false (λq=>nomatch q)
theorem QF(a:Str)(b:Int):decide ((Xf a:Key)=UV b)=false:=decide_eq_false (λq=>nomatch q)
noncomputable def Yz(prog:Xl)(w:Xe):PySem.KeyKind prog w Key where
 is:=Vu
 hash:=keyH w
 inj:=λv a b ha hb=>by
  rcases ZI ha with⟨i,t,rfl,rfl⟩|⟨x,t,rfl,rfl⟩
  ·rcases ZI hb with⟨j,u,rfl,e⟩|⟨y,u,rfl,e⟩
   ·injection e with e1 _;rw[e1]
   ·exact nomatch e
  ·rcases ZI hb with⟨j,u,rfl,e⟩|⟨y,u,rfl,e⟩
   ·exact nomatch e
   ·injection e with e1 _;rw[e1]
 byValue:=λk v h=>by
  rcases ZI h with⟨i,t,rfl,rfl⟩|⟨x,t,rfl,rfl⟩<;>rfl
 pyHash:=λhv h=>by
  rcases ZI hv with⟨i,t,rfl,rfl⟩|⟨x,t,rfl,rfl⟩
  ·exact wpAny_pyHash_int h
  ·exact wpAny_pyHash_str h
 eqBool:=λhu hv h=>by
  rcases ZI hu with⟨i,t,rfl,rfl⟩|⟨x,t,rfl,rfl⟩
  ·rcases ZI hv with⟨j,u,rfl,rfl⟩|⟨y,u,rfl,rfl⟩
   ·rw[QC]at h;exact wpAny_eqBool_int h
   ·rw[QE]at h;exact GJ i t y u _ _ _ _ h
  ·rcases ZI hv with⟨j,u,rfl,rfl⟩|⟨y,u,rfl,rfl⟩
   ·rw[QF]at h;exact GK x t j u _ _ _ _ h
   ·rw[QD]at h;exact wpAny_eqBool_str h
 «strs»:=λk x t v h=>by
  rcases ZI h with⟨i,u,rfl,e⟩|⟨y,u,rfl,e⟩
  ·exact nomatch e
  ·injection e with e1 _;subst e1;cases v<;>rfl
theorem QG(prog:Xl)(w:Xe)(i:Int)(t:Tok):(Yz prog w).is (.inl i) (.int i t)=true:=QA i t
theorem QH(prog:Xl)(w:Xe)(x:Str)(t:Tok):(Yz prog w).is (.inr x) (.str x t)=true:=QB x t
inductive V where
 |non|bl (b:Bool)|int (i:Int)|str (x:Str)|byt (b:Array UInt8)|flt (b:UInt64)|ref (a:Addr)|ty (n:String)
  deriving DecidableEq
noncomputable def RelV:V->X0->Prop
 |.non,u=>u=Xw
 |.bl b,u=>u=Yj b
 |.int i,u=>∃t,u=Wc i t
 |.str x,u=>∃t,u=XE x t
 |.byt b,u=>∃t,u=Value.bytes b t
 |.flt b,u=>∃t,u=Value.float b t
 |.ref a,u=>u=Xy a
 |.ty n,u=>u=XD n
noncomputable abbrev Vals:List V->List X0->Prop:=Paired RelV
theorem Vals.length{xs:List V}{us:List X0}(r:Vals xs us):xs.length=us.length:=Paired.length r
theorem Vals.get:∀{xs:List V} {us:List X0} {i:Nat} {x:V},Vals xs us->xs[i]?=some x->∃u,us[i]?=some u/\RelV x u
 |_,_,_,_,.nil,e=>by simp at e
 |_,_,0,_,.cons r _,e=>by simp at e;subst e;exact⟨_,rfl,r⟩
 |_,_,i+1,x,.cons _ t,e=>by
  obtain⟨u,h1,h2⟩:=Vals.get (i:=i) (x:=x) t (by simpa using e)
  exact⟨u,by simpa using h1,h2⟩
theorem Vals.set{x:V}{u:X0}(r:RelV x u):∀{xs:List V} {us:List X0} (i:Nat),Vals xs us->Vals (xs.set i x) (us.set i u)
 |_,_,_,.nil=>.nil
 |_,_,0,.cons _ t=>.cons r t
 |_,_,i+1,.cons q t=>.cons q (Vals.set r i t)
theorem Vals.append:∀{xs ys:List V} {us ws:List X0},Vals xs us->Vals ys ws->Vals (xs++ys) (us++ws)
 |_,_,_,_,.nil,s=>s
 |_,_,_,_,.cons r t,s=>.cons r (Vals.append t s)
theorem Vals.take:∀{xs:List V} {us:List X0} (n:Nat),Vals xs us->Vals (xs.take n) (us.take n)
 |_,_,0,_=>.nil
 |_,_,_+1,.nil=>.nil
 |_,_,n+1,.cons r t=>.cons r (Vals.take n t)
theorem Vals.drop:∀{xs:List V} {us:List X0} (n:Nat),Vals xs us->Vals (xs.drop n) (us.drop n)
 |_,_,0,r=>r
 |_,_,_+1,.nil=>.nil
 |_,_,n+1,.cons _ t=>Vals.drop n t
noncomputable def RelO:Option V->Option X0->Prop
 |some v,some u=>RelV v u
 |none,none=>True
 |_,_=>False
noncomputable def KV{κ:Type}:List (κ×V)->List (κ×X0)->Prop:=Paired fun(p:κ×V) (q:κ×X0)=>p.1=q.1/\RelV p.2 q.2
noncomputable def kV:Key->V
 |.inl i=>.int i
 |.inr x=>.str x
inductive HO where
 |lst (xs:List V)
 |tup (xs:List V)
 |dK (kvs:List (Key×V))|dT (kvs:List (List Key×V))
 |set (S:Int->Bool) (n:Nat)
 |ins (C dx:Addr) (fs:List (Str×V))
 |own (x:Addr)
 |xd (fs:List (Str×V))
 |met (f x:Addr)
 |rng (lo hi:Int)
 |frz (o:Obj) (u:HO)
 |tbl (ps:Array X0)
 |ext (φ:Heap->Prop)
noncomputable abbrev Hp:=Addr->Option HO
noncomputable def upd(H:Hp)(a:Addr)(o:HO):Hp:=λb=>if b=a then some o else H b
theorem ZJ{H:Hp}{a:Addr}{o:HO}:upd H a o a=some o:=by unfold upd;rw[if_pos rfl]
theorem XJ{H:Hp}{a b:Addr}{o:HO}(h:b≠a):upd H a o b=H b:=by unfold upd;rw[if_neg h]
theorem GP{H:Hp}{a b:Addr}{o u:HO}(h:H a=some o)(h':H b=some u)(d:o≠u):a≠b:=by
 intro e;subst e;rw[h]at h';exact d (Yk h')
theorem UY{H:Hp}{a b:Addr}{o:HO}(h:H a=some o)(h':H b=none):a≠b:=by
 intro e;subst e;rw[h]at h';cases h'
section
variable(P:Xl)(w:Xe)
noncomputable def ObjOk(H:Hp)(h:Heap)(a:Addr):HO->Prop
 |.lst xs=>xs.length≤sizeLine/\∃(its:List X0) (n:Nat),Vals xs its/\h.get? a=some {cls:=.type "list",data:=.seq its.toArray n}
 |.tup xs=>xs.length≤sizeLine/\∃its:List X0,Vals xs its/\IsTup h a its.toArray/\∃o,h.get? a=some o/\o.dict=none
 |.dK kvs=>kvs.length≤sizeLine/\(a==YH)=false/\∃vs,KV kvs vs/\h.DictOf (Yz P w) a vs
 |.dT kvs=>kvs.length≤sizeLine/\(a==YH)=false/\∃xs:List (List Key×Addr×X0),
   Paired (fun(p:List Key×V) (q:List Key×Addr×X0)=>p.1=q.1/\H q.2.1=some (.tup (p.1.map kV))/\RelV p.2 q.2.2) kvs xs/\
   ∃o es ep,h.get? a=some o/\o.ExactDict/\o.data=.dict es ep/\es.toList=xs.map (entryOfKey (tupleKind (Yz P w)))/\(xs.map (·.1)).Nodup
 |.set S n=>h.SetOf (intKind P w) a S n
 |.ins C dx fs=>H dx=some (.own a)/\fs.length≤1000/\dx≠a/\h.get? a=some (D8 C dx)/\
   ∃mA,h.Ns1 dx mA/\(∀f,RelO (fs.lookup f) (mA f))/\PySem.Within mA (fs.map (·.1))
 |.own _=>∃o,h.get? a=some o
 |.xd fs=>∃mA,h.Ns1 a mA/\∀f,RelO (fs.lookup f) (mA f)
 |.rng lo hi=>∃t u v,h.get? a=some {cls:=.type "range",data:=.fields #[.int lo t,.int hi u,.int 1 v]}
 |.frz o u=>h.get? a=some o/\ObjOk H h a u
 |.tbl ps=>h.get? a=some {cls:=.none,data:=.fields ps}
 |.met f x=>h.get? a=some (D7 (.ref f) (.ref x))
 |.ext φ=>φ h/\(∃o,h.get? a=some o)/\∀h1 h2:Heap,φ h1->(∀o,h1.get? a=some o->h2.get? a=some o)->φ h2
noncomputable def HOk(H:Hp)(h:Heap):Prop:=∀a o,H a=some o->ObjOk P w H h a o
end
section
variable{P:Xl}{w:Xe}{H H':Hp}{h h':Heap}{a:Addr}{o:HO}
theorem ObjOk.lt(x:ObjOk P w H h a o):a<h.objs.size:=by
 cases o with
 |lst xs=>obtain⟨_,_,_,_,e⟩:=x;exact Xv e
 |tup xs=>obtain⟨_,_,_,p⟩:=x;exact p.1.lt
 |dK kvs=>obtain⟨_,_,_,_,o,_,_,e,_⟩:=x;exact Xv e
 |dT kvs=>obtain⟨_,_,_,_,o,_,_,e,_⟩:=x;exact Xv e
 |set S n=>obtain⟨o,_,_,_,e,_⟩:=x;exact Xv e
 |ins C dx fs=>obtain⟨_,_,_,e,_⟩:=x;exact Xv e
 |own y=>obtain⟨_,e⟩:=x;exact Xv e
 |xd fs=>obtain⟨_,⟨_,_,_,e,_⟩,_⟩:=x;exact Xv e
 |rng lo hi=>obtain⟨_,_,_,e⟩:=x;exact Xv e
 |frz ob u=>obtain⟨e,_⟩:=x;exact Xv e
 |tbl ps=>exact Xv (show h.get? a=some _ from x)
 |met f y=>exact Xv (show h.get? a=some _ from x)
 |ext φ=>obtain⟨_,⟨_,e⟩,_⟩:=x;exact Xv e
theorem Paired.mapP{α β:Type}{F G:α->β->Prop}:∀{l₁:List α} {l₂:List β},Paired F l₁ l₂->(∀a b,F a b->G a b)->Paired G l₁ l₂
 |_,_,.nil,_=>.nil
 |_,_,.cons r t,f=>.cons (f _ _ r) (Paired.mapP t f)
theorem ObjOk.stay(x:ObjOk P w H h a o)(k:∀b u,(b=a\/H b=some (.own a))->h.get? b=some u->h'.get? b=some u)
  (ho:∀b,H b=some (.own a)->H' b=some (.own a)) (ht:∀b xs,H b=some (.tup xs)->H' b=some (.tup xs)):ObjOk P w H' h' a o:=by
 induction o with
 |lst xs=>obtain⟨z,its,n,r,e⟩:=x;exact⟨z,its,n,r,k _ _ (.inl rfl) e⟩
 |tup xs=>obtain⟨z,its,r,⟨ob,e,c⟩,o2,e2,c2⟩:=x;exact⟨z,its,r,⟨ob,k _ _ (.inl rfl) e,c⟩,o2,k _ _ (.inl rfl) e2,c2⟩
 |dK kvs=>obtain⟨z,y,vs,r,ob,es,ep,e,c⟩:=x;exact⟨z,y,vs,r,ob,es,ep,k _ _ (.inl rfl) e,c⟩
 |dT kvs=>
  obtain⟨z,y,xs,r,ob,es,ep,e,c⟩:=x;exact⟨z,y,xs,Paired.mapP r λp q z=>⟨z.1,ht _ _ z.2.1,z.2.2⟩,ob,es,ep,k _ _ (.inl rfl) e,c⟩
 |set S n=>obtain⟨ob,es,ep,t,e,c⟩:=x;exact⟨ob,es,ep,t,k _ _ (.inl rfl) e,c⟩
 |ins C dx fs=>
  obtain⟨d,z,ne,e,mA,⟨od,es,ep,e2,c⟩,r⟩:=x;exact⟨ho _ d,z,ne,k _ _ (.inl rfl) e,mA,⟨od,es,ep,k _ _ (.inr d) e2,c⟩,r⟩
 |own y=>obtain⟨ob,e⟩:=x;exact⟨ob,k _ _ (.inl rfl) e⟩
 |xd fs=>obtain⟨mA,⟨od,es,ep,e,c⟩,r⟩:=x;exact⟨mA,⟨od,es,ep,k _ _ (.inl rfl) e,c⟩,r⟩
 |rng lo hi=>obtain⟨t,u,v,e⟩:=x;exact⟨t,u,v,k _ _ (.inl rfl) e⟩
 |frz ob u ih=>obtain⟨e,q⟩:=x;exact⟨k _ _ (.inl rfl) e,ih q⟩
 |tbl ps=>
  have e:h.get? a=some {cls:=.none,data:=.fields ps}:=x;show h'.get? a=some {cls:=.none,data:=.fields ps};exact k a _ (.inl rfl) e
 |met f y=>
  have e:h.get? a=some (D7 (.ref f) (.ref y)):=x;show h'.get? a=some (D7 (.ref f) (.ref y));exact k a _ (.inl rfl) e
 |ext φ=>obtain⟨p,⟨o,e⟩,st⟩:=x;exact⟨st _ _ p λo q=>k _ _ (.inl rfl) q,⟨o,k _ _ (.inl rfl) e⟩,st⟩
theorem HOk.lt(x:HOk P w H h)(e:H a=some o):a<h.objs.size:=(x a o e).lt
theorem HOk.fresh(x:HOk P w H h)(e:h.objs.size≤a):H a=none:=by
 cases q:H a with
 |none=>rfl
 |some u=>exact absurd (YK (x.lt q) e) (Vm _)
theorem HOk.kept(x:HOk P w H h)(k:∀b u,h.get? b=some u->h'.get? b=some u):HOk P w H h':=λa o e=>
 (x a o e).stay (λb u _ q=>k b u q) (λ_ q=>q) λ_ _ q=>q
theorem HOk.laid(x:HOk P w H h)(k:∀b u,h.get? b=some u->h'.get? b=some u)(hp:h.objs.size≤a)(new:ObjOk P w (upd H a o) h' a o):HOk P w (upd H a o) h':=λb u e=>by
 have hn:=x.fresh hp;by_cases hb:b=a
 ·subst hb;rw[ZJ]at e;cases e;exact new
 ·rw[XJ hb]at e;exact(x b u e).stay (λc v _ q=>k c v q) (λc q=>by rw[XJ (UY q hn)];exact q) λc xs q=>by rw[XJ (UY q hn)];exact q
end
noncomputable def Rd(H:Hp)(a:Addr)(u:HO):Prop:=H a=some u\/∃o,H a=some (.frz o u)
theorem Rd.of{H:Hp}{a:Addr}{u:HO}(h:H a=some u):Rd H a u:=.inl h
theorem Rd.ok{P:Xl}{w:Xe}{H:Hp}{h:Heap}{a:Addr}{u:HO}(r:Rd H a u)(x:HOk P w H h):ObjOk P w H h a u:=by
 rcases r with r|⟨o,r⟩
 ·exact x a u r
 ·obtain⟨_,q⟩:=x a _ r;exact q
noncomputable def Mut:Option HO->Prop
 |some (.lst _)=>True
 |some (.dK _)=>True
 |some (.dT _)=>True
 |some (.set _ _)=>True
 |some (.ins _ _ _)=>True
 |some (.ext _)=>True
 |_=>False
section
variable{P:Xl}{w:Xe}{H:Hp}{h h':Heap}{x e:Addr}{o':HO}
theorem HOk.write(ok:HOk P w H h)(mu:Mut (H x))(he:e=x\/H e=some (.own x))(k:∀b u,b≠e->h.get? b=some u->h'.get? b=some u)(heo:∃u,h'.get? e=some u)
  (new:ObjOk P w (upd H x o') h' x o'):HOk P w (upd H x o') h':=λb u q=>by
 have nown:∀c y,H c=some (.own y)->c≠x:=λc y r z=>by subst z;rw[r]at mu;exact mu
 have ntup:∀c xs,H c=some (.tup xs)->c≠x:=λc xs r z=>by subst z;rw[r]at mu;exact mu
 by_cases hb:b=x
 ·subst hb;rw[ZJ]at q;cases q;exact new
 ·rw[XJ hb]at q;by_cases hbe:b=e
  ·have q':H b=some (.own x):=by
    rcases he with z|z
    ·exact absurd (hbe.trans z) hb
    ·rw[hbe];exact z
   rw[q]at q';cases q';obtain⟨v,hv⟩:=heo;exact⟨v,by rw[hbe];exact hv⟩
  ·refine(ok b u q).stay (λc v hc r=>k c v ?_ r) (λc r=>by rw[XJ (nown c b r)];exact r) λc xs r=>by rw[XJ (ntup c xs r)];exact r
   rcases hc with rfl|hc
   ·exact hbe
   ·rintro rfl;rcases he with z|z
    ·exact nown c b hc z
    ·rw[hc]at z;cases z;exact hb rfl
end
structure Un (fs ex:List Addr) (H H':Hp) (h h':Heap):Prop where
 keep:∀b o,h.get? b=some o->H b=none->b∉fs->b∉ex->h'.get? b=some o
 slot:∀b o,h.get? b=some o->H b=none->b∈fs->b∉ex->∃sl,h'.get? b=some {o with slots:=sl}
 free:∀b o,h.get? b=some o->H b=none->b∉ex->H' b=none
 there:∀b o,h.get? b=some o->b∉ex->∃o',h'.get? b=some o'
 tups:∀b xs,H b=some (.tup xs)->H' b=some (.tup xs)
 frzs:∀b o u,H b=some (.frz o u)->H' b=some (.frz o u)
 tbls:∀b ps,H b=some (.tbl ps)->∃more,H' b=some (.tbl (ps++more))
section
variable{fs fs' ex ex':List Addr}{H H1 H2:Hp}{h h1 h2 h':Heap}{a x e:Addr}{o:HO}
theorem Un.any(u:Un fs ex H H1 h h1){b:Addr}{ob:Obj}(q:h.get? b=some ob)(n:H b=none)(hx:b∉ex):∃sl,h1.get? b=some {ob with slots:=sl}:=by
 by_cases hb:b∈fs
 ·exact u.slot b ob q n hb hx
 ·exact⟨ob.slots,u.keep b ob q n hb hx⟩
theorem Un.kept(k:∀b u,h.get? b=some u->h'.get? b=some u):Un fs ex H H h h':=
 ⟨λb ob q _ _ _=>k b ob q,λb ob q _ _ _=>⟨ob.slots,k b ob q⟩,λ_ _ _ n _=>n,λb ob q _=>⟨ob,k b ob q⟩,λ_ _ q=>q,λ_ _ _ q=>q,λ_ ps q=>⟨#[],by rw[q];simp⟩⟩
theorem Un.refl:Un fs ex H H h h:=Un.kept λ_ _ q=>q
theorem Un.laid(k:∀b u,h.get? b=some u->h'.get? b=some u)(hp:h.objs.size≤a)(hn:H a=none):Un fs ex H (upd H a o) h h' where
 keep:=λb u q _ _ _=>k b u q
 slot:=λb u q _ _ _=>⟨u.slots,k b u q⟩
 free:=λb u q n _=>by rw[XJ (XC (YK (Xv q) hp))];exact n
 there:=λb u q _=>⟨u,k b u q⟩
 tups:=λb xs q=>by rw[XJ (UY q hn)];exact q
 frzs:=λb u xs q=>by rw[XJ (UY q hn)];exact q
 tbls:=λb ps q=>⟨#[],by rw[XJ (UY q hn),q];simp⟩
theorem Un.write(mu:Mut (H x))(he:e=x\/H e=some (.own x))(k:∀b u,b≠e->h.get? b=some u->h'.get? b=some u)(heo:∃u,h'.get? e=some u):Un fs ex H (upd H x o) h h':=by
 have hx:∀b,H b=none->b≠x:=λb n z=>by subst z;rw[n]at mu;exact mu
 have hb:∀b,H b=none->b≠e:=λb n z=>by
  subst z;rcases he with r|r
  ·exact hx b n r
  ·rw[n]at r;cases r
 have hm:∀b u,H b=some u->¬Mut (some u)->b≠x:=λb u q nm z=>by subst z;rw[q]at mu;exact nm mu
 refine⟨λb u q n _ _=>k b u (hb b n) q,λb u q n _ _=>⟨u.slots,k b u (hb b n) q⟩,λb u q n _=>by rw[XJ (hx b n)];exact n,λb u q _=>?_,
  λb xs q=>by rw[XJ (hm b _ q λz=>z)];exact q,λb u xs q=>by rw[XJ (hm b _ q λz=>z)];exact q,λb ps q=>⟨#[],by rw[XJ (hm b _ q λz=>z),q];simp⟩⟩
 by_cases hbe:b=e
 ·subst hbe;exact heo
 ·exact⟨u,k b u hbe q⟩
end
noncomputable def trk(h:Heap)(H:Hp):List Addr:=(XN h.objs.size).filter λa=>(H a).isSome
noncomputable def hidT(h:Heap)(H:Hp):Heap:=PySem.W.hideAll h (trk h H)
theorem QI(h:Heap)(H:Hp):(hidT h H).objs.size=h.objs.size:=PySem.W.hideAll_size _ _
theorem QJ{h:Heap}{H:Hp}{b:Addr}{o:Obj}(e:h.get? b=some o)(n:H b=none):(hidT h H).get? b=some o:=
 PySem.W.hideAll_get _ e λhm=>by
  have q:(H b).isSome=true:=(D0.mp hm).2;rw[n]at q;simp at q
theorem QK{h:Heap}{H:Hp}{b:Addr}{o:Obj}(e:(hidT h H).get? b=some o):h.get? b=some o/\H b=none:=by
 have e':h.get? b=some o:=PySem.W.of_hideAll (trk h H) e;refine⟨e',?_⟩;cases q:H b with
 |none=>rfl
 |some x=>
  have hm:b∈trk h H:=D0.mpr ⟨Bu.mpr (Xv e'),by simp[q]⟩
  have z:(hidT h H).get? b=none:=PySem.W.hideAll_none (trk h H) hm;rw[z]at e;cases e
noncomputable def QL(g h:Heap)(L:Addr):List (Addr×Obj):=(XN h.objs.size).filterMap λa=>if a=L\/(g.get? a).isSome=true then none else(h.get? a).map λo=>(a,o)
noncomputable def rest(g h:Heap)(L d:Addr):List (Addr×Obj):=(QL g h L).filter λp=>decide (p.1≠d)
structure Mod (K:X5) (mg:Str->Option X0) (base:Heap):Prop where
 kin:K.In base
 glob:base.Ns XA mg
 blt:∃mb,base.Ns builtinsNs mb/\∀x:Str,x≠"__name__"->mb x=YD x
 nolimit:base.NoLimit
structure Cx where
 prog:Xl
 w:Xe
 K:X5
 mg:Str->Option X0
 base:Heap
 A:Xq
 N:List Str
 s₀:X1
 H₀:Hp
 env:Env
 outer:List Env
 stack:List Env
 ex:List Addr
 fn:Str->Bool
 calm:Bool
 pn:List (Addr×Obj)
 xe:X0->X1->Prop
noncomputable def frs(l:List Env):List Addr:=l.filterMap (·.frame)
noncomputable abbrev Cx.fs(X:Cx):List Addr:=frs X.outer
noncomputable def Vis(sc:Scope)(x:Str):Prop:=sc.names.lookup x=some .local\/sc.names.lookup x=some .cell\/sc.names.lookup x=some .free
noncomputable def Loc(sc:Scope)(x:Str):Prop:=sc.names.lookup x=some .local\/sc.names.lookup x=some .cell
noncomputable def Look(env:Env)(h:Heap)(m:Str->Option X0)(x:Str)(u:X0):Prop:=
 (env.kindOf x=some .local/\m x=some u)\/((env.kindOf x=some .cell\/env.kindOf x=some .free)/\∃c,env.cells.lookup x=some c/\h.IsCell c (some u))
structure Cx.Ok (X:Cx):Prop where
 mod:Mod X.K X.mg X.base
 kind:X.env.scope.kind=.function
 glob:X.env.globals=XA
 blt:X.env.builtins=builtinsNs
 above:X.s₀.heap.objs.size≤X.env.locals
 inj:∀x y c,X.env.cells.lookup x=some c->X.env.cells.lookup y=some c->x=y
 has:∀x,(X.env.kindOf x=some .cell\/X.env.kindOf x=some .free)->∃c,X.env.cells.lookup x=some c
 cab:∀x c,X.fn x=true->X.env.cells.lookup x=some c->X.s₀.heap.objs.size≤c
 hd:X.calm=true->X.A.handled=none
 frames:X.A.frames=some X.stack
 stk:X.stack=X.outer\/(X.stack=X.env::X.outer/\X.env.frame=some X.env.locals)
 exf:∀b∈X.ex,b≠X.env.locals/\∀x c,X.env.cells.lookup x=some c->c≠b
 bs:∀b o,X.base.get? b=some o->X.s₀.heap.get? b=some o/\X.H₀ b=none
 bsz:X.base.objs.size≤X.s₀.heap.objs.size
 noex:∀b o,X.base.get? b=some o->b∉X.ex
 exfs:∀b∈X.ex,b∉X.fs
 funs:X.s₀.heap.FunFrames X.base X.outer
 frf:∀b∈X.fs,X.H₀ b=none
structure Inv (X:Cx) (pins:List (Addr×Obj)) (σ:List (Option V)) (H:Hp) (s:X1):Prop where
 ok:X.Ok
 os:s.os=X.s₀.os
 bare:AllBare s.gens
 base:Un X.fs X.ex X.H₀ H X.s₀.heap s.heap
 loc:∃m,s.heap.Ns X.env.locals m/\∀(i:Nat) (x:Str) (v:V),X.N[i]?=some x->σ[i]?=some (some v)->Vis X.env.scope x->∃u,RelV v u/\Look X.env s.heap m x u
 cell:∀x c,X.env.cells.lookup x=some c->∃v,s.heap.IsCell c v
 free:H X.env.locals=none
 freeC:∀x c,X.env.cells.lookup x=some c->H c=none
 pin:∀p∈X.pn++pins,s.heap.get? p.1=some p.2/\H p.1=none/\p.1≠X.env.locals/\p.1∉X.fs/\∀v,p.2.data≠.cell v
 hok:HOk X.prog X.w H s.heap
 len:σ.length=X.N.length
section
variable{X:Cx}{pins:List (Addr×Obj)}{σ:List (Option V)}{H H':Hp}{s:X1}{h':Heap}
theorem Cx.Ok.nofr(ok:X.Ok){b:Addr}{o:Obj}(e:X.base.get? b=some o):b∉X.fs:=λhb=>by
 have:=(ok.funs.mem hb).1;rw[e]at this;cases this
theorem Inv.bs(I:Inv X pins σ H s):∀b o,X.base.get? b=some o->s.heap.get? b=some o/\H b=none:=λb o e=>
 ⟨I.base.keep b o (I.ok.bs b o e).1 (I.ok.bs b o e).2 (I.ok.nofr e) (I.ok.noex b o e),I.base.free b o (I.ok.bs b o e).1 (I.ok.bs b o e).2 (I.ok.noex b o e)⟩
theorem Inv.bk(I:Inv X pins σ H s):∀b o,X.base.get? b=some o->s.heap.get? b=some o:=λb o e=>(I.bs b o e).1
theorem Inv.mod(I:Inv X pins σ H s):Mod X.K X.mg X.base:=I.ok.mod
theorem Inv.kIn(I:Inv X pins σ H s):X.K.In s.heap:=I.ok.mod.kin.keeps I.bk
theorem Inv.fr(I:Inv X pins σ H s):∃m,Fr X.base X.env.locals s.heap m:=
 let⟨m,hn,_⟩:=I.loc
 ⟨m,hn,I.bk,XV I.ok.bsz I.ok.above⟩
theorem Inv.lt(I:Inv X pins σ H s):X.env.locals<s.heap.objs.size:=let⟨_,hn,_⟩:=I.loc;hn.lt
theorem Inv.sz(I:Inv X pins σ H s):X.s₀.heap.objs.size≤s.heap.objs.size:=XV I.ok.above (BE I.lt)
theorem Inv.nofs(I:Inv X pins σ H s){a:Addr}(h:s.heap.objs.size≤a):a∉X.fs:=λhb=>by
 obtain⟨_,o,ho,_⟩:=I.ok.funs.mem hb;exact absurd (YK (Xv ho) (XV I.sz h)) (Vm _)
theorem Inv.cne(I:Inv X pins σ H s):∀x c,X.env.cells.lookup x=some c->c≠X.env.locals:=λx c e z=>by
 obtain⟨v,o,ho,hd⟩:=I.cell x c e;obtain⟨m,⟨o',es,ep,ho',hd',_⟩,_⟩:=I.loc;rw[z,ho']at ho;cases ho;rw[hd']at hd;cases hd
theorem Inv.funs(I:Inv X pins σ H s):s.heap.FunFrames X.base X.outer:=by
 have all:∀(l:List Env),(∀b∈frs l,b∈X.fs)->X.s₀.heap.FunFrames X.base l->s.heap.FunFrames X.base l:=by
  intro l
  induction l with
  |nil=>intro _ _;trivial
  |cons env r ih=>
   intro hs hl;obtain⟨hk,⟨L,o,hf,hn,ho,hd⟩,hr⟩:=hl;have hL:L∈X.fs:=hs L (by unfold frs;rw[CV,hf];exact Yh)
   obtain⟨sl,e⟩:=I.base.slot L o ho (I.ok.frf L hL) hL λz=>I.ok.exfs L z hL;exact⟨hk,⟨L,_,hf,hn,e,hd⟩,ih (λb hb=>hs b (by unfold frs;rw[CV,hf];exact Yb _ hb)) hr⟩
 exact all X.outer (λ_ hb=>hb) I.ok.funs
theorem Inv.stack(I:Inv X pins σ H s):s.heap.FunFrames X.base X.stack:=by
 rcases I.ok.stk with e|⟨e,hf⟩
 ·rw[e];exact I.funs
 ·rw[e];obtain⟨m,hn,_⟩:=I.loc;refine .cons (by rw[I.ok.kind];decide) hf hn ?_ I.funs
  exact Heap.get?_none_of_le (XV I.ok.bsz I.ok.above)
theorem Inv.stkSub(I:Inv X pins σ H s):∀b∈frs X.stack,b∈X.env.locals::X.fs:=λb hb=>by
 rcases I.ok.stk with e|⟨e,hf⟩
 ·rw[e]at hb;exact Yb _ hb
 ·rw[e]at hb;unfold frs at hb;rw[CV,hf]at hb;exact hb
theorem Inv.stkFree(I:Inv X pins σ H s):∀b∈frs X.stack,H b=none:=λb hb=>by
 rcases Xn.mp (I.stkSub b hb)with e|hb
 ·rw[e];exact I.free
 ·obtain⟨_,o,ho,_⟩:=I.ok.funs.mem hb;exact I.base.free b o ho (I.ok.frf b hb) λz=>I.ok.exfs b z hb
theorem Inv.step{g':Array ZV}{t':Nat}{d':Drawn}{ch:List Addr}(I:Inv X pins σ H s)
  (hch:∀b∈ch,(b∈X.ex\/X.s₀.heap.objs.size≤b)/\b≠X.env.locals/\(∀x c,X.env.cells.lookup x=some c->c≠b)/\∀p∈X.pn++pins,p.1≠b)
  (keep:∀b o,b≠X.env.locals->b∉X.fs->b∉ch->s.heap.get? b=some o->H b=none->h'.get? b=some o)
  (slot:∀b o,b≠X.env.locals->b∈X.fs->b∉ch->s.heap.get? b=some o->H b=none->∃sl,h'.get? b=some {o with slots:=sl}) (free:∀b o,b∉ch->s.heap.get? b=some o->H b=none->H' b=none)
  (there:∀b o,b∉ch->s.heap.get? b=some o->∃o',h'.get? b=some o')
  (tups:∀b xs,H b=some (.tup xs)->H' b=some (.tup xs)) (frzs:∀b o u,H b=some (.frz o u)->H' b=some (.frz o u)) (tbls:∀b ps,H b=some (.tbl ps)->∃more,H' b=some (.tbl (ps++more)))
  (ns:∀m,s.heap.Ns X.env.locals m->h'.Ns X.env.locals m) (hok:HOk X.prog X.w H' h') (hg:AllBare g'):
  Inv X pins σ H' {s with heap:=h',gens:=g',drawn:=d',toks:=t'}:=by
 have neL:∀b o,X.s₀.heap.get? b=some o->b≠X.env.locals:=λb o e=>XC (YK (Xv e) I.ok.above);have neC:∀b o,X.s₀.heap.get? b=some o->b∉X.ex->b∉ch:=λb o e hx hb=>by
  rcases(hch b hb).1 with z|z
  ·exact hx z
  ·exact absurd (YK (Xv e) z) (Vm _)
 have cellK:∀x c,X.env.cells.lookup x=some c->∀v,s.heap.IsCell c v->h'.IsCell c v:=λx c e v ⟨o,ho,hd⟩=>by
  have nch:c∉ch:=λz=>(hch c z).2.2.1 x c e rfl;by_cases hc:c∈X.fs
  ·obtain⟨sl,q⟩:=slot c o (I.cne x c e) hc nch ho (I.freeC x c e);exact⟨_,q,hd⟩
  ·exact⟨o,keep c o (I.cne x c e) hc nch ho (I.freeC x c e),hd⟩
 refine⟨I.ok,I.os,hg,⟨λb o e n hb hx=>?_,λb o e n hb hx=>?_,λb o e n hx=>?_,λb o e hx=>?_,λb xs e=>tups b xs (I.base.tups b xs e),λb o xs e=>frzs b o xs (I.base.frzs b o xs e),λb ps e=>?_⟩,?_,λx c e=>?_,?_,λx c e=>?_,λp hp=>?_,hok,I.len⟩
 ·exact keep b o (neL b o e) hb (neC b o e hx) (I.base.keep b o e n hb hx) (I.base.free b o e n hx)
 ·obtain⟨sl,e1⟩:=I.base.slot b o e n hb hx;obtain⟨sl',e2⟩:=slot b _ (neL b o e) hb (neC b o e hx) e1 (I.base.free b o e n hx);exact⟨sl',e2⟩
 ·obtain⟨o',e1⟩:=I.base.there b o e hx;exact free b o' (neC b o e hx) e1 (I.base.free b o e n hx)
 ·obtain⟨o',e1⟩:=I.base.there b o e hx;exact there b o' (neC b o e hx) e1
 ·obtain⟨m1,e1⟩:=I.base.tbls b ps e;obtain⟨m2,e2⟩:=tbls b _ e1;exact⟨m1++m2,by rw[e2,Array.append_assoc]⟩
 ·obtain⟨m,hn,hl⟩:=I.loc;refine⟨m,ns m hn,λi x v e1 e2 e3=>?_⟩;obtain⟨u,r,l⟩:=hl i x v e1 e2 e3;refine⟨u,r,?_⟩;rcases l with l|⟨k,c,e,z⟩
  ·exact .inl l
  ·exact .inr ⟨k,c,e,cellK x c e _ z⟩
 ·obtain⟨v,z⟩:=I.cell x c e;exact⟨v,cellK x c e v z⟩
 ·obtain⟨m,⟨o,_,_,ho,_⟩,_⟩:=I.loc;exact free _ o (λz=>(hch _ z).2.1 rfl) ho I.free
 ·obtain⟨v,o,ho,hd⟩:=I.cell x c e;exact free c o (λz=>(hch c z).2.2.1 x c e rfl) ho (I.freeC x c e)
 ·obtain⟨e,n,ne,nf,d⟩:=I.pin p hp;have nch:p.1∉ch:=λz=>(hch p.1 z).2.2.2 p hp rfl;exact⟨keep p.1 p.2 ne nf nch e n,free p.1 p.2 nch e n,ne,nf,d⟩
theorem Inv.un{t':Nat}(I:Inv X pins σ H s)(u:Un X.fs [] H H' s.heap h')(hok:HOk X.prog X.w H' h'):Inv X pins σ H' {s with heap:=h',toks:=t'}:=by
 obtain⟨m,⟨o,es,ep,ho,r⟩,_⟩:=id I.loc;obtain⟨sl,hL⟩:=u.any ho I.free (by simp)
 exact I.step (g':=s.gens) (d':=s.drawn) (ch:=[]) (λ_ z=>nomatch z) (λb o _ hb _ e n=>u.keep b o e n hb (by simp)) (λb o _ hb _ e n=>u.slot b o e n hb (by simp)) (λb o _ e n=>u.free b o e n (by simp)) (λb o _ e=>u.there b o e (by simp)) u.tups u.frzs u.tbls (λm' hm=>by
  obtain⟨o',es',ep',ho',r'⟩:=hm;rw[ho]at ho';cases ho';exact⟨_,es',ep',hL,r'⟩) hok I.bare
theorem Inv.call{g':Array ZV}{t':Nat}{d':Drawn}{ch:List Addr}(I:Inv X pins σ H s)(u:Un (frs X.stack) ch H H' s.heap h')(hok:HOk X.prog X.w H' h')(hg:AllBare g')
  (hch:∀b∈ch,(b∈X.ex\/X.s₀.heap.objs.size≤b)/\b≠X.env.locals/\(∀x c,X.env.cells.lookup x=some c->c≠b)/\∀p∈X.pn++pins,p.1≠b):
  Inv X pins σ H' {s with heap:=h',gens:=g',drawn:=d',toks:=t'}:=by
 obtain⟨m,⟨o,es,ep,ho,r⟩,_⟩:=id I.loc;obtain⟨sl,hL⟩:=u.any ho I.free λz=>(hch _ z).2.1 rfl;exact I.step (ch:=ch) hch (λb o hL hb hc e n=>u.keep b o e n (λz=>(Xn.mp (I.stkSub b z)).elim hL hb) hc) (λb o _ _ hc e n=>u.any e n hc) (λb o hc e n=>u.free b o e n hc) (λb o hc e=>u.there b o e hc) u.tups u.frzs u.tbls (λm' hm=>by
  obtain⟨o',es',ep',ho',r'⟩:=hm;rw[ho]at ho';cases ho';exact⟨_,es',ep',hL,r'⟩) hok hg
theorem Inv.turned{t':Nat}{it:Addr}(I:Inv X pins σ H s)(k:∀b o,b≠it->s.heap.get? b=some o->h'.get? b=some o)(hn:H it=none)(hL:it≠X.env.locals)
  (h1:it∈X.ex\/X.s₀.heap.objs.size≤it) (h2:∀x c,X.env.cells.lookup x=some c->c≠it) (h3:∀p∈X.pn++pins,p.1≠it):Inv X pins σ H {s with heap:=h',toks:=t'}:=by
 have nit:∀b u,H b=some u->b≠it:=λb u e z=>by rw[z,hn]at e;cases e
 refine I.step (g':=s.gens) (d':=s.drawn) (ch:=[it]) (λb hb=>?_) (λb o _ _ hc e _=>k b o (λz=>hc (by simp[z])) e) (λb o _ _ hc e _=>⟨o.slots,k b o (λz=>hc (by simp[z])) e⟩) (λ_ _ _ _ n=>n)
  (λb o hc e=>⟨o,k b o (λz=>hc (by simp[z])) e⟩) (λ_ _ e=>e) (λ_ _ _ e=>e) (λb ps e=>⟨#[],by rw[e];simp⟩) (λm hm=>?_) (λb u e=>?_) I.bare
 ·have e:b=it:=by simpa using hb
  subst e;exact⟨h1,hL,h2,h3⟩
 ·obtain⟨o,es,ep,ho,r⟩:=hm;exact⟨o,es,ep,k _ o (Za hL) ho,r⟩
 ·refine(I.hok b u e).stay (λc v hc q=>k c v ?_ q) (λ_ q=>q) λ_ _ q=>q;rcases hc with z|z
  ·rw[z];exact nit b u e
  ·exact nit c _ z
theorem Inv.tok(I:Inv X pins σ H s)(t:Nat):Inv X pins σ H {s with toks:=t}:=I.un (h':=s.heap) (t':=t) Un.refl I.hok
theorem Inv.kept{t':Nat}(I:Inv X pins σ H s)(k:∀b u,s.heap.get? b=some u->h'.get? b=some u):Inv X pins σ H {s with heap:=h',toks:=t'}:=I.un (Un.kept k) (I.hok.kept k)
theorem Inv.laid{a:Addr}{o:HO}{t':Nat}(I:Inv X pins σ H s)(k:∀b u,s.heap.get? b=some u->h'.get? b=some u)(hp:s.heap.objs.size≤a)(new:ObjOk X.prog X.w (upd H a o) h' a o):
  Inv X pins σ (upd H a o) {s with heap:=h',toks:=t'}:=I.un (Un.laid k hp (I.hok.fresh hp)) (I.hok.laid k hp new)
theorem Inv.write{x e:Addr}{o:HO}{t':Nat}(I:Inv X pins σ H s)(mu:Mut (H x))(he:e=x\/H e=some (.own x))(k:∀b u,b≠e->s.heap.get? b=some u->h'.get? b=some u)(heo:∃u,h'.get? e=some u)
  (new:ObjOk X.prog X.w (upd H x o) h' x o):Inv X pins σ (upd H x o) {s with heap:=h',toks:=t'}:=I.un (Un.write mu he k heo) (I.hok.write mu he k heo new)
theorem Inv.weak{σ':List (Option V)}(I:Inv X pins σ H s)(hl:σ'.length=σ.length)(w:∀(i:Nat) v,σ'[i]?=some (some v)->σ[i]?=some (some v)):Inv X pins σ' H s:=
 ⟨I.ok,I.os,I.bare,I.base,let⟨m,hn,hl'⟩:=I.loc;⟨m,hn,λi x v e1 e2 e3=>hl' i x v e1 (w i v e2) e3⟩,I.cell,I.free,I.freeC,I.pin,I.hok,hl.trans I.len⟩
theorem Inv.pins_of{pins':List (Addr×Obj)}(I:Inv X pins σ H s)(h:∀p∈pins',s.heap.get? p.1=some p.2/\H p.1=none/\p.1≠X.env.locals/\p.1∉X.fs/\∀v,p.2.data≠.cell v):Inv X pins' σ H s:=
 ⟨I.ok,I.os,I.bare,I.base,I.loc,I.cell,I.free,I.freeC,λp hp=>(Ys.mp hp).elim (λz=>I.pin p (List.mem_append_left _ z)) (h p),I.hok,I.len⟩
theorem GQ{N:List Str}(hN:N.Nodup){i j:Nat}{x:Str}(a:N[i]?=some x) (b:N[j]?=some x):i=j:=by
 obtain⟨h1,e1⟩:=Xx.mp a;obtain⟨h2,e2⟩:=Xx.mp b;exact(List.getElem_inj hN).mp (e1.trans e2.symm)
theorem GR{M:Model}{A:Xq}{E:X0->X1->Prop}{i:Nat}{x:Str}{v:V}{u:X0}{Q:Unit->X1->Prop}(I:Inv X pins σ H s)(hN:X.N.Nodup)(hi:X.N[i]?=some x) (hx:Loc X.env.scope x) (r:RelV v u)
  (h:∀s',Inv X pins (σ.set i (some v)) H s'->(∃a,Um a s.heap s'.heap/\(a=X.env.locals\/X.env.cells.lookup x=some a))->Q () s') (hf:X.fn x=true\/X.env.scope.names.lookup x=some .local:=by first|exact .inl rfl|exact .inr rfl|assumption):X4 M A (storeName X.env x u) Q E s:=by
 obtain⟨m,hn,hl⟩:=id I.loc;have hcls:(X.env.scope.kind==.class||(X.env.scope.kind==.module&&X.env.locals != X.env.globals))=false:=by rw[I.ok.kind];rfl
 have hiσ:i<σ.length:=by rw[I.len];exact(Xx.mp hi).1
 have cne:=I.cne;have tracked:∀{a:Addr} {h':Heap},(∃o,s.heap.get? a=some o/\H a=none)->Um a s.heap h'->HOk X.prog X.w H h':=fun{a h'} ha hs b ob e=>by
  obtain⟨_,_,hfree⟩:=ha;refine(I.hok b ob e).stay (λc w' hc q=>(hs.2 c ?_).trans q) (λ_ q=>q) λ_ _ q=>q;rintro rfl;rcases hc with rfl|hc
  ·rw[hfree]at e;cases e
  ·rw[hfree]at hc;cases hc
 rcases hx with hk|hk
 ·refine wpAny_storeName_local hk hn (λh' hn' hs=>?_) hcls;obtain⟨oL,_,_,hoL,_⟩:=id hn;refine h _ ⟨I.ok,I.os,I.bare,⟨λb o e n hb hx=>?_,λb o e n hb hx=>?_,I.base.free,λb o e hx=>?_,I.base.tups,I.base.frzs,I.base.tbls⟩,⟨_,hn',λj y v' e1 e2 e3=>?_⟩,λy c e=>?_,I.free,I.freeC,λp hp=>?_,tracked ⟨oL,hoL,I.free⟩ hs,by simpa using I.len⟩ ⟨_,hs,.inl rfl⟩
  ·exact(hs.2 b (XC (YK (Xv e) I.ok.above))).trans (I.base.keep b o e n hb hx)
  ·obtain⟨sl,e1⟩:=I.base.slot b o e n hb hx;exact⟨sl,(hs.2 b (XC (YK (Xv e) I.ok.above))).trans e1⟩
  ·obtain⟨o',e1⟩:=I.base.there b o e hx;exact⟨o',(hs.2 b (XC (YK (Xv e) I.ok.above))).trans e1⟩
  ·by_cases hj:j=i
   ·subst hj;rw[hi]at e1;cases e1;rw[Ga hiσ]at e2;cases e2;exact⟨u,r,.inl ⟨hk,by simp⟩⟩
   ·rw[List.getElem?_set_ne (Za hj)]at e2;obtain⟨u',r',q⟩:=hl j y v' e1 e2 e3;refine⟨u',r',?_⟩;rcases q with⟨k,e⟩|⟨k,c,e,z⟩
    ·refine .inl ⟨k,?_⟩;have:y≠x:=λe=>hj (GQ hN e1 (e▸hi));simp[this,e]
    ·exact .inr ⟨k,c,e,z.sameBut hs (cne y c e)⟩
  ·obtain⟨w',z⟩:=I.cell y c e;exact⟨w',z.sameBut hs (cne y c e)⟩
  ·obtain⟨e,n,ne,nf,d⟩:=I.pin p hp;exact⟨(hs.2 p.1 ne).trans e,n,ne,nf,d⟩
 ·have hfn:X.fn x=true:=by
   rcases hf with z|z
   ·exact z
   ·rw[z]at hk;cases hk
  obtain⟨c,hc⟩:=I.ok.has x (.inl hk);obtain⟨w',z⟩:=I.cell x c hc;refine wpAny_storeName_cell I.ok.kind hk hc z (λh' hc' hs=>?_);obtain⟨oc,hoc,hocd⟩:=id z;refine h {s with heap:=h'} ⟨I.ok,I.os,I.bare,⟨λb o e n hb hx=>?_,λb o e n hb hx=>?_,I.base.free,λb o e hx=>?_,I.base.tups,I.base.frzs,I.base.tbls⟩,⟨m,hn.sameBut hs (Za (cne x c hc)),λj y v' e1 e2 e3=>?_⟩,λy c' e=>?_,I.free,I.freeC,λp hp=>?_,tracked ⟨oc,hoc,I.freeC x c hc⟩ hs,by simpa using I.len⟩ ⟨c,hs,.inr hc⟩
  ·exact(hs.2 b (XC (YK (Xv e) (I.ok.cab x c hfn hc)))).trans (I.base.keep b o e n hb hx)
  ·obtain⟨sl,e1⟩:=I.base.slot b o e n hb hx;exact⟨sl,(hs.2 b (XC (YK (Xv e) (I.ok.cab x c hfn hc)))).trans e1⟩
  ·obtain⟨o',e1⟩:=I.base.there b o e hx;exact⟨o',(hs.2 b (XC (YK (Xv e) (I.ok.cab x c hfn hc)))).trans e1⟩
  ·by_cases hj:j=i
   ·subst hj;rw[hi]at e1;cases e1;rw[Ga hiσ]at e2;cases e2;exact⟨u,r,.inr ⟨.inl hk,c,hc,hc'⟩⟩
   ·rw[List.getElem?_set_ne (Za hj)]at e2;obtain⟨u',r',q⟩:=hl j y v' e1 e2 e3;refine⟨u',r',?_⟩;rcases q with q|⟨k,c',e,z'⟩
    ·exact .inl q
    ·refine .inr ⟨k,c',e,z'.sameBut hs ?_⟩;rintro rfl;exact hj (GQ hN e1 (I.ok.inj _ _ _ e hc▸hi))
  ·by_cases hcc:c'=c
   ·subst hcc;exact⟨_,hc'⟩
   ·obtain⟨w2,z2⟩:=I.cell y c' e;exact⟨w2,z2.sameBut hs hcc⟩
  ·obtain⟨e,n,ne,nf,d⟩:=I.pin p hp;refine⟨(hs.2 p.1 ?_).trans e,n,ne,nf,d⟩;intro q;rw[q,hoc]at e;have q':oc=p.2:=Yk e;exact d w' (by rw[<- q'];exact hocd)
theorem GS{M:Model}{A:Xq}{E:X0->X1->Prop}{i:Nat}{x:Str}{v:V}{u:X0}{Q:Unit->X1->Prop}(I:Inv X pins σ H s)(hN:X.N.Nodup)(hi:X.N[i]?=some x) (hx:Loc X.env.scope x) (r:RelV v u)
  (h:∀s',Inv X pins (σ.set i (some v)) H s'->Q () s') (hf:X.fn x=true\/X.env.scope.names.lookup x=some .local:=by first|exact .inl rfl|exact .inr rfl|assumption):X4 M A (storeName X.env x u) Q E s:=
 GR I hN hi hx r (λs' I' _=>h s' I') hf
theorem Inv.call'{s':X1}{ch:List Addr}(I:Inv X pins σ H s)(ho:s'.os=s.os)(u:Un (frs X.stack) ch H H' s.heap s'.heap)(hok:HOk X.prog X.w H' s'.heap)(hg:AllBare s'.gens)
  (hch:∀b∈ch,(b∈X.ex\/X.s₀.heap.objs.size≤b)/\b≠X.env.locals/\(∀x c,X.env.cells.lookup x=some c->c≠b)/\∀p∈X.pn++pins,p.1≠b):Inv X pins σ H' s':=by
 obtain⟨h',g',d',t',o'⟩:=s';have e:o'=s.os:=ho;subst e;exact I.call (g':=g') (t':=t') (d':=d') u hok hg hch
end
noncomputable abbrev XK:=X0->Option Addr->Hp->Prop
noncomputable abbrev St:=List (Option V)
noncomputable abbrev VK:=V->Hp->Prop
noncomputable abbrev TE:=St->Hp->VK->Prop
noncomputable abbrev TT:=St->Hp->(Bool->Hp->Prop)->Prop
noncomputable abbrev TA:=St->Hp->(List V->Hp->Prop)->Prop
structure Ends where
 nx:St->Hp->Prop
 rt:VK
 bk:St->Hp->Prop:=λ_ _=>False
 ct:St->Hp->Prop:=λ_ _=>False
noncomputable abbrev TS:=Ends->St->Hp->Prop
noncomputable def EP(X:Cx)(pins:List (Addr×Obj))(σ:St)(Q:VK)(u:X0)(s':X1):Prop:=∃v H',Inv X pins σ H' s'/\RelV v u/\Q v H'
noncomputable def TP(X:Cx)(pins:List (Addr×Obj))(σ:St)(Q:Bool->Hp->Prop)(b:Bool)(s':X1):Prop:=∃H',Inv X pins σ H' s'/\Q b H'
noncomputable def AP(X:Cx)(pins:List (Addr×Obj))(σ:St)(Q:List V->Hp->Prop)(us:List X0)(s':X1):Prop:=∃vs H',Inv X pins σ H' s'/\Vals vs us/\Q vs H'
noncomputable def SP(X:Cx)(pins:List (Addr×Obj))(D:Ends)(f:Flow)(s':X1):Prop:=
 match f with
 |.next=>∃σ' H',Inv X pins σ' H' s'/\D.nx σ' H'
 |.brk=>∃σ' H',Inv X pins σ' H' s'/\D.bk σ' H'
 |.cont=>∃σ' H',Inv X pins σ' H' s'/\D.ct σ' H'
 |.ret u=>∃v σ' H',Inv X pins σ' H' s'/\RelV v u/\D.rt v H'
noncomputable def PE(X:Cx)(e:Expr)(t:TE):Prop:=
 ∀(pins:List (Addr×Obj)) (s:X1) (σ:St) (H:Hp) (Q:VK),Inv X pins σ H s->t σ H Q->X4 (X8 X.prog X.w) X.A (eval e X.env) (EP X pins σ Q) X.xe s
noncomputable def PT(X:Cx)(e:Expr)(t:TT):Prop:=
 ∀(pins:List (Addr×Obj)) (s:X1) (σ:St) (H:Hp) (Q:Bool->Hp->Prop),Inv X pins σ H s->t σ H Q->X4 (X8 X.prog X.w) X.A (isTrue e X.env (eval e X.env)) (TP X pins σ Q) X.xe s
noncomputable def PW(X:Cx)(e:Expr)(t:TT):Prop:=
 ∀(whole:Sem X0) (pins:List (Addr×Obj)) (s:X1) (σ:St) (H:Hp) (Q:Bool->Hp->Prop),Inv X pins σ H s->t σ H Q->X4 (X8 X.prog X.w) X.A (isTrue e X.env whole) (TP X pins σ Q) X.xe s
theorem PW.pt{X:Cx}{e:Expr}{t:TT}(h:PW X e t):PT X e t:=h _
noncomputable def PA(X:Cx)(es:List Expr)(t:TA):Prop:=
 ∀(pos:Pos) (pins:List (Addr×Obj)) (s:X1) (σ:St) (H:Hp) (Q:List V->Hp->Prop),Inv X pins σ H s->t σ H Q->X4 (X8 X.prog X.w) X.A (spliced (Yq pos (XG es X.env))) (AP X pins σ Q) X.xe s
noncomputable def PS(X:Cx)(st:Stmt)(t:TS):Prop:=
 ∀(pins:List (Addr×Obj)) (s:X1) (σ:St) (H:Hp) (D:Ends),Inv X pins σ H s->t D σ H->X4 (X8 X.prog X.w) X.A (exec st X.env) (SP X pins D) X.xe s
noncomputable def PSs(X:Cx)(st:List Stmt)(t:TS):Prop:=
 ∀(pins:List (Addr×Obj)) (s:X1) (σ:St) (H:Hp) (D:Ends),Inv X pins σ H s->t D σ H->X4 (X8 X.prog X.w) X.A (execs st X.env) (SP X pins D) X.xe s
theorem thn{α:Type}{t:Sem α}{Q Q':α->X1->Prop}{M:Model}{A:Xq}{E:X0->X1->Prop}{s:X1}(h:X4 M A t Q E s)(hQ:∀a s,Q a s->Q' a s):X4 M A t Q' E s:=Zp h hQ λ_ _ x=>x
section
variable{X:Cx}
theorem bin{a b:Expr}{ta tb:TE}(ha:PE X a ta)(hb:PE X b tb){pins:List (Addr×Obj)}{s:X1}{σ:St}{H:Hp}{R:V->V->Hp->Prop}(I:Inv X pins σ H s)(h:ta σ H λx H1=>tb σ H1 λy H2=>R x y H2)
  {α:Type} {Q:α->X1->Prop} {f:X0->X0->Sem α}
  (hf:∀v u s2 x y H2,Inv X pins σ H2 s2->RelV x v->RelV y u->R x y H2->X4 (X8 X.prog X.w) X.A (f v u) Q X.xe s2):
  X4 (X8 X.prog X.w) X.A (eval a X.env) (λv s₁=>X4 (X8 X.prog X.w) X.A (eval b X.env) (λu s₂=>X4 (X8 X.prog X.w) X.A (f v u) Q X.xe s₂) X.xe s₁) X.xe s:=by
 refine thn (ha pins s σ H _ I h) λv s1 ⟨x,H1,I1,r1,q1⟩=>?_;refine thn (hb pins s1 σ H1 _ I1 q1) λu s2 ⟨y,H2,I2,r2,q2⟩=>?_;exact hf v u s2 x y H2 I2 r1 r2 q2
noncomputable def tVar(i:Nat):TE:=λσ H Q=>∃v,σ[i]?=some (some v)/\Q v H
noncomputable def tC(v:V):TE:=λ_ H Q=>Q v H
theorem GT{i:Nat}{x:Str}{pos:Pos}(hN:X.N[i]?=some x) (hv:Vis X.env.scope x) (hd:(x==("__debug__":Str))=false:=by decide) (hcd:(x==("__classdict__":Str))=false:=by decide):PE X (.Name x pos) (tVar i):=by
 intro pins s σ H Q I h;obtain⟨v,e,h⟩:=h;obtain⟨m,hn,hl⟩:=I.loc;obtain⟨u,r,l⟩:=hl i x v hN e hv;have fin:EP X pins σ Q u s:=⟨v,H,I,r,h⟩;rcases l with⟨hk,hm⟩|⟨hk,c,hc,hcell⟩
 ·exact wpAny_Name (wpAny_loadName_local I.ok.kind hk hn hm fin) hd
 ·rcases hk with hk|hk
  ·exact wpAny_Name (wpAny_loadName_cell I.ok.kind hk hc hcell fin) hd
  ·exact wpAny_Name (wpAny_loadName_free I.ok.kind hk hc hcell fin hcd) hd
theorem pe_int{i j pos}:PE X (.Constant (.int i) j pos) (tC (.int i)):=λ_ _ _ H _ I h=>wpAny_Constant_int ⟨.int i,H,I.tok _,⟨_,rfl⟩,h⟩
theorem pe_bl{b j pos}:PE X (.Constant (.bool b) j pos) (tC (.bl b)):=λ_ _ _ H _ I h=>Constant_bool ⟨.bl b,H,I,rfl,h⟩
theorem pe_non{j pos}:PE X (.Constant .none j pos) (tC .non):=λ_ _ _ H _ I h=>Constant_none ⟨.non,H,I,rfl,h⟩
theorem pe_str{x j pos}:PE X (.Constant (.str x) j pos) (tC (.str x)):=λ_ _ _ H _ I h=>Calls.Constant_str ⟨.str x,H,I.tok _,⟨_,rfl⟩,h⟩
noncomputable def Gl(X:Cx)(x:Str):Prop:=X.env.kindOf x=some .globalImplicit
theorem GU{E:X0->X1->Prop}{pins:List (Addr×Obj)}{s:X1}{σ:St}{H:Hp}{x:Str}{u:X0}{pos:Pos}{Q:X0->X1->Prop}(I:Inv X pins σ H s)(hg:Gl X x)(hm:X.mg x=some u)(h:Q u s)
  (hd:(x==("__debug__":Str))=false:=by decide):X4 (X8 X.prog X.w) X.A (eval (.Name x pos) X.env) Q E s:=
 GA I.ok.kind hg (Calls.loadGlobal_global (by rw[I.ok.glob];exact I.mod.glob.keeps I.bk) hm h) hd
theorem ZK{E:X0->X1->Prop}{pins:List (Addr×Obj)}{s:X1}{σ:St}{H:Hp}{x:Str}{u:X0}{pos:Pos}{Q:X0->X1->Prop}(I:Inv X pins σ H s)(hg:Gl X x)(hm:X.mg x=none)(hv:YD x=some u)(h:Q u s)
  (hn:x≠"__name__":=by decide) (hd:(x==("__debug__":Str))=false:=by decide):X4 (X8 X.prog X.w) X.A (eval (.Name x pos) X.env) Q E s:=by
 obtain⟨mb,h1,h2⟩:=I.mod.blt;exact GA I.ok.kind hg (Calls.loadGlobal_builtin (by rw[I.ok.glob];exact I.mod.glob.keeps I.bk) hm (by rw[I.ok.blt];exact h1.keeps I.bk) ((h2 x hn).trans hv) h) hd
theorem QN{x:Str}{v:V}{u:X0}{pos:Pos}(hg:Gl X x)(hm:X.mg x=some u)(r:RelV v u)(hd:(x==("__debug__":Str))=false:=by decide):PE X (.Name x pos) (tC v):=
 λ_ _ _ H _ I h=>GU I hg hm ⟨v,H,I,r,h⟩ hd
theorem QO{x:Str}{v:V}{u:X0}{pos:Pos}(hg:Gl X x)(hm:X.mg x=none)(hv:YD x=some u)(r:RelV v u)(hn:x≠"__name__":=by decide)(hd:(x==("__debug__":Str))=false:=by decide):PE X (.Name x pos) (tC v):=
 λ_ _ _ H _ I h=>ZK I hg hm hv ⟨v,H,I,r,h⟩ hn hd
variable{a b:Expr}{ta tb:TE}{pos:Pos}
noncomputable def tB(t:TE):TT:=λσ H Q=>t σ H λx H1=>∃c,x=.bl c/\Q c H1
theorem QP{e:Expr}{t:TE}(h:PE X e t)(he:∀whole,isTrue e X.env whole=(do let v<- whole;standAt e.pos;holding [v] (truthy v)):=by intro _;rfl):PT X e (tB t):=by
 intro pins s σ H Q I hw;refine isTrue_plain (thn (h pins s σ H _ I hw) λv s1 ⟨x,H1,I1,r1,q1⟩=>?_) (he _);obtain⟨d,rfl,q⟩:=q1;cases r1;exact Zq ⟨H1,I1,q⟩
variable{tA tB':TT}{rest:List Expr}
noncomputable def tAnd(t u:TT):TT:=λσ H Q=>t σ H λc H1=>if c=true then u σ H1 Q else Q false H1
noncomputable def tOr(t u:TT):TT:=λσ H Q=>t σ H λc H1=>if c=true then Q true H1 else u σ H1 Q
noncomputable def tNot(t:TT):TT:=λσ H Q=>t σ H λc H1=>Q (!c) H1
theorem pw_and1(ha:PT X a tA):PW X (.BoolOp .And [a] pos) tA:=by
 intro wh pins s σ H Q I h;refine isTrue_and (thn (ha pins s σ H Q I h) λc s1 e=>?_);cases c with
 |true=>exact isTrue_and_nil e
 |false=>exact e
theorem pw_or1(ha:PT X a tA):PW X (.BoolOp .Or [a] pos) tA:=by
 intro wh pins s σ H Q I h;refine isTrue_or (thn (ha pins s σ H Q I h) λc s1 e=>?_);cases c with
 |false=>exact isTrue_or_nil e
 |true=>exact e
theorem pw_and(ha:PT X a tA)(hb:PW X (.BoolOp .And (b::rest) pos) tB'):PW X (.BoolOp .And (a::b::rest) pos) (tAnd tA tB'):=by
 intro wh pins s σ H Q I h;refine isTrue_and (thn (ha pins s σ H _ I h) λc s1 ⟨H1,I1,q1⟩=>?_);cases c with
 |true=>exact hb wh pins s1 σ H1 Q I1 q1
 |false=>exact⟨H1,I1,q1⟩
theorem pw_or(ha:PT X a tA)(hb:PW X (.BoolOp .Or (b::rest) pos) tB'):PW X (.BoolOp .Or (a::b::rest) pos) (tOr tA tB'):=by
 intro wh pins s σ H Q I h;refine isTrue_or (thn (ha pins s σ H _ I h) λc s1 ⟨H1,I1,q1⟩=>?_);cases c with
 |true=>exact⟨H1,I1,q1⟩
 |false=>exact hb wh pins s1 σ H1 Q I1 q1
theorem QQ(ha:PT X a tA):PT X (.UnaryOp .Not a pos) (tNot tA):=by
 intro pins s σ H Q I h;exact isTrue_not (ha pins s σ H (λc H1=>Q (!c) H1) I h)
noncomputable def QR(ta tb:TE):TE:=λσ H Q=>ta σ H λx H1=>∃c,x=.bl c/\if c=true then tb σ H1 Q else Q (.bl false) H1
noncomputable def tOrV(ta tb:TE):TE:=λσ H Q=>ta σ H λx H1=>∃c,x=.bl c/\if c=true then Q (.bl true) H1 else tb σ H1 Q
noncomputable def QS(ta:TE):TE:=λσ H Q=>ta σ H λx H1=>∃c,x=.bl c/\Q (.bl (!c)) H1
theorem GV{op}{t:TE}(h:PE X a t):PE X (.BoolOp op [a] pos) t:=λpins s σ H Q I hw=>BoolOp_one (h pins s σ H Q I hw)
theorem QT(ha:PE X a ta)(hb:PE X (.BoolOp .And (b::rest) pos) tb):PE X (.BoolOp .And (a::b::rest) pos) (QR ta tb):=by
 intro pins s σ H Q I h;refine BoolOp_and (thn (ha pins s σ H _ I h) λv s1 ⟨x,H1,I1,r1,q1⟩=>?_);obtain⟨c,rfl,q1⟩:=q1;cases r1;refine Zq ?_;cases c with
 |true=>exact hb pins s1 σ H1 Q I1 q1
 |false=>exact⟨.bl false,H1,I1,rfl,q1⟩
theorem QU(ha:PE X a ta)(hb:PE X (.BoolOp .Or (b::rest) pos) tb):PE X (.BoolOp .Or (a::b::rest) pos) (tOrV ta tb):=by
 intro pins s σ H Q I h;refine BoolOp_or (thn (ha pins s σ H _ I h) λv s1 ⟨x,H1,I1,r1,q1⟩=>?_);obtain⟨c,rfl,q1⟩:=q1;cases r1;refine Zq ?_;cases c with
 |false=>exact hb pins s1 σ H1 Q I1 q1
 |true=>exact⟨.bl true,H1,I1,rfl,q1⟩
theorem QV(ha:PE X a ta):PE X (.UnaryOp .Not a pos) (QS ta):=by
 intro pins s σ H Q I h;refine UnaryOp_ (thn (ha pins s σ H _ I h) λv s1 ⟨x,H1,I1,r1,q1⟩=>?_);obtain⟨c,rfl,q1⟩:=q1;cases r1;exact not_of (Zq ⟨.bl (!c),H1,I1,rfl,q1⟩)
noncomputable def tIf(t:TT)(ta tb:TE):TE:=λσ H Q=>t σ H λc H1=>if c=true then ta σ H1 Q else tb σ H1 Q
theorem QW{c:Expr}(hc:PT X c tA)(ha:PE X a ta)(hb:PE X b tb):PE X (.IfExp c a b pos) (tIf tA ta tb):=by
 intro pins s σ H Q I h;refine wpAny_IfExp (thn (hc pins s σ H _ I h) λd s1 ⟨H1,I1,q1⟩=>?_);cases d with
 |true=>exact ha pins s1 σ H1 Q I1 q1
 |false=>exact hb pins s1 σ H1 Q I1 q1
end
noncomputable def SqL(K:X5)(H:Hp)(a:Addr)(xs:List V):Prop:=
 Rd H a (.lst xs)\/
  ∃(o:Obj) (its:Array X0) (n:Nat),K.lookup a=some o/\o.cls=.type "list"/\o.dict=none/\o.data=.seq its n/\its.size≤sizeLine/\Vals xs its.toList
noncomputable def SqT(K:X5)(H:Hp)(a:Addr)(xs:List V):Prop:=
 Rd H a (.tup xs)\/
  ∃(o:Obj) (its:Array X0) (n:Nat),K.lookup a=some o/\o.cls=.type "tuple"/\o.data=.seq its n/\its.size≤sizeLine/\Vals xs its.toList
noncomputable def absV:X0->Option V
 |.none=>some .non
 |.bool b=>some (.bl b)
 |.int i _=>some (.int i)
 |.str x _=>some (.str x)
 |.bytes b _=>some (.byt b)
 |.float b _=>some (.flt b)
 |.ref a=>some (.ref a)
 |.type n=>some (.ty n)
 |_=>none
theorem RelV.abs{x:V}{u:X0}(r:RelV x u):absV u=some x:=by
 cases x with
 |non=>cases r;rfl
 |bl _=>cases r;rfl
 |int _=>obtain⟨t,rfl⟩:=r;rfl
 |str _=>obtain⟨t,rfl⟩:=r;rfl
 |byt _=>obtain⟨t,rfl⟩:=r;rfl
 |flt _=>obtain⟨t,rfl⟩:=r;rfl
 |ref _=>cases r;rfl
 |ty _=>cases r;rfl
theorem RelV.inj{x y:V}{u:X0}(r:RelV x u)(q:RelV y u):x=y:=Yk (r.abs.symm.trans q.abs)
theorem Vals.inj:∀{xs ys:List V} {us:List X0},Vals xs us->Vals ys us->xs=ys
 |_,_,_,.nil,.nil=>rfl
 |_,_,_,.cons r t,.cons r' t'=>by rw[r.inj r',Vals.inj t t']
section
variable{X:Cx}{pins:List (Addr×Obj)}{σ:St}{H:Hp}{s:X1}{a:Addr}{xs ys:List V}
theorem SqL.of{K:X5}(h:H a=some (.lst xs)):SqL K H a xs:=.inl (.inl h)
theorem SqT.of{K:X5}(h:H a=some (.tup xs)):SqT K H a xs:=.inl (.inl h)
theorem Inv.list(I:Inv X pins σ H s)(h:SqL X.K H a xs):∃its:List X0,Vals xs its/\PlainL s.heap a its.toArray/\xs.length≤sizeLine:=by
 rcases h with h|⟨o,its,n,hk,hc,hd,hs,hz,r⟩
 ·obtain⟨z,its,n,r,e⟩:=h.ok I.hok;exact⟨its,r,⟨_,n,e,rfl,rfl,rfl⟩,z⟩
 ·refine⟨its.toList,r,⟨o,n,I.kIn a o hk,hc,hd,by simpa using hs⟩,?_⟩
  have e:=r.length;simp only[XW]at e;lia
theorem Inv.tuple(I:Inv X pins σ H s)(h:SqT X.K H a xs):∃its:List X0,Vals xs its/\IsTup s.heap a its.toArray/\xs.length≤sizeLine:=by
 rcases h with h|⟨o,its,n,hk,hc,hs,hz,r⟩
 ·obtain⟨z,its,r,p⟩:=h.ok I.hok;exact⟨its,r,p.1,z⟩
 ·refine⟨its.toList,r,⟨o,I.kIn a o hk,hc,n,by simpa using hs⟩,?_⟩
  have e:=r.length;simp only[XW]at e;lia
theorem Inv.list_inj(I:Inv X pins σ H s)(h:SqL X.K H a xs)(h':SqL X.K H a ys):xs=ys:=by
 obtain⟨its,r,⟨o,n,e,_,_,d⟩,_⟩:=I.list h;obtain⟨its',r',⟨o',n',e',_,_,d'⟩,_⟩:=I.list h';rw[e]at e';cases e';rw[d]at d';injection d' with d1 _;have:its=its':=by simpa using congrArg Array.toList d1
 subst this;exact r.inj r'
theorem Inv.tuple_inj(I:Inv X pins σ H s)(h:SqT X.K H a xs)(h':SqT X.K H a ys):xs=ys:=by
 obtain⟨its,r,⟨o,e,_,n,d⟩,_⟩:=I.tuple h;obtain⟨its',r',⟨o',e',_,n',d'⟩,_⟩:=I.tuple h';rw[e]at e';cases e';rw[d]at d';injection d' with d1 _;have:its=its':=by simpa using congrArg Array.toList d1
 subst this;exact r.inj r'
end
noncomputable abbrev Cx.wish(X:Cx)(E:X0->X1->Prop):Cx:={X with xe:=E}
noncomputable abbrev Cx.nox(X:Cx):Cx:=X.wish λ_ _=>False
theorem Cx.Ok.wish{X:Cx}(ok:X.Ok)(E:X0->X1->Prop):(X.wish E).Ok:=
 ⟨ok.mod,ok.kind,ok.glob,ok.blt,ok.above,ok.inj,ok.has,ok.cab,ok.hd,ok.frames,ok.stk,ok.exf,ok.bs,ok.bsz,ok.noex,ok.exfs,ok.funs,ok.frf⟩
theorem Cx.Ok.unwish{X:Cx}{E:X0->X1->Prop}(ok:(X.wish E).Ok):X.Ok:=
 ⟨ok.mod,ok.kind,ok.glob,ok.blt,ok.above,ok.inj,ok.has,ok.cab,ok.hd,ok.frames,ok.stk,ok.exf,ok.bs,ok.bsz,ok.noex,ok.exfs,ok.funs,ok.frf⟩
section
variable{X:Cx}{pins:List (Addr×Obj)}{σ:St}{H:Hp}{s:X1}{E:X0->X1->Prop}
theorem Inv.wish(I:Inv X pins σ H s)(E:X0->X1->Prop):Inv (X.wish E) pins σ H s:=⟨I.ok.wish E,I.os,I.bare,I.base,I.loc,I.cell,I.free,I.freeC,I.pin,I.hok,I.len⟩
theorem Inv.unwish(I:Inv (X.wish E) pins σ H s):Inv X pins σ H s:=⟨I.ok.unwish,I.os,I.bare,I.base,I.loc,I.cell,I.free,I.freeC,I.pin,I.hok,I.len⟩
theorem SP.unwish{D:Ends}{f:Flow}{s':X1}(h:SP (X.wish E) pins D f s'):SP X pins D f s':=by
 cases f with
 |next=>obtain⟨σ',H',I,q⟩:=h;exact⟨σ',H',I.unwish,q⟩
 |brk=>obtain⟨σ',H',I,q⟩:=h;exact⟨σ',H',I.unwish,q⟩
 |cont=>obtain⟨σ',H',I,q⟩:=h;exact⟨σ',H',I.unwish,q⟩
 |ret u=>obtain⟨v,σ',H',I,r,q⟩:=h;exact⟨v,σ',H',I.unwish,r,q⟩
theorem PSs.nox{st:List Stmt}{t:TS}(h:PSs X.nox st t):PSs X st t:=λpins s σ H D I hw=>
 Zp (h pins s σ H D (I.wish _) hw) (λ_ _ q=>q.unwish) λ_ _ z=>Yy z
end
section
variable{X:Cx}{st:Stmt}{rest:List Stmt}{t u:TS}{e:Expr}{te:TE}{pos:Pos}
noncomputable def QX:TS:=λD σ H=>D.nx σ H
noncomputable def tSeq(t u:TS):TS:=λD σ H=>t {D with nx:=u D} σ H
theorem pss_nil:PSs X [] QX:=λ_ _ σ H _ I h=>wpAny_execs_nil ⟨σ,H,I,h⟩
theorem QY(h1:PS X st t)(h2:PSs X rest u):PSs X (st::rest) (tSeq t u):=by
 intro pins s σ H D I h;refine wpAny_execs_cons (thn (h1 pins s σ H {D with nx:=u D} I h) λf s1 q=>?_);cases f with
 |next=>
  obtain⟨σ',H',I',q⟩:=q;exact h2 pins s1 σ' H' D I' q
 |ret v=>exact q
 |brk=>exact q
 |cont=>exact q
theorem Inv.quiet{pins:List (Addr×Obj)}{σ:St}{H:Hp}{s:X1}(I:Inv X pins σ H s):interactive X.env=false:=by simp[interactive,I.ok.kind]
noncomputable def QZ(te:TE):TS:=λD σ H=>te σ H λ_ H1=>D.nx σ H1
theorem R0(he:PE X e te)(hs:Uh e none pos.line X.env=pure false:=by rfl):PS X (.Expr e pos) (QZ te):=by
 intro pins s σ H D I h;exact wpAny_Expr_any (thn (he pins s σ H _ I h) λv s1 ⟨x,H1,I1,r1,q1⟩=>⟨σ,H1,I1,q1⟩) I.quiet hs
noncomputable def tRet(te:TE):TS:=λD σ H=>te σ H D.rt
theorem R1(he:PE X e te):PS X (.Return (some e) pos) (tRet te):=by
 intro pins s σ H D I h;exact wpAny_Return_some (thn (he pins s σ H _ I h) λv s1 ⟨x,H1,I1,r1,q1⟩=>⟨x,σ,H1,I1,r1,q1⟩)
noncomputable def tIfS(c:TT)(t u:TS):TS:=λD σ H=>c σ H λb H1=>if b=true then t D σ H1 else u D σ H1
theorem R3{c:Expr}{a b:List Stmt}{tc:TT}(hc:PT X c tc)(ha:PSs X a t)(hb:PSs X b u):PS X (.If c a b pos) (tIfS tc t u):=by
 intro pins s σ H D I h;refine wpAny_If (thn (hc pins s σ H _ I h) λd s1 ⟨H1,I1,q1⟩=>?_);cases d with
 |true=>exact ha pins s1 σ H1 D I1 q1
 |false=>exact hb pins s1 σ H1 D I1 q1
noncomputable def R4:TS:=λ_ _ _=>False
theorem ps_never:PS X st R4:=λ_ _ _ _ _ _ h=>h.elim
end
noncomputable abbrev TG:=V->St->Hp->(St->Hp->Prop)->Prop
noncomputable abbrev TGs:=List V->St->Hp->(St->Hp->Prop)->Prop
noncomputable def PG(X:Cx)(target:Expr)(t:TG):Prop:=
 ∀(pins:List (Addr×Obj)) (s:X1) (σ:St) (H:Hp) (v:V) (u:X0) (Q:St->Hp->Prop),Inv X pins σ H s->RelV v u->t v σ H Q->
  X4 (X8 X.prog X.w) X.A (assign target X.env u) (λ_ s'=>∃σ' H',Inv X pins σ' H' s'/\Q σ' H') X.xe s
noncomputable def PGs(X:Cx)(ts:List Expr)(t:TGs):Prop:=
 ∀(pins:List (Addr×Obj)) (s:X1) (σ:St) (H:Hp) (vs:List V) (us:List X0) (Q:St->Hp->Prop),Inv X pins σ H s->Vals vs us->t vs σ H Q->
  X4 (X8 X.prog X.w) X.A (assignInOrder ((Zr ts X.env).map (·.2)) us) (λ_ s'=>∃σ' H',Inv X pins σ' H' s'/\Q σ' H') X.xe s
noncomputable abbrev TSet:=V->V->V->Hp->(Hp->Prop)->Prop
noncomputable def PSet(X:Cx)(t:TSet):Prop:=
 ∀(pins:List (Addr×Obj)) (s:X1) (σ:St) (H:Hp) (o i v:V) (ov iv u:X0) (Q:Hp->Prop),Inv X pins σ H s->RelV o ov->RelV i iv->RelV v u->t o i v H Q->
  X4 (X8 X.prog X.w) X.A (setItem ov iv u) (λ_ s'=>∃H',Inv X pins σ H' s'/\Q H') X.xe s
section
variable{X:Cx}{pos:Pos}
noncomputable def BV(i:Nat):TG:=λv σ H Q=>Q (σ.set i (some v)) H
theorem GW{i:Nat}{x:Str}(hN:X.N.Nodup)(hi:X.N[i]?=some x) (hx:Loc X.env.scope x) (hf:X.fn x=true\/X.env.scope.names.lookup x=some .local:=by first|exact .inl rfl|exact .inr rfl|assumption):PG X (.Name x pos) (BV i):=by
 intro pins s σ H v u Q I r h;exact wpAny_assign_Name (GS I hN hi hx r (λs' I'=>⟨_,H,I',h⟩) hf)
noncomputable def gNil:TGs:=λvs σ H Q=>vs=[]/\Q σ H
noncomputable def GX(t:TG)(u:TGs):TGs:=λvs σ H Q=>∃v r,vs=v::r/\t v σ H λσ' H'=>u r σ' H' Q
theorem R5:PGs X [] gNil:=by
 intro pins s σ H vs us Q I r h;obtain⟨e,h⟩:=h;subst e;cases r;exact assignInOrder_nil ⟨σ,H,I,h⟩
theorem R6{e:Expr}{es:List Expr}{t:TG}{u:TGs}(h1:PG X e t)(h2:PGs X es u)
  (hs:(Zr (e::es) X.env).map (·.2)=assign e X.env::(Zr es X.env).map (·.2):=by rfl):PGs X (e::es) (GX t u):=by
 intro pins s σ H vs us Q I r h;obtain⟨v,vr,e1,h⟩:=h;subst e1;cases r with
 |cons r rr=>
  rw[hs];refine assignInOrder_cons (thn (h1 pins s σ H _ _ _ I r h) λ_ s1 ⟨σ1,H1,I1,q1⟩=>?_);exact h2 pins s1 σ1 H1 _ _ Q I1 rr q1
noncomputable def gTup(K:X5)(n:Nat)(t:TGs):TG:=λv σ H Q=>∃a xs,v=.ref a/\SqT K H a xs/\xs.length=n/\t xs σ H Q
theorem R7{es:List Expr}{k:Nat}{t:TGs}{n:Nat}(hc:X.calm=true)(h:PGs X es t)
  (hn:(Zr es X.env).length=n:=by rfl) (hst:(Zr es X.env).findIdx? (·.1)=none:=by rfl):PG X (.Tuple es k pos) (gTup X.K n t):=by
 intro pins s σ H v u Q I r hw;obtain⟨a,xs,e1,hq,hl,hw⟩:=hw;subst e1;cases r;obtain⟨its,rv,ht,hz⟩:=I.tuple hq;refine assign_Tuple_tuple (I.ok.hd hc) ht (by simp[hn,<- hl,rv.length]) hst λh' hx=>?_
 have I1:Inv X pins σ H {s with heap:=h'}:=I.kept (t':=s.toks) λb o e=>hx b o (XC (Xv e)) e;exact h pins _ σ H xs _ Q I1 (by simpa using rv) hw
noncomputable def gSub(to ti:TE)(t:TSet):TG:=λv σ H Q=>to σ H λo H1=>ti σ H1 λi H2=>t o i v H2 λH3=>Q σ H3
theorem R8{o i:Expr}{to ti:TE}{t:TSet}(ho:PE X o to)(hi:PE X i ti)(hs:PSet X t)
  (ha:∀v,assign (.Subscript o i pos) X.env v=(do
   let ov<- holding [v] (eval o X.env)
   let iv<- holding [v,ov] (eval i X.env)
   standAt pos
   holding [v,ov,iv] (setItem ov iv v)
   release [v,ov,iv] []):=by intro _;rfl):PG X (.Subscript o i pos) (gSub to ti t):=by
 intro pins s σ H v u Q I r h;rw[ha];refine X3 (YI (thn (ho pins s σ H _ I h) λov s1 ⟨x,H1,I1,r1,q1⟩=>?_));refine X3 (YI (thn (hi pins s1 σ H1 _ I1 q1) λiv s2 ⟨y,H2,I2,r2,q2⟩=>?_));refine X3 (wpAny_standAt (X3 (YI (thn (hs pins s2 σ H2 x y v ov iv u _ I2 r1 r2 r q2) λ_ s3 ⟨H3,I3,q3⟩=>?_))));exact wpAny_release ⟨σ,H3,I3,q3⟩
noncomputable def tAsg(te:TE)(g:TG):TS:=λD σ H=>te σ H λx H1=>g x σ H1 D.nx
theorem GY{tg e:Expr}{te:TE}{g:TG}(he:PE X e te)(hg:PG X tg g)(hs:swapsWithSole [tg] e pos.line X.env=pure false:=by rfl)(hw:swappedStores [tg] e X.env=pure none:=by rfl)
  (h1:(Zr [tg] X.env).map (·.2)=[assign tg X.env]:=by rfl):PS X (.Assign [tg] e pos) (tAsg te g):=by
 intro pins s σ H D I h;refine wpAny_Assign_stores (thn (he pins s σ H _ I h) λv s1 ⟨x,H1,I1,r1,q1⟩=>?_) hs hw;rw[h1];exact thn (hg pins s1 σ H1 x v _ I1 r1 q1) λ_ s2 q=>q
theorem GZ{i:Nat}{x:Str}{e:Expr}{te:TE}{pos':Pos}(hN:X.N.Nodup)(hi:X.N[i]?=some x) (hx:Loc X.env.scope x) (he:PE X e te) (hs:Uh e (some (.Name x pos')) pos.line X.env=pure false:=by rfl) (hf:X.fn x=true\/X.env.scope.names.lookup x=some .local:=by first|exact .inl rfl|exact .inr rfl|assumption):
  PS X (.Assign [.Name x pos'] e pos) (tAsg te (BV i)):=by
 intro pins s σ H D I h;refine wpAny_Assign_Name (thn (he pins s σ H _ I h) λv s1 ⟨y,H1,I1,r1,q1⟩=>?_) hs;exact GS I1 hN hi hx r1 (λs2 I2=>⟨_,H1,I2,q1⟩) hf
end
section
variable{X:Cx}{pos:Pos}
end
structure It where
 go:Nat->Hp->Prop
 yld:Nat->Hp->V->Hp->Prop
 stop:Nat->Hp->Prop
noncomputable def FpOk(X:Cx)(pins:List (Addr×Obj))(H:Hp)(b:Addr):Prop:=
 H b=none/\b≠X.env.locals/\b∉X.fs/\(b∈X.ex\/X.s₀.heap.objs.size≤b)/\(∀x c,X.env.cells.lookup x=some c->c≠b)/\∀p∈X.pn++pins,p.1≠b
theorem Inv.fpOk{X:Cx}{pins:List (Addr×Obj)}{σ:St}{H H':Hp}{s:X1}{b:Addr}(I:Inv X pins σ H s)(hb:s.heap.objs.size≤b)(hn:H' b=none):FpOk X pins H' b:=by
 refine⟨hn,US (YK I.lt hb),I.nofs hb,.inr (XV I.sz hb),λx c e z=>?_,λp hp z=>?_⟩
 ·obtain⟨v,q⟩:=I.cell x c e;exact absurd (YK q.lt (by rw[z];exact hb)) (Vm _)
 ·exact absurd (YK (Xv (I.pin p hp).1) (by rw[z];exact hb)) (Vm _)
structure Turn (P:Xl) (w:Xe) (K:X5) (tg:Expr) (J:It) (fp:List Addr) (it:Addr) (tn:Nat->Heap->Prop):Prop where
 mem:it∈fp
 obj:∀i h,tn i h->∀b∈fp,∃o,h.get? b=some o/\∀v,o.data≠.cell v
 keep:∀i h h',tn i h->(∀b∈fp,∀o,h.get? b=some o->h'.get? b=some o)->tn i h'
 item:∀(X:Cx),X.prog=P->X.w=w->X.K=K->X.calm=true->∀(i:Nat) (pins:List (Addr×Obj)) (s:X1) (σ:St) (H:Hp) (E:X0->X1->Prop),Inv X pins σ H s->(∀b∈fp,FpOk X pins H b)->tn i s.heap->J.go i H->
  X4 (X8 P w) X.A (pyNext (.ref it)) (λr s1=>∃u,r=some u/\
   X4 (X8 P w) X.A (Bj tg (.ref it) u) (λ_ s2=>∃x H',Inv X pins σ H' s2/\RelV x u/\J.yld i H x H'/\tn (i+1) s2.heap/\∀b∈fp,H' b=none) E s1) E s
 done:∀(X:Cx),X.prog=P->X.w=w->X.K=K->X.calm=true->∀(i:Nat) (pins:List (Addr×Obj)) (s:X1) (σ:St) (H:Hp) (E:X0->X1->Prop),Inv X pins σ H s->(∀b∈fp,FpOk X pins H b)->tn i s.heap->J.stop i H->
  X4 (X8 P w) X.A (pyNext (.ref it)) (λr s1=>r=none/\Inv X pins σ H s1) E s
 self:∀(A:Xq) (i:Nat) (s:X1) (Q:X0->X1->Prop) (E:X0->X1->Prop),tn i s.heap->Q (.ref it) s->X4 (X8 P w) A (pyIter (.ref it)) Q E s
noncomputable abbrev TI:=St->Hp->(It->Hp->Prop)->Prop
noncomputable def PIE(X:Cx)(pins:List (Addr×Obj))(σ:St)(tg:Expr)(R:It->Hp->Prop)(itv:X0)(s2:X1):Prop:=
 ∃(it:Addr) (fp:List Addr) (tn:Nat->Heap->Prop) (J:It) (H':Hp),itv=.ref it/\Inv X pins σ H' s2/\Turn X.prog X.w X.K tg J fp it tn/\tn 0 s2.heap/\(∀b∈fp,FpOk X pins H' b)/\R J H'
noncomputable def PI(X:Cx)(tg iter:Expr)(wi:TI):Prop:=
 ∀(pins:List (Addr×Obj)) (s:X1) (σ:St) (H:Hp) (R:It->Hp->Prop),Inv X pins σ H s->wi σ H R->
  X4 (X8 X.prog X.w) X.A (eval iter X.env) (λv s1=>X4 (X8 X.prog X.w) X.A (pyIter v) (PIE X pins σ tg R) X.xe s1) X.xe s
theorem UZ{M:Model}{A:Xq}{E:X0->X1->Prop}{s:X1}{tg:Expr}{it:Addr}{u:X0}{o:Obj}{n:String}{vs:Array X0}{Q:Unit->X1->Prop}(ho:s.heap.get? it=some o)(hc:o.cls=.type n)(hd:o.data=.fields vs)
  (hn:["enumerate","zip","dict_itemiterator","dict_reverseitemiterator","odict_iterator","itertools.zip_longest","itertools.pairwise"].contains n=false) (hQ:Q () s):X4 M A (Bj tg (.ref it) u) Q E s:=by
 unfold Bj;cases tg<;>first
  |exact Xa hQ
  |(cases u<;>first
    |exact Xa hQ
    |(refine X3 (Va ho ?_)
      rw[hc,hd];show X4 M A (if(["enumerate","zip","dict_itemiterator","dict_reverseitemiterator","odict_iterator","itertools.zip_longest","itertools.pairwise"].contains n&&vs[0]?==some (Y1 _))=true then _ else _) Q E s;rw[if_neg (by intro h;rw[hn,UP]at h;cases h)]
      exact Xa hQ))
noncomputable def Itl(K:X5)(a:Addr):It:=
 ⟨λi H=>∃xs x,SqL K H a xs/\xs[i]?=some x,λi H x H'=>H'=H/\∀xs,SqL K H a xs->xs[i]?=some x,λi H=>∃xs,SqL K H a xs/\xs.length≤i⟩
noncomputable def Itt(K:X5)(a:Addr):It:=
 ⟨λi H=>∃xs x,SqT K H a xs/\xs[i]?=some x,λi H x H'=>H'=H/\∀xs,SqT K H a xs->xs[i]?=some x,λi H=>∃xs,SqT K H a xs/\xs.length≤i⟩
noncomputable def Itr(lo:Int)(n:Nat):It:=⟨λi _=>i<n,λi H x H'=>H'=H/\x=.int (lo+i),λi _=>n≤i⟩
theorem R9{P:Xl}{w:Xe}{K:X5}{tg:Expr}(a it:Addr):Turn P w K tg (Itl K a) [it] it (λi h=>h.IsListIter it a i)where
 mem:=by simp
 obj:=λi h st b hb=>by
  have e:b=it:=by simpa using hb
  subst e;obtain⟨o,e,c,d⟩:=st;exact⟨o,e,λv z=>by rw[d]at z;cases z⟩
 keep:=λi h h' st k=>st.at λo e=>k it (by simp) o e
 item:=by
  intro X hP hw hK hc i pins s σ H E I hf st hg;subst hP hw hK;obtain⟨xs,x,hq,hx⟩:=hg;obtain⟨its,rv,p,hz⟩:=I.list hq;obtain⟨u,hu,ru⟩:=rv.get hx;obtain⟨f0,f1,f2,f3,f4,f5⟩:=hf it (by simp)
  refine wpAny_pyNext_list_item st p.isList (x:=u) (by simpa using hu) λh' st' sb=>?_
  have I1:Inv X pins σ H {s with heap:=h'}:=I.turned (t':=s.toks) (λb o hb e=>(sb.2 b hb).trans e) f0 f1 f3 f4 f5;obtain⟨o,e,c,d⟩:=id st';exact⟨u,rfl,UZ (s:={s with heap:=h'}) e c d (by decide) ⟨x,H,I1,ru,⟨rfl,λys hy=>by rw[I.list_inj hy hq];exact hx⟩,st',λb hb=>(hf b hb).1⟩⟩
 done:=by
  intro X hP hw hK hc i pins s σ H E I hf st hg;subst hP hw hK;obtain⟨xs,hq,hx⟩:=hg;obtain⟨its,rv,p,hz⟩:=I.list hq;obtain⟨f0,f1,f2,f3,f4,f5⟩:=hf it (by simp)
  have hl:=rv.length;exact wpAny_pyNext_list_end (I.ok.hd hc) st p.isList (by simp;lia) λh' eb=>⟨rfl,I.turned (t':=s.toks) (λb o hb e=>eb b o hb e) f0 f1 f3 f4 f5⟩
 self:=λ_ _ _ _ _ st h=>wpAny_pyIter_listiter st h
theorem Ra{P:Xl}{w:Xe}{K:X5}{tg:Expr}(a it:Addr):Turn P w K tg (Itt K a) [it] it (λi h=>h.IsTupleIter it a i)where
 mem:=by simp
 obj:=λi h st b hb=>by
  have e:b=it:=by simpa using hb
  subst e;obtain⟨o,e,c,d⟩:=st;exact⟨o,e,λv z=>by rw[d]at z;cases z⟩
 keep:=λi h h' st k=>st.at λo e=>k it (by simp) o e
 item:=by
  intro X hP hw hK hc i pins s σ H E I hf st hg;subst hP hw hK;obtain⟨xs,x,hq,hx⟩:=hg;obtain⟨its,rv,p,hz⟩:=I.tuple hq;obtain⟨u,hu,ru⟩:=rv.get hx;obtain⟨f0,f1,f2,f3,f4,f5⟩:=hf it (by simp)
  refine wpAny_pyNext_tuple_item st (show s.heap.IsTuple a its.toArray from p) (x:=u) (by simpa using hu) λh' st' sb=>?_
  have I1:Inv X pins σ H {s with heap:=h'}:=I.turned (t':=s.toks) (λb o hb e=>(sb.2 b hb).trans e) f0 f1 f3 f4 f5;obtain⟨o,e,c,d⟩:=id st';exact⟨u,rfl,UZ (s:={s with heap:=h'}) e c d (by decide) ⟨x,H,I1,ru,⟨rfl,λys hy=>by rw[I.tuple_inj hy hq];exact hx⟩,st',λb hb=>(hf b hb).1⟩⟩
 done:=by
  intro X hP hw hK hc i pins s σ H E I hf st hg;subst hP hw hK;obtain⟨xs,hq,hx⟩:=hg;obtain⟨its,rv,p,hz⟩:=I.tuple hq;obtain⟨f0,f1,f2,f3,f4,f5⟩:=hf it (by simp)
  have hl:=rv.length;exact wpAny_pyNext_tuple_end (I.ok.hd hc) st (show s.heap.IsTuple a its.toArray from p) (by simp;lia) λh' eb=>⟨rfl,I.turned (t':=s.toks) (λb o hb e=>eb b o hb e) f0 f1 f3 f4 f5⟩
 self:=λ_ _ _ _ _ st h=>wpAny_pyIter_tupleiter st h
theorem Rb{P:Xl}{w:Xe}{K:X5}{tg:Expr}(it:Addr)(lo:Int)(n:Nat):Turn P w K tg (Itr lo n) [it] it (λi h=>IsRangeIter h it (lo+(i:Nat)*1) ((n:Int) - (i:Nat)) 1)where
 mem:=by simp
 obj:=λi h st b hb=>by
  have e:b=it:=by simpa using hb
  subst e;exact⟨_,st,λv z=>by
   have z':ZH _=Data.cell v:=z;cases z'⟩
 keep:=λi h h' st k=>k it (by simp) _ st
 item:=by
  intro X hP hw hK hc i pins s σ H E I hf st hg;subst hP hw hK;obtain⟨f0,f1,f2,f3,f4,f5⟩:=hf it (by simp)
  have W:=Walks.range (prog:=X.prog) (w:=X.w) (I.ok.hd hc) it lo 1 n;refine W.item i s _ _ hg st λv h' tk hv st' kk=>?_;obtain⟨t,rfl⟩:=hv;have I1:Inv X pins σ H {s with heap:=h',toks:=tk}:=I.turned (λb o hb e=>kk b o (by simpa using hb) e) f0 f1 f3 f4 f5
  refine⟨_,rfl,UZ (s:={s with heap:=h',toks:=tk}) (n:="range_iterator") st' rfl rfl (by decide) ⟨.int (lo+i),H,I1,⟨t,?_⟩,⟨rfl,rfl⟩,st',fun b hb=>(hf b hb).1⟩⟩
  rw[Int.mul_one]
 done:=by
  intro X hP hw hK hc i pins s σ H E I hf st hg;subst hP hw hK;obtain⟨f0,f1,f2,f3,f4,f5⟩:=hf it (by simp)
  exact wpAny_pyNext_range_end (I.ok.hd hc) st (by have:n≤i:=hg;lia) λh' eb=>⟨rfl,I.turned (t':=s.toks) (λb o hb e=>eb b o hb e) f0 f1 f3 f4 f5⟩
 self:=λ_ _ _ _ _ st h=>wpAny_pyIter_rangeiter st h
section
variable{X:Cx}{tg:Expr}
theorem Ha{pins:List (Addr×Obj)}{σ:St}{H:Hp}{s:X1}{R:It->Hp->Prop}{E:X0->X1->Prop}{lo hi:Int}{t u v:Tok}{tk:Nat}(I:Inv X pins σ H s)(h1:-(2^62)≤lo)(h2:lo<2^62)(h3:-(2^62)≤hi)(h4:hi<2^62)
  (q:R (Itr lo (hi - lo).toNat) H):X4 (X8 X.prog X.w) X.A (pyIter (.ref s.heap.objs.size)) (PIE X pins σ tg R) E {s with heap:=s.heap.push {cls:=.type "range",data:=.fields #[.int lo t,.int hi u,.int 1 v]},toks:=tk}:=by
 refine wpAny_pyIter_range (Du ..) (small_one h1 h2 h3 h4) ?_;have I1:Inv X pins σ H {s with heap:=s.heap.push {cls:=.type "range",data:=.fields #[.int lo t,.int hi u,.int 1 v]},toks:=tk}:=I.kept fun b o e=>Xr _ e;refine⟨(s.heap.push {cls:=.type "range",data:=.fields #[.int lo t,.int hi u,.int 1 v]}).objs.size,[(s.heap.push {cls:=.type "range",data:=.fields #[.int lo t,.int hi u,.int 1 v]}).objs.size],_,_,H,rfl,
  I1.kept (t':=tk) λb o e=>Xr _ e,Rb _ lo (hi - lo).toNat,?_,λb hb=>?_,q⟩
 ·have e1:lo+((0:Nat):Int)*1=lo:=by simp
  have e2:(((hi - lo).toNat:Nat):Int) - ((0:Nat):Int)=Vp lo hi 1:=by rw[rangeSize_one];split<;>lia
  show IsRangeIter _ _ (lo+((0:Nat):Int)*1) ((((hi - lo).toNat:Nat):Int) - ((0:Nat):Int)) 1;rw[e1,e2];exact XQ _ rfl
 ·have e:b=(s.heap.push {cls:=.type "range",data:=.fields #[.int lo t,.int hi u,.int 1 v]}).objs.size:=by simpa using hb
  subst e;exact I1.fpOk (Xh _) (I1.hok.fresh (Xh _))
noncomputable def Rc(ta:TA):TI:=λσ H R=>ta σ H λvs H1=>∃j:Int,vs=[.int j]/\ -(2^62)≤j/\j<2^62/\R (Itr 0 j.toNat) H1
noncomputable def Re(ta:TA):TI:=λσ H R=>ta σ H λvs H1=>∃i j:Int,vs=[.int i,.int j]/\(-(2^62)≤i/\i<2^62/\ -(2^62)≤j/\j<2^62)/\R (Itr i (j - i).toNat) H1
theorem Rf{a:Expr}{ta:TA}{p pos:Pos}(hg:Gl X "range")(hm:X.mg "range"=none)(ha:PA X [a] ta)(hs:XG [a] X.env=[(false,eval a X.env)]:=by rfl):PI X tg (.Call (.Name "range" p) [a] [] pos) (Rc ta):=by
 intro pins s σ H R I h;refine Call_ (ZK I hg hm boot_range (UW (thn (ha pos pins s σ H _ I h) λus s1 ⟨vs,H1,I1,r1,q1⟩=>?_) hs rfl));obtain⟨j,e,q1,q2,q⟩:=q1;subst e;cases r1 with
 |cons r rr=>
  cases rr;obtain⟨t,rfl⟩:=r;exact call_range_1 (Ha I1 (by lia) (by lia) q1 q2 (by simpa using q))
theorem Rg{a b:Expr}{ta:TA}{p pos:Pos}(hg:Gl X "range")(hm:X.mg "range"=none)(ha:PA X [a,b] ta)(hs:XG [a,b] X.env=[(false,eval a X.env),(false,eval b X.env)]:=by rfl)(hs2:XG [b] X.env=[(false,eval b X.env)]:=by rfl):
  PI X tg (.Call (.Name "range" p) [a,b] [] pos) (Re ta):=by
 intro pins s σ H R I h;refine Call_ (ZK I hg hm boot_range (UW (thn (ha pos pins s σ H _ I h) λus s1 ⟨vs,H1,I1,r1,q1⟩=>?_) (by rw[hs,hs2]) (by rw[hs2];rfl)))
 obtain⟨i,j,e,⟨q1,q2,q3,q4⟩,q⟩:=q1;subst e;cases r1 with
 |cons r rr=>
  cases rr with
  |cons r' rr=>
   cases rr;obtain⟨t,rfl⟩:=r;obtain⟨t',rfl⟩:=r';exact call_range_2 (Ha I1 q1 q2 q3 q4 q)
noncomputable def tFor(wi:TI)(g:TG)(tb:TS):TS:=λD σ H=>wi σ H λJ H1=>∃W:Nat->Nat->St->Hp->Prop,(∃m,W 0 m σ H1)/\∀i m σ H,W i m σ H->
 (J.stop i H/\D.nx σ H)\/(J.go i H/\∃N:St->Hp->Prop,(∀σ' H',N σ' H'->∃m',m'<m/\W (i+1) m' σ' H')/\∀x H',J.yld i H x H'->g x σ H' λσ2 H2=>tb {D with nx:=N,ct:=N,bk:=D.nx} σ2 H2)
noncomputable def Vv(fp:List Addr)(h:Heap):List (Addr×Obj):=fp.filterMap λb=>(h.get? b).map λo=>(b,o)
theorem BW{fp:List Addr}{h:Heap}{b:Addr}{o:Obj}(hb:b∈fp)(e:h.get? b=some o):(b,o)∈Vv fp h:=List.mem_filterMap.mpr ⟨b,hb,by rw[e];rfl⟩
theorem Rh{fp:List Addr}{h:Heap}{p:Addr×Obj}(hp:p∈Vv fp h):p.1∈fp/\h.get? p.1=some p.2:=by
 obtain⟨b,hb,e⟩:=List.mem_filterMap.mp hp;cases q:h.get? b with
 |none=>rw[q]at e;cases e
 |some o=>
  rw[q]at e;have e':(b,o)=p:=Yk e;subst e';exact⟨hb,q⟩
theorem Inv.pinned{pins:List (Addr×Obj)}{σ:St}{H:Hp}{s:X1}{fp:List Addr}(I:Inv X pins σ H s)(hf:∀b∈fp,FpOk X pins H b)(ho:∀b∈fp,∃o,s.heap.get? b=some o/\∀v,o.data≠.cell v):Inv X (pins++Vv fp s.heap) σ H s:=
 I.pins_of λp hp=>(Ys.mp hp).elim (λz=>I.pin p (Zv _ z)) λz=>by
  obtain⟨hb,e⟩:=Rh z;obtain⟨f0,f1,f2,_⟩:=hf p.1 hb;obtain⟨o,e',d⟩:=ho p.1 hb;rw[e]at e';cases e';exact⟨e,f0,f1,f2,d⟩
theorem Inv.unpinned{pins pl:List (Addr×Obj)}{σ:St}{H:Hp}{s:X1}(I:Inv X (pins++pl) σ H s):Inv X pins σ H s:=I.pins_of λp hp=>I.pin p (Zv _ (List.mem_append_left _ hp))
theorem Ri{iter:Expr}{body:List Stmt}{wi:TI}{g:TG}{tb:TS}{pos:Pos}(hp:PassesOwn (X8 X.prog X.w) X.A X.env X.xe)(hc:X.calm=true)(hi:PI X tg iter wi)(hg:PG X tg g)(hb:PSs X body tb)
  (hs:∀x,Bk iter X.env x=pure x:=by intro _;rfl):PS X (.For tg iter body [] pos) (tFor wi g tb):=by
 intro pins s σ H D I h;refine wpAny_For (thn (hi pins s σ H _ I h) λv s1 h1=>thn h1 λitv s2 h2=>?_) hs;obtain⟨it,fp,tn,J,H2,e,I2,T,st2,f2,W,⟨m0,w0⟩,turn⟩:=h2;subst e;have stat:∀{H':Hp},(∀b∈fp,H' b=none)->∀b∈fp,FpOk X pins H' b:=λhn b hb=>⟨hn b hb,(f2 b hb).2⟩;refine codeAny_forLoop_any (λn s'=>∃i σ' H',Inv X pins σ' H' s'/\tn i s'.heap/\(∀b∈fp,H' b=none)/\W i n σ' H') ?_ m0 ⟨0,σ,H2,I2,st2,λb hb=>(f2 b hb).1,w0⟩;rintro n s3 ⟨i,σ3,H3,I3,st3,fr3,w3⟩;rcases turn i n σ3 H3 w3 with⟨stop,qn⟩|⟨go,N,hN,step⟩
 ·refine VU hp (thn (T.done X rfl rfl rfl hc i pins s3 σ3 H3 X.xe I3 (stat fr3) st3 stop) λr s4 ⟨hr,I4⟩=>?_);subst hr;exact wpAny_execs_nil ⟨σ3,H3,I4,qn⟩
 ·refine VU hp (thn (T.item X rfl rfl rfl hc i pins s3 σ3 H3 X.xe I3 (stat fr3) st3 go) λr s4 ⟨u,hr,h4⟩=>?_);subst hr;refine VU hp (thn h4 λ_ s5 ⟨x,H5,I5,r5,y5,st5,fr5⟩=>?_);have I5':=I5.pinned (stat fr5) (T.obj _ _ st5);refine VU hp (thn (hg _ s5 σ3 H5 x u _ I5' r5 (step x H5 y5)) λ_ s6 ⟨σ6,H6,I6,q6⟩=>?_);refine VU hp (thn (hb _ s6 σ6 H6 _ I6 q6) λf s7 q7=>?_);have again:∀{σ7:St} {H7:Hp},Inv X (pins++Vv fp s5.heap) σ7 H7 s7->N σ7 H7->∃m,m<n/\∃i σ' H',Inv X pins σ' H' s7/\tn i s7.heap/\(∀b∈fp,H' b=none)/\W i m σ' H':=fun{σ7 H7} I7 n7=>by
   obtain⟨m',hm,w7⟩:=hN σ7 H7 n7;refine⟨m',hm,i+1,σ7,H7,I7.unpinned,T.keep _ _ _ st5 λb hb o e=>(I7.pin (b,o) (Zv _ (Zv _ (BW hb e)))).1,λb hb=>?_,w7⟩;obtain⟨o,e,d⟩:=T.obj _ _ st5 b hb;exact(I7.pin (b,o) (Zv _ (Zv _ (BW hb e)))).2.1
  cases f with
  |next=>obtain⟨σ7,H7,I7,n7⟩:=q7;exact again I7 n7
  |cont=>obtain⟨σ7,H7,I7,n7⟩:=q7;exact again I7 n7
  |brk=>obtain⟨σ7,H7,I7,q7⟩:=q7;exact⟨σ7,H7,I7.unpinned,q7⟩
  |ret v=>obtain⟨x7,σ7,H7,I7,r7,q7⟩:=q7;exact⟨x7,σ7,H7,I7.unpinned,r7,q7⟩
end
noncomputable abbrev R2:=V->V->Hp->VK->Prop
noncomputable def OpR(X:Cx)(f:X0->X0->Sem X0)(r:R2):Prop:=
 ∀(pins:List (Addr×Obj)) (s:X1) (σ:St) (H:Hp) (x y:V) (v u:X0) (Q:VK),Inv X pins σ H s->RelV x v->RelV y u->r x y H Q->
  X4 (X8 X.prog X.w) X.A (f v u) (EP X pins σ Q) X.xe s
noncomputable def CallR(X:Cx)(f:X0)(r:List V->Hp->VK->Prop):Prop:=
 ∀(pins:List (Addr×Obj)) (s:X1) (σ:St) (H:Hp) (xs:List V) (us:List X0) (Q:VK),Inv X pins σ H s->Vals xs us->r xs H Q->
  X4 (X8 X.prog X.w) X.A (call f us) (EP X pins σ Q) X.xe s
noncomputable def tOp(r:R2)(ta tb:TE):TE:=λσ H Q=>ta σ H λx H1=>tb σ H1 λy H2=>r x y H2 Q
noncomputable def rI(C:Int->Int->Prop)(g:Int->Int->V):R2:=λx y H Q=>∃i j,x=.int i/\y=.int j/\C i j/\Q (g i j) H
noncomputable def rI0(g:Int->Int->V):R2:=λx y H Q=>∃i j,x=.int i/\y=.int j/\Q (g i j) H
section
variable{X:Cx}{a b c:Expr}{ta tb tc:TE}{pos:Pos}
theorem binT(ha:PE X a ta)(hb:PE X b tb){pins:List (Addr×Obj)}{s:X1}{σ:St}{H:Hp}{R:V->V->Hp->Prop}(I:Inv X pins σ H s)
  (h:ta σ H λx H1=>tb σ H1 λy H2=>R x y H2) {Q:X0->X1->Prop} {f:X0->X0->Sem X0}
  (hf:∀v u s2 x y H2,Inv X pins σ H2 s2->RelV x v->RelV y u->R x y H2->X4 (X8 X.prog X.w) X.A (f v u) Q X.xe s2):
  X4 (X8 X.prog X.w) X.A (eval a X.env) (λv s₁=>X4 (X8 X.prog X.w) X.A (eval b X.env) (λu s₂=>X4 (X8 X.prog X.w) X.A (f v u) Q X.xe s₂) X.xe s₁) X.xe s:=by
 refine thn (ha pins s σ H _ I h) λv s1 ⟨x,H1,I1,r1,q1⟩=>?_;refine thn (hb pins s1 σ H1 _ I1 q1) λu s2 ⟨y,H2,I2,r2,q2⟩=>?_;exact hf v u s2 x y H2 I2 r1 r2 q2
theorem Rj{op:ZW}{r:R2}(ho:OpR X (Z5 op) r)(ha:PE X a ta)(hb:PE X b tb):PE X (.BinOp a op b pos) (tOp r ta tb):=by
 intro pins s σ H Q I h;exact wpAny_BinOp (binT ha hb I h λv u s2 x y H2 I2 rx ry q=>ho pins s2 σ H2 x y v u Q I2 rx ry q)
theorem opI{f:X0->X0->Sem X0}{C:Int->Int->Prop}{g:Int->Int->Int}
  (rule:∀(i j:Int) (t u:Tok) (s:X1) (Q:X0->X1->Prop) (E:X0->X1->Prop),C i j->Q (.int (g i j) s.toks) {s with toks:=s.toks+1}->X4 (X8 X.prog X.w) X.A (f (.int i t) (.int j u)) Q E s):
  OpR X f (rI C λi j=>.int (g i j)):=by
 intro pins s σ H x y v u Q I rx ry h;obtain⟨i,j,rfl,rfl,hc,q⟩:=h;obtain⟨t,rfl⟩:=rx;obtain⟨t',rfl⟩:=ry;exact rule i j t t' s _ _ hc ⟨.int (g i j),H,I.tok _,⟨_,rfl⟩,q⟩
theorem opI0{f:X0->X0->Sem X0}{g:Int->Int->Int}
  (rule:∀(i j:Int) (t u:Tok) (s:X1) (Q:X0->X1->Prop) (E:X0->X1->Prop),Q (.int (g i j) s.toks) {s with toks:=s.toks+1}->X4 (X8 X.prog X.w) X.A (f (.int i t) (.int j u)) Q E s):
  OpR X f (rI0 λi j=>.int (g i j)):=by
 intro pins s σ H x y v u Q I rx ry h;obtain⟨i,j,rfl,rfl,q⟩:=h;obtain⟨t,rfl⟩:=rx;obtain⟨t',rfl⟩:=ry;exact rule i j t t' s _ _ ⟨.int (g i j),H,I.tok _,⟨_,rfl⟩,q⟩
theorem opB0{f:X0->X0->Sem X0}{g:Int->Int->Bool}
  (rule:∀(i j:Int) (t u:Tok) (s:X1) (Q:X0->X1->Prop) (E:X0->X1->Prop),Q (.bool (g i j)) s->X4 (X8 X.prog X.w) X.A (f (.int i t) (.int j u)) Q E s):
  OpR X f (rI0 λi j=>.bl (g i j)):=by
 intro pins s σ H x y v u Q I rx ry h;obtain⟨i,j,rfl,rfl,q⟩:=h;obtain⟨t,rfl⟩:=rx;obtain⟨t',rfl⟩:=ry;exact rule i j t t' s _ _ ⟨.bl (g i j),H,I,rfl,q⟩
noncomputable def CPow(i j:Int):Prop:=0≤j/\j≤1000000/\i.natAbs<2^64
noncomputable def CMul(i j:Int):Prop:=(-(2^64)<i/\i<2^64)\/(-(2^64)<j/\j<2^64)
theorem CMul.ok{i j:Int}(h:CMul i j):IntMulOk i j:=by
 rcases h with⟨h1,h2⟩|⟨h1,h2⟩
 ·exact .of_left (intBits_le_64 h1 h2)
 ·exact .of_right (intBits_le_64 h1 h2)
theorem Rk:OpR X (Z5 .Add) (rI0 λi j=>.int (i+j)):=opI0 λ_ _ _ _ _ _ _ q=>add_int q
theorem Rm:OpR X (Z5 .Sub) (rI0 λi j=>.int (i - j)):=opI0 λ_ _ _ _ _ _ _ q=>sub_int q
theorem Rn:OpR X (Z5 .Mult) (rI CMul λi j=>.int (i*j)):=opI λ_ _ _ _ _ _ _ hc q=>mul_int q hc.ok
theorem Ro:OpR X (Z5 .Mod) (rI (λ_ j=>0<j) λi j=>.int (i%j)):=opI λi j _ _ _ _ _ hc q=>by
 have h1:(0:Int)<j:=hc;exact mod_int' (by lia) (by rw[Int.fmod_eq_emod_of_nonneg i (by lia)];exact q)
theorem Rp:OpR X (Z5 .LShift) (rI CPow λi j=>.int (i*2^j.toNat)):=opI λ_ _ _ _ _ _ _ hc q=>lshift_int_small hc.1 hc.2.1 hc.2.2 q
end
noncomputable def scal:V->V->Bool
 |.non,.non=>true|.non,.int _=>true|.int _,.non=>true|.non,.bl _=>true|.bl _,.non=>true|.non,.str _=>true|.str _,.non=>true
 |.int _,.int _=>true|.bl _,.bl _=>true|.str _,.str _=>true|.byt _,.byt _=>true
 |.int _,.str _=>true|.str _,.int _=>true|.bl _,.str _=>true|.str _,.bl _=>true
 |_,_=>false
noncomputable def rEq:R2:=λx y H Q=>scal x y=true/\Q (.bl (decide (x=y))) H
noncomputable def rNe:R2:=λx y H Q=>scal x y=true/\Q (.bl (!decide (x=y))) H
theorem Hb{i j:Int}:decide (V.int i=V.int j)=(i==j):=by
 rw[BA];simp
theorem Hc{i j:Bool}:decide (V.bl i=V.bl j)=(i==j):=by
 rw[BA];simp
theorem Hd{i j:Str}:decide (V.str i=V.str j)=(i==j):=by
 rw[BA];simp
theorem He{i j:Array UInt8}:decide (V.byt i=V.byt j)=(i.toList==j.toList):=by
 rw[BA];cases i;cases j;simp
section
variable{X:Cx}{a b c:Expr}{ta tb tc:TE}{pos:Pos}
theorem XF{pins:List (Addr×Obj)}{σ:St}{H:Hp}{s:X1}{Q:VK}{k k':Bool}(I:Inv X pins σ H s)(q:Q (.bl k) H)(e:k=k'):EP X pins σ Q (.bool k') s:=by
 subst e;exact⟨.bl k,H,I,rfl,q⟩
theorem Rq:OpR X (XU .Eq) rEq:=by
 intro pins s σ H x y v u Q I rx ry h;obtain⟨hs,q⟩:=h;cases x with
 |non=>
  cases rx;cases y with
  |non=>cases ry;exact PySem.EqNone.eq_none_none (XF I q (by simp))
  |bl j=>cases ry;exact PySem.EqNone.eq_none_bool (XF I q (by simp))
  |int j=>obtain⟨t',rfl⟩:=ry;exact PySem.EqNone.eq_none_int (XF I q (by simp))
  |str j=>obtain⟨t',rfl⟩:=ry;exact PySem.EqNone.eq_none_str (XF I q (by simp))
  |_=>exact absurd (show false=true from hs) XB
 |bl i=>
  cases rx;cases y with
  |non=>cases ry;exact PySem.EqNone.eq_bool_none (XF I q (by simp))
  |bl j=>cases ry;exact eq_bool (XF I q Hc)
  |str j=>obtain⟨t',rfl⟩:=ry;exact PySem.EqMixed.eq_bool_str (XF I q (by simp))
  |_=>exact absurd (show false=true from hs) XB
 |int i=>
  obtain⟨t,rfl⟩:=rx;cases y with
  |non=>cases ry;exact PySem.EqNone.eq_int_none (XF I q (by simp))
  |int j=>obtain⟨t',rfl⟩:=ry;exact eq_int (XF I q Hb)
  |str j=>obtain⟨t',rfl⟩:=ry;exact PySem.EqMixed.eq_int_str (XF I q (by simp))
  |_=>exact absurd (show false=true from hs) XB
 |str i=>
  obtain⟨t,rfl⟩:=rx;cases y with
  |non=>cases ry;exact PySem.EqNone.eq_str_none (XF I q (by simp))
  |bl j=>cases ry;exact PySem.EqMixed.eq_str_bool (XF I q (by simp))
  |int j=>obtain⟨t',rfl⟩:=ry;exact PySem.EqMixed.eq_str_int (XF I q (by simp))
  |str j=>obtain⟨t',rfl⟩:=ry;exact eq_str (XF I q Hd)
  |_=>exact absurd (show false=true from hs) XB
 |byt i=>
  obtain⟨t,rfl⟩:=rx;cases y with
  |byt j=>obtain⟨t',rfl⟩:=ry;exact PySem.W.eq_bytes (XF I q He)
  |_=>exact absurd (show false=true from hs) XB
 |_=>cases y<;>exact absurd (show false=true from hs) XB
theorem Rr:OpR X (XU .NotEq) rNe:=by
 intro pins s σ H x y v u Q I rx ry h;obtain⟨hs,q⟩:=h;cases x with
 |non=>
  cases rx;cases y with
  |non=>cases ry;exact PySem.EqNone.ne_none_none (XF I q (by simp))
  |bl j=>cases ry;exact PySem.EqNone.ne_none_bool (XF I q (by simp))
  |int j=>obtain⟨t',rfl⟩:=ry;exact PySem.EqNone.ne_none_int (XF I q (by simp))
  |str j=>obtain⟨t',rfl⟩:=ry;exact PySem.EqNone.ne_none_str (XF I q (by simp))
  |_=>exact absurd (show false=true from hs) XB
 |bl i=>
  cases rx;cases y with
  |non=>cases ry;exact PySem.EqNone.ne_bool_none (XF I q (by simp))
  |bl j=>cases ry;exact ne_bool (XF I q (congrArg not Hc))
  |str j=>obtain⟨t',rfl⟩:=ry;exact PySem.EqMixed.ne_bool_str (XF I q (by simp))
  |_=>exact absurd (show false=true from hs) XB
 |int i=>
  obtain⟨t,rfl⟩:=rx;cases y with
  |non=>cases ry;exact PySem.EqNone.ne_int_none (XF I q (by simp))
  |int j=>obtain⟨t',rfl⟩:=ry;exact ne_int (XF I q (congrArg not Hb))
  |str j=>obtain⟨t',rfl⟩:=ry;exact PySem.EqMixed.ne_int_str (XF I q (by simp))
  |_=>exact absurd (show false=true from hs) XB
 |str i=>
  obtain⟨t,rfl⟩:=rx;cases y with
  |non=>cases ry;exact PySem.EqNone.ne_str_none (XF I q (by simp))
  |bl j=>cases ry;exact PySem.EqMixed.ne_str_bool (XF I q (by simp))
  |int j=>obtain⟨t',rfl⟩:=ry;exact PySem.EqMixed.ne_str_int (XF I q (by simp))
  |str j=>obtain⟨t',rfl⟩:=ry;exact ne_str (XF I q (congrArg not Hd))
  |_=>exact absurd (show false=true from hs) XB
 |byt i=>
  obtain⟨t,rfl⟩:=rx;cases y with
  |byt j=>obtain⟨t',rfl⟩:=ry;exact PySem.W.ne_bytes (XF I q (congrArg not He))
  |_=>exact absurd (show false=true from hs) XB
 |_=>cases y<;>exact absurd (show false=true from hs) XB
theorem Rs:OpR X (XU .Lt) (rI0 λi j=>.bl (decide (i<j))):=opB0 λ_ _ _ _ _ _ _ q=>lt_int q
theorem Rt:OpR X (XU .LtE) (rI0 λi j=>.bl (decide (i≤j))):=opB0 λ_ _ _ _ _ _ _ q=>le_int q
theorem Ru:OpR X (XU .Gt) (rI0 λi j=>.bl (decide (j<i))):=opB0 λ_ _ _ _ _ _ _ q=>gt_int q
theorem Rv:OpR X (XU .GtE) (rI0 λi j=>.bl (decide (j≤i))):=opB0 λ_ _ _ _ _ _ _ q=>ge_int q
theorem Rw:OpR X (XU .Is) (λx y H Q=>y=.non/\Q (.bl (decide (x=.non))) H):=by
 intro pins s σ H x y v u Q I rx ry h;obtain⟨rfl,q⟩:=h;cases ry;refine is_none_gen (XF I q ?_);cases x<;>first
  |(cases rx;rfl)
  |(obtain⟨t,rfl⟩:=rx;rfl)
theorem Rx:OpR X (XU .IsNot) (λx y H Q=>y=.non/\Q (.bl (!decide (x=.non))) H):=by
 intro pins s σ H x y v u Q I rx ry h;obtain⟨rfl,q⟩:=h;cases ry;refine isnot_none_gen (XF I q ?_);cases x<;>first
  |(cases rx;rfl)
  |(obtain⟨t,rfl⟩:=rx;rfl)
theorem OpR.or{f:X0->X0->Sem X0}{r r':R2}(h:OpR X f r)(h':OpR X f r'):OpR X f (λx y H Q=>r x y H Q\/r' x y H Q):=by
 intro pins s σ H x y v u Q I rx ry q;rcases q with q|q
 ·exact h pins s σ H x y v u Q I rx ry q
 ·exact h' pins s σ H x y v u Q I rx ry q
theorem Ry{op:CmpOp}{r:R2}(ho:OpR X (XU op) r)(ha:PE X a ta)(hb:PE X b tb)(hm:behindInMarks op b=false):PE X (.Compare a [op] [b] pos) (tOp r ta tb):=by
 intro pins s σ H Q I h;exact wpAny_Compare1 (binT ha hb I h λv u s2 x y H2 I2 rx ry q=>ho pins s2 σ H2 x y v u Q I2 rx ry q) hm
noncomputable def Hf(t:TE):TT:=λσ H Q=>t σ H λx H'=>∃k,x=.bl k/\Q k H'
theorem Rz{op:CmpOp}{r:R2}(ho:OpR X (XU op) r)(ha:PE X a ta)(hb:PE X b tb)(hm:behindInMarks op b=false):PT X (.Compare a [op] [b] pos) (Hf (tOp r ta tb)):=by
 intro pins s σ H Q I h;refine wpAny_isTrue_Compare1 (thn (ha pins s σ H _ I h) λv s1 ⟨x,H1,I1,r1,q1⟩=>thn (hb pins s1 σ H1 _ I1 q1) λu s2 ⟨y,H2,I2,r2,q2⟩=>
  thn (ho pins s2 σ H2 x y v u _ I2 r1 r2 q2) λc s3 ⟨z,H3,I3,r3,k,e,q3⟩=>?_) hm
 subst e;cases r3;exact Zq ⟨H3,I3,q3⟩
noncomputable def Dv(r r':R2)(ta tb tc:TE):TE:=λσ H Q=>ta σ H λx H1=>tb σ H1 λy H2=>r x y H2 λz H3=>∃k,z=.bl k/\
 (if k=true then tc σ H3 λw' H4=>r' y w' H4 Q else Q (.bl false) H3)
theorem RA{op op':CmpOp}{r r':R2}(ho:OpR X (XU op) r)(ho':OpR X (XU op') r')(ha:PE X a ta)(hb:PE X b tb)(hc:PE X c tc)
  (hm:lastMarks [op,op'] [b,c]=false:=by with_unfolding_all rfl):PE X (.Compare a [op,op'] [b,c] pos) (Dv r r' ta tb tc):=by
 intro pins s σ H Q I h;refine Compare_chain (thn (ha pins s σ H _ I h) λv s1 ⟨x,H1,I1,r1,q1⟩=>chain_link (thn (hb pins s1 σ H1 _ I1 q1) λu s2 ⟨y,H2,I2,r2,q2⟩=>
  thn (ho pins s2 σ H2 x y v u _ I2 r1 r2 q2) λd s3 ⟨z,H3,I3,r3,k,e,q3⟩=>?_)) hm
 subst e;cases r3;refine Zq ?_;cases k with
 |false=>exact ite_ff ⟨.bl false,H3,I3,rfl,q3⟩
 |true=>exact ite_tt (chain_last (thn (hc pins s3 σ H3 _ I3 q3) λw' s4 ⟨z',H4,I4,r4,q4⟩=>ho' pins s4 σ H4 y z' u w' Q I4 r2 r4 q4))
theorem RB{op op':CmpOp}{r r':R2}(ho:OpR X (XU op) r)(ho':OpR X (XU op') r')(ha:PE X a ta)(hb:PE X b tb)(hc:PE X c tc)
  (hm:lastMarks [op,op'] [b,c]=false:=by with_unfolding_all rfl):PT X (.Compare a [op,op'] [b,c] pos) (Hf (Dv r r' ta tb tc)):=by
 intro pins s σ H Q I h;refine isTrue_chain (thn (ha pins s σ H _ I h) λv s1 ⟨x,H1,I1,r1,q1⟩=>test_link (thn (hb pins s1 σ H1 _ I1 q1) λu s2 ⟨y,H2,I2,r2,q2⟩=>
  thn (ho pins s2 σ H2 x y v u _ I2 r1 r2 q2) λd s3 ⟨z,H3,I3,r3,k,e,q3⟩=>?_)) hm
 subst e;cases r3;refine Zq ?_;cases k with
 |false=>
  obtain⟨k',e',q'⟩:=q3;cases e';exact ite_ff ⟨H3,I3,q'⟩
 |true=>
  refine ite_tt (test_last (thn (hc pins s3 σ H3 _ I3 q3) λw' s4 ⟨z',H4,I4,r4,q4⟩=>thn (ho' pins s4 σ H4 y z' u w' _ I4 r2 r4 q4) λd' s5 ⟨z2,H5,I5,r5,k2,e2,q5⟩=>?_));subst e2;cases r5;exact Zq ⟨H5,I5,q5⟩
theorem Vw:(sizeLine:Nat)<2^63:=by rw[sizeLine_eq];decide
theorem RC:OpR X (Z5 .Add) (λx y H Q=>∃i j,x=.str i/\y=.str j/\i.length+j.length≤sizeLine/\Q (.str (i++j)) H):=by
 intro pins s σ H x y v u Q I rx ry h;obtain⟨i,j,rfl,rfl,hz,q⟩:=h;obtain⟨t,rfl⟩:=rx;obtain⟨t',rfl⟩:=ry;exact add_str (λt' tk=>⟨.str (i++j),H,I.tok _,⟨_,rfl⟩,q⟩) hz
theorem YM{x:V}{us:List X0}(r:Vals [x] us):∃u,us=[u]/\RelV x u:=by
 cases r with
 |cons r1 r2=>cases r2;exact⟨_,rfl,r1⟩
theorem Vx{x y:V}{us:List X0}(r:Vals [x,y] us):∃u w',us=[u,w']/\RelV x u/\RelV y w':=by
 cases r with
 |cons r1 r2=>
  cases r2 with
  |cons r3 r4=>cases r4;exact⟨_,_,rfl,r1,r3⟩
theorem RD:CallR X (.builtin "abs") (fun xs H Q=>∃i,xs=[.int i]/\Q (.int (if i<0 then -i else i)) H):=by
 intro pins s σ H xs us Q I r h;obtain⟨i,rfl,q⟩:=h;obtain⟨u,rfl,t,rfl⟩:=YM r;exact call_abs_int λu tk=>⟨.int (if i<0 then -i else i),H,I.tok _,⟨_,rfl⟩,q⟩
theorem RE(hc:X.calm=true):CallR X (.builtin "max") (fun xs H Q=>∃i j,xs=[.int i,.int j]/\Q (.int (if j>i then j else i)) H):=by
 intro pins s σ H xs us Q I r h;obtain⟨i,j,rfl,q⟩:=h;obtain⟨u,w',rfl,⟨t,rfl⟩,⟨t',rfl⟩⟩:=Vx r;refine max_two_ints (I.ok.hd hc) λh' tk k=>⟨_,H,I.kept k,?_,q⟩;by_cases hj:j>i
 ·rw[if_pos hj,if_pos hj];exact⟨_,rfl⟩
 ·rw[if_neg hj,if_neg hj];exact⟨_,rfl⟩
theorem RF(hc:X.calm=true):CallR X (.builtin "min") (fun xs H Q=>∃i j,xs=[.int i,.int j]/\Q (.int (if j<i then j else i)) H):=by
 intro pins s σ H xs us Q I r h;obtain⟨i,j,rfl,q⟩:=h;obtain⟨u,w',rfl,⟨t,rfl⟩,⟨t',rfl⟩⟩:=Vx r;refine min_two_ints (I.ok.hd hc) λh' tk k=>⟨_,H,I.kept k,?_,q⟩;by_cases hj:j<i
 ·rw[if_pos hj,if_pos hj];exact⟨_,rfl⟩
 ·rw[if_neg hj,if_neg hj];exact⟨_,rfl⟩
theorem Hg:CallR X (.type "int") (fun xs H Q=>(∃i,xs=[.int i]/\Q (.int i) H)\/∃k,xs=[.bl k]/\Q (.int (if k then 1 else 0)) H):=by
 intro pins s σ H xs us Q I r h;rcases h with⟨i,rfl,q⟩|⟨k,rfl,q⟩
 ·obtain⟨u,rfl,t,rfl⟩:=YM r;exact call_int_int ⟨.int i,H,I,⟨_,rfl⟩,q⟩
 ·obtain⟨u,rfl,r1⟩:=YM r;cases r1;exact call_int_bool ⟨.int (if k then 1 else 0),H,I.tok _,⟨_,rfl⟩,q⟩
end
structure ObjM (h:Heap) (x dx C:Addr) (mA:Str->Option X0):Prop where
 obj:h.get? x=some (D8 C dx)
 ns:h.Ns1 dx mA
 ne:dx≠x
theorem RG{h:Heap}{dx:Addr}{mA:Str->Option X0}(n:h.Ns1 dx mA):∃od,h.get? dx=some od/\∀name,Da name od=some (mA name):=by
 obtain⟨o,es,ep,ho,hd,hk,_,hm⟩:=n;refine⟨o,ho,λname=>?_⟩;have e:=hm name;unfold nsFind findBy at e;rw[<- Array.find?_toList]at e;unfold Da;rw[hd];dsimp only;split
 ·rename_i y q
  rw[q]at e;exact congrArg some e
 ·rename_i q
  rw[q]at e;have a:es.toList.any (·.refKey)=false:=by
   rw[List.any_eq_false];intro y hy;obtain⟨z,t,hkey⟩:=hk y (Array.mem_toList_iff.mp hy);simp[DictEntry.refKey,hkey]
  have a':¬es.toList.any (·.refKey)=true:=by rw[a];exact XB
  rw[if_neg a'];exact congrArg some e
theorem ObjM.look{h:Heap}{x dx C:Addr}{mA:Str->Option X0}(I:ObjM h x dx C mA):∃od,PySem.W.InstAt h x (D8 C dx) C (some od)/\∀name,Da name od=some (mA name):=
 let⟨od,ho,hl⟩:=RG I.ns
 ⟨od,⟨I.obj,rfl,rfl,ho⟩,hl⟩
section
variable{prog:Xl}{w:Xe}{A:Xq}{E:X0->X1->Prop}{s:X1}{K:X5}{x dx C f:Addr}{mA:Str->Option X0}{name:Str}{v:X0}
end
theorem RelO.some_of{v:V}{o:Option X0}(r:RelO (some v) o):∃u,o=some u/\RelV v u:=by
 cases o with
 |none=>exact(show False from r).elim
 |some u=>exact⟨u,rfl,r⟩
section
variable{P:Xl}{w:Xe}{H H':Hp}{h h':Heap}{a C dx:Addr}{fs fs':List (Str×V)}
theorem Hh(hok:HOk P w H h)(e:H a=some (.ins C dx fs)):∃mA,ObjM h a dx C mA/\(∀f,RelO (fs.lookup f) (mA f))/\PySem.Within mA (fs.map (·.1))/\fs.length≤1000/\H dx=some (.own a):=by
 obtain⟨d,z,ne,ob,mA,n,r,q⟩:=(show ObjOk P w H h a (.ins C dx fs)from hok a _ e);exact⟨mA,⟨ob,n,ne⟩,r,q,z,d⟩
end
structure Cls (K:X5) (C:Addr):Prop where
 pg:PySem.W.plainGet K C Wd=true
 hd:PySem.W.hasDictIn K C=true
 po:PySem.W.plainOver K C=true
 sa:Vj K (.ref C) "__setattr__"=some (some (.builtin "object.__setattr__"))
theorem Cls.get{K:X5}{C:Addr}(c:Cls K C)(f:Str):PySem.W.plainGet K C f=true:=c.pg
noncomputable def Dw(K:X5)(C:Addr)(f:Str):Prop:=Vj K (.ref C) f=some none
structure Con (K:X5) (C:Addr) (f:Str) (v:V) (u:X0):Prop where
 at_:Vj K (.ref C) f=some (some u)
 rel:RelV v u
 get:PySem.W.specialIn K u "__get__"=some none
 cp:PySem.W.copiedNames.contains f=false
structure Meth (K:X5) (C:Addr) (m:Str) (f:Addr):Prop where
 at_:Vj K (.ref C) m=some (some (.ref f))
 fn:PySem.W.isFn K (.ref f)=true
 kp:U0 K (.ref f)=true
section
variable{X:Cx}{pins:List (Addr×Obj)}{σ:St}{H:Hp}{s:X1}{a C dx:Addr}{fs:List (Str×V)}{f:Str}{v:V}{A:Xq}{E:X0->X1->Prop}
end
section
variable{X:Cx}{o e value:Expr}{f:Str}{pos pos' tpos:Pos}{ta tv:TE}
end
section
variable{X:Cx}{pins:List (Addr×Obj)}{σ:St}{H:Hp}{s:X1}{A:Xq}{E:X0->X1->Prop}{Q:X0->X1->Prop}{c:X0}{b:Bool}
inductive TyOf (K:X5) (H:Hp):V->X0->Prop where
 |non:TyOf K H .non (.type "NoneType")
 |bl (x:Bool):TyOf K H (.bl x) (.type "bool")
 |int (i:Int):TyOf K H (.int i) (.type "int")
 |str (x:Str):TyOf K H (.str x) (.type "str")
 |flt (x:UInt64):TyOf K H (.flt x) (.type "float")
 |lst {a:Addr} {xs:List V} (e:H a=some (.lst xs)):TyOf K H (.ref a) (.type "list")
 |frz {a:Addr} {o:Obj} {xs:List V} (e:H a=some (.frz o (.lst xs))):TyOf K H (.ref a) (.type "list")
 |tup {a:Addr} {xs:List V} (e:H a=some (.tup xs)):TyOf K H (.ref a) (.type "tuple")
 |dK {a:Addr} {kvs:List (Key×V)} (e:H a=some (.dK kvs)):TyOf K H (.ref a) (.type "dict")
 |dT {a:Addr} {kvs:List (List Key×V)} (e:H a=some (.dT kvs)):TyOf K H (.ref a) (.type "dict")
 |ins {a C dx:Addr} {fs:List (Str×V)} (e:H a=some (.ins C dx fs)) (cl:Cls K C) (ha:Vj K (.ref C) "__class__"=some (some (.builtin "object.__class__")))
   (hn:PySem.W.specialIn K (.builtin "object.__class__") "__get__"=some (some (.builtin "getset_descriptor.__get__"))) (htk:PySem.W.takesIn K (.builtin "object.__class__")=some true)
   (hm:PySem.W.mroIn K C (.type "object")=some true):TyOf K H (.ref a) (.ref C)
theorem RI{x:V}{u t:X0}(I:Inv X pins σ H s)(rx:RelV x u)(ty:TyOf X.K H x t)(e:UN X.K t c=some b)(h:∀tk,Q (.bool b) {s with toks:=tk}):
  X4 (X8 X.prog X.w) A (call (.builtin "isinstance") [u,c]) Q E s:=by
 cases ty with
 |non=>cases(show u=Xw from rx);exact Zh PySem.W.kitx_none I.kIn YR e (λz=>nomatch z) h
 |bl y=>cases(show u=Yj y from rx);exact Zh PySem.W.kitx_bool I.kIn YR e (λz=>nomatch z) h
 |int i=>obtain⟨t,q⟩:=(show∃t,u=Wc i t from rx);cases q;exact Zh PySem.W.kitx_int I.kIn YR e (λz=>nomatch z) h
 |str y=>obtain⟨t,q⟩:=(show∃t,u=XE y t from rx);cases q;exact Zh PySem.W.kitx_str I.kIn YR e (λz=>nomatch z) h
 |flt y=>obtain⟨t,q⟩:=(show∃t,u=Value.float y t from rx);cases q;exact Zh PySem.W.kitx_float I.kIn YR e (λz=>nomatch z) h
 | @lst a xs ea=>
  cases(show u=Xy a from rx);obtain⟨_,_,n,_,h1⟩:=(show ObjOk X.prog X.w H s.heap a (.lst xs)from I.hok a _ ea);exact Zh Bw I.kIn ⟨_,h1,rfl⟩ e (λz=>nomatch z) h
 | @frz a ob xs ea=>
  cases(show u=Xy a from rx);obtain⟨_,_,_,n,_,h1⟩:=(show ObjOk X.prog X.w H s.heap a (.frz ob (.lst xs))from I.hok a _ ea);exact Zh Bw I.kIn ⟨_,h1,rfl⟩ e (λz=>nomatch z) h
 | @tup a xs ea=>
  cases(show u=Xy a from rx);obtain⟨_,_,_,p⟩:=(show ObjOk X.prog X.w H s.heap a (.tup xs)from I.hok a _ ea);obtain⟨o,h1,h2,_⟩:=p.1;exact Zh PySem.W.kitx_tuple I.kIn ⟨o,h1,h2⟩ e (λz=>nomatch z) h
 | @dK a kvs ea=>
  cases(show u=Xy a from rx);obtain⟨_,_,vs,_,p⟩:=(show ObjOk X.prog X.w H s.heap a (.dK kvs)from I.hok a _ ea);obtain⟨o,es,ep,h1,h2,_⟩:=p;exact Zh Bx I.kIn ⟨o,h1,h2.1⟩ e (λz=>nomatch z) h
 | @dT a kvs ea=>
  cases(show u=Xy a from rx);obtain⟨_,_,xs,_,o,es,ep,h1,h2,_⟩:=(show ObjOk X.prog X.w H s.heap a (.dT kvs)from I.hok a _ ea);exact Zh Bx I.kIn ⟨o,h1,h2.1⟩ e (λz=>nomatch z) h
 | @ins a C dx fs ea cl ha hn htk hm=>
  cases(show u=Xy a from rx);obtain⟨mA,O,_⟩:=Hh I.hok ea;obtain⟨od,J,_⟩:=O.look;exact Zh (PySem.W.kitx_own (cl.get _) cl.hd ha hn htk hm) I.kIn J e (λz=>nomatch z) h
end
structure Room (k:Nat) (A:Xq):Prop where
 hd:A.handled=none
 dp:A.depth+3*k+5<recursionLimit
 un:A.units+16*k+200<cLine
theorem Room.mono{j k:Nat}{A:Xq}(r:Room k A)(h:j≤k):Room j A:=⟨r.hd,by have:=r.dp;lia,by have:=r.un;lia⟩
theorem Room.deeper{k:Nat}{A:Xq}(r:Room (k+1) A)(env:Env):Room k (A.deeper env):=
 ⟨r.hd,by have:=r.dp;show A.depth+1+3*k+5<_;lia,by have:=r.un;show A.units+3+16*k+200<_;lia⟩
theorem Room.depth{k:Nat}{A:Xq}(r:Room k A):A.depth<recursionLimit:=by have:=r.dp;lia
noncomputable def tNil:TA:=λ_ H Q=>Q [] H
noncomputable def Wi(ta:TE)(tr:TA):TA:=λσ H Q=>ta σ H λx H1=>tr σ H1 λxs H2=>Q (x::xs) H2
section
variable{X:Cx}{e:Expr}{es:List Expr}{te:TE}{t:TA}{pos:Pos}
theorem pa_nil:PA X [] tNil:=λ_ _ _ _ H Q I h=>Wf ⟨[],H,I,.nil,h⟩
theorem U9(ha:PE X e te)(hr:PA X es t)(hs:XG (e::es) X.env=(false,eval e X.env)::XG es X.env:=by rfl):PA X (e::es) (Wi te t):=by
 intro pos pins s σ H Q I h;rw[hs];show X4 _ _ (spliced ((false,eval e X.env)::Yq pos (XG es X.env))) _ _ s;refine We (thn (ha pins s σ H _ I h) λu s1 ⟨x,H1,I1,r1,q1⟩=>?_);exact thn (hr pos pins s1 σ H1 _ I1 q1) λus s2 ⟨xs,H2,I2,r2,q2⟩=>⟨x::xs,H2,I2,.cons r1 r2,q2⟩
noncomputable def tTup(t:TA):TE:=λσ H Q=>t σ H λxs H1=>xs.length≤sizeLine/\∀p,H1 p=none->Q (.ref p) (upd H1 p (.tup xs))
noncomputable def tLst(t:TA):TE:=λσ H Q=>t σ H λxs H1=>xs.length≤sizeLine/\∀p,H1 p=none->Q (.ref p) (upd H1 p (.lst xs))
theorem RJ{x1}(h:PA X es t):PE X (.Tuple es x1 pos) (tTup t):=by
 intro pins s σ H Q I hq;refine wpAny_Tuple_spliced (thn (h pos pins s σ H _ I hq) λus s1 ⟨xs,H1,I1,r,z,q⟩=>⟨by rw[<- r.length];exact z,?_⟩)
 have hf:H1 s1.heap.objs.size=none:=I1.hok.fresh (Xh _);refine⟨.ref s1.heap.objs.size,upd H1 s1.heap.objs.size (.tup xs),I1.laid (t':=s1.toks) (λb u e=>Xr _ e) (Xh _) ?_,rfl,q _ hf⟩;exact⟨z,us,r,⟨_,XQ _ rfl,rfl,_,rfl⟩,_,XQ _ rfl,rfl⟩
theorem RK(h:PA X es t):PE X (.List es pos) (tLst t):=by
 intro pins s σ H Q I hq;refine wpAny_List_spliced (thn (h pos pins s σ H _ I hq) λus s1 ⟨xs,H1,I1,r,z,q⟩=>⟨by rw[<- r.length];exact z,?_⟩)
 have hf:H1 s1.heap.objs.size=none:=I1.hok.fresh (Xh _);refine⟨.ref s1.heap.objs.size,upd H1 s1.heap.objs.size (.lst xs),I1.laid (t':=s1.toks) (λb u e=>Xr _ e) (Xh _) ?_,rfl,q _ hf⟩;exact⟨z,us,0,r,XQ _ rfl⟩
end
noncomputable abbrev Sp:=List V->Hp->VK->XK->Prop
noncomputable abbrev CXT:=List Env->Hp->X1->XK->X0->X1->Prop
structure Env0 (P:Xl) (w:Xe) (K:X5) (mg:Str->Option X0) (base:Heap) (A:Xq) (outer:List Env) (s:X1) (H:Hp):Prop where
 frames:A.frames=some outer
 mod:Mod K mg base
 bs:∀b o,base.get? b=some o->s.heap.get? b=some o/\H b=none
 bsz:base.objs.size≤s.heap.objs.size
 funs:s.heap.FunFrames base outer
 frf:∀b∈frs outer,H b=none
 hok:HOk P w H s.heap
 bare:AllBare s.gens
noncomputable def CE(outer:List Env)(P:Xl)(w:Xe)(H:Hp)(s:X1)(Q:VK)(u:X0)(s':X1):Prop:=
 ∃v H',s'.os=s.os/\AllBare s'.gens/\Un (frs outer) [] H H' s.heap s'.heap/\HOk P w H' s'.heap/\RelV v u/\Q v H'
noncomputable def CR(CX:CXT)(outer:List Env)(P:Xl)(w:Xe)(H:Hp)(s:X1)(Q:VK)(E:XK)(r:Result)(s':X1):Prop:=
 match r with
 |.ok (.ret u)=>CE outer P w H s Q u s'
 |.ok _=>False
 |.error e=>CX outer H s E e s'
structure FnOk (P:Xl) (w:Xe) (K:X5) (mg:Str->Option X0) (base:Heap) (CX:CXT) (k:Nat) (f:Addr) (fd:Xi) (ps:List Str) (sp:Sp):Prop where
 len:∀vs H Q E,sp vs H Q E->vs.length=ps.length
 run:∀(A:Xq) (outer:List Env) (s:X1) (H:Hp) (args:Args) (us:List X0) (vs:List V) (Q:VK) (E:XK),Room k A->Env0 P w K mg base A outer s H->BindsTo s fd args (ps.zip us)->Vals vs us->sp vs H Q E->
  Z6 (X8 P w) A (.call (.ref f) args) (CR CX outer P w H s Q E) s
theorem FnOk.mono{P:Xl}{w:Xe}{K:X5}{mg:Str->Option X0}{base:Heap}{CX:CXT}{j k:Nat}{f:Addr}{fd:Xi}{ps:List Str}{sp:Sp}(F:FnOk P w K mg base CX j f fd ps sp)(h:j≤k):
  FnOk P w K mg base CX k f fd ps sp:=⟨F.len,λA outer s H args us vs Q E hr=>F.run A outer s H args us vs Q E (hr.mono h)⟩
theorem FnOk.imp{P:Xl}{w:Xe}{K:X5}{mg:Str->Option X0}{base:Heap}{CX:CXT}{k:Nat}{f:Addr}{fd:Xi}{ps:List Str}{sp sp':Sp}(F:FnOk P w K mg base CX k f fd ps sp)
  (h:∀vs H Q E,sp' vs H Q E->sp vs H Q E):FnOk P w K mg base CX k f fd ps sp':=
 ⟨λvs H Q E q=>F.len vs H Q E (h _ _ _ _ q),λA outer s H args us vs Q E hr he hb hv hs=>F.run A outer s H args us vs Q E hr he hb hv (h _ _ _ _ hs)⟩
section
variable{X:Cx}{pins:List (Addr×Obj)}{σ:St}{H:Hp}{s s':X1}
theorem Inv.env0(I:Inv X pins σ H s):Env0 X.prog X.w X.K X.mg X.base X.A X.stack s H:=
 ⟨I.ok.frames,I.ok.mod,I.bs,XV I.ok.bsz I.sz,I.stack,I.stkFree,I.hok,I.bare⟩
theorem Inv.after{Q:VK}{u:X0}(I:Inv X pins σ H s)(h:CE X.stack X.prog X.w H s Q u s'):EP X pins σ Q u s':=by
 obtain⟨v,H',os,bare,un,hok,r,q⟩:=h;obtain⟨hh,g,d,t,os'⟩:=s';obtain rfl:os'=s.os:=os;exact⟨v,H',I.call (h':=hh) (g':=g) (d':=d) (t':=t) (ch:=[]) un hok bare (λb z=>absurd z (by simp)),r,q⟩
end
noncomputable def RL(sp:Sp)(dvs:List V)(E:XK)(t:TA):TE:=λσ H Q=>t σ H λvs H1=>sp (vs++dvs) H1 Q E
noncomputable def Binds(K:X5)(fd:Xi)(ps:List Str)(ds:List X0):Prop:=
 ∀(s:X1) (us:List X0),K.In s.heap->(us++ds).length=ps.length->BindsTo s fd ⟨us,[]⟩ (ps.zip (us++ds))
theorem Binds.all{K:X5}{fd:Xi}{ps:List Str}(h:∀us:List X0,us.length=ps.length->bindArgs fd ⟨us,[]⟩=pure (ps.zip us)):Binds K fd ps []:=λs us _ hl=>by
 rw[Vg]at hl ⊢;exact .of_eq (h us hl)
noncomputable def Dx(CX:CXT)(X:Cx)(E:XK):Prop:=∀(pins:List (Addr×Obj)) (σ:St) (H:Hp) (s:X1) (e:X0) (s':X1),Inv X pins σ H s->CX X.stack H s E e s'->X.xe e s'
section
variable{X:Cx}{CX:CXT}{k:Nat}{f C:Addr}{fd:Xi}{ps:List Str}{sp:Sp}{dvs:List V}{ds:List X0}{E:XK}{x m:Str}{p pos apos:Pos}{e o:Expr}{es:List Expr}{ta:TE}{t:TA}
theorem RN{pins:List (Addr×Obj)}{σ:St}{H:Hp}{s:X1}{Q:VK}{us:List X0}{vs:List V}(F:FnOk X.prog X.w X.K X.mg X.base CX k f fd ps sp)(hr:Room k X.A)(hb:Binds X.K fd ps ds)(hd:Vals dvs ds)(hx:Dx CX X E)
  (I:Inv X pins σ H s) (r:Vals vs us) (h:sp (vs++dvs) H Q E):X4 (X8 X.prog X.w) X.A (call (.ref f) us) (EP X pins σ Q) X.xe s:=by
 have r2:Vals (vs++dvs) (us++ds):=r.append hd;have hl:(us++ds).length=ps.length:=by rw[<- r2.length];exact F.len _ _ _ _ h
 refine wpAny_call (VW (F.run X.A X.stack s H ⟨us,[]⟩ (us++ds) (vs++dvs) Q E hr I.env0 (hb s us I.kIn hl) r2 h) λr s' hq=>?_);cases r with
 |error e=>exact hx pins σ H s e s' I hq
 |ok fl=>
  cases fl with
  |ret u=>exact I.after hq
  |next=>exact Yy hq
  |brk=>exact Yy hq
  |cont=>exact Yy hq
theorem RP(F:FnOk X.prog X.w X.K X.mg X.base CX k f fd ps sp)(hr:Room k X.A)(hg:Gl X x)(hm:X.mg x=some (.ref f))(hk:U0 X.K (.ref f)=true)(hb:Binds X.K fd ps ds)(hd:Vals dvs ds)(hx:Dx CX X E)
  (ha:PA X (e::es) t) (hdb:(x==("__debug__":Str))=false:=by decide) (he:XG (e::es) X.env=(false,eval e X.env)::XG es X.env:=by rfl) (hpl:(Yq pos (XG es X.env)).any (·.1)=false:=by rfl):
  PE X (.Call (.Name x p) (e::es) [] pos) (RL sp dvs E t):=by
 intro pins s σ H Q I h;refine UH (GU I hg hm ?_ hdb);refine PySem.W.callWith_K (h₀:=X.base) I.ok.mod.kin hk (thn (ha pos pins s σ H _ I h) λus s1 ⟨vs,H1,I1,r,q⟩=>⟨I1.kIn,?_⟩) he hpl;exact RN F hr hb hd hx I1 r q
structure Mk (K:X5) (C f:Addr):Prop where
 makes:PySem.W.makesIn K C=true
 init:Vj K (.ref C) "__init__"=some (some (.ref f))
 fn:PySem.W.isFn K (.ref f)=true
 kp:U0 K (.ref C)=true
end
section
variable{X:Cx}{CX:CXT}{k:Nat}{f C:Addr}{fd:Xi}{ps ks:List Str}{sp:Sp}{E:XK}{x m:Str}{p pos apos kpos:Pos}{e o:Expr}{es:List Expr}{kws:List Zs}{te ta:TE}{t tk:TA}{nm:Option Str}
structure KBinds (K:X5) (fd:Xi) (ps ks:List Str) (g:List X0->List X0->List X0) (gV:List V->List V->List V):Prop where
 to:∀(s:X1) (us ws:List X0),K.In s.heap->(g us ws).length=ps.length->BindsTo s fd ⟨us,ks.zip ws⟩ (ps.zip (g us ws))
 rel:∀{vs:List V} {us:List X0} {zs:List V} {ws:List X0},Vals vs us->Vals zs ws->Vals (gV vs zs) (g us ws)
variable{g:List X0->List X0->List X0}{gV:List V->List V->List V}
end
structure FnScope (N P:List Str) (sc:Scope):Prop where
 kind:sc.kind=.function
 co:sc.isCoroutine=false
 gen:sc.isGenerator=false
 nd:N.Nodup
 pre:N.take P.length=P
 par:∀x∈P,sc.names.lookup x=some .local\/sc.names.lookup x=some .cell
 nofree:∀y∈sc.names,y.2≠.free
theorem mkSc {N P:List Str}{sc:Scope}(a:sc.kind=.function:=by rfl)(b:sc.isCoroutine=false:=by rfl)(c:sc.isGenerator=false:=by rfl)(d:N.Nodup:=by decide+kernel)(e:N.take P.length=P:=by rfl)(f:∀x∈P,sc.names.lookup x=some .local\/sc.names.lookup x=some .cell:=by decide+kernel)(g:∀y∈sc.names,y.2≠.free:=by decide+kernel):FnScope N P sc:=⟨a,b,c,d,e,f,g⟩
theorem Hi{kindOf:Str->Option Z7}{x:Str}:∀{binds:List (Str×X0)} {m:Str->Option X0},(∀v,(x,v)∉binds)->bindL kindOf binds m x=m x
 |[],_,_=>rfl
 |(n,v)::r,m,h=>by
  unfold bindL;rw[Hi λw hw=>h w (Yb _ hw)];split
  ·have:x≠n:=by rintro rfl;exact h v Yh
   simp[this]
  ·rfl
theorem Hj{kindOf:Str->Option Z7}{x:Str}:∀{binds:List (Str×X0)} {m:Str->Option X0},(∀v,(x,v)∉binds)->bindC kindOf binds m x=m x
 |[],_,_=>rfl
 |(n,v)::r,m,h=>by
  unfold bindC;rw[Hj λw hw=>h w (Yb _ hw)];split
  ·rfl
  ·have:x≠n:=by rintro rfl;exact h v Yh
   simp[this]
theorem Hk{kindOf:Str->Option Z7}{x:Str}{v:X0}:∀{P:List Str} {vs:List X0} {i:Nat} {m:Str->Option X0},P.Nodup->P[i]?=some x->vs[i]?=some v->kindOf x=some .local->
  bindL kindOf (P.zip vs) m x=some v
 |[],_,_,_,_,h,_,_=>by simp at h
 |_::_,[],_,_,_,_,h,_=>by simp at h
 |p::P,w::vs,0,m,nd,h1,h2,hk=>by
  simp at h1 h2;subst h1;subst h2;show bindL kindOf ((p,w)::P.zip vs) m p=_;unfold bindL;rw[Hi λv hv=>(YF.mp nd).1 (D3 hv).1,if_pos hk];simp
 |p::P,w::vs,i+1,m,nd,h1,h2,hk=>by
  show bindL kindOf ((p,w)::P.zip vs) m x=_;unfold bindL;exact Hk (i:=i) (YF.mp nd).2 (by simpa using h1) (by simpa using h2) hk
theorem Hl{kindOf:Str->Option Z7}{x:Str}{v:X0}:∀{P:List Str} {vs:List X0} {i:Nat} {m:Str->Option X0},P.Nodup->P[i]?=some x->vs[i]?=some v->kindOf x≠some .local->
  bindC kindOf (P.zip vs) m x=some v
 |[],_,_,_,_,h,_,_=>by simp at h
 |_::_,[],_,_,_,_,h,_=>by simp at h
 |p::P,w::vs,0,m,nd,h1,h2,hk=>by
  simp at h1 h2;subst h1;subst h2;show bindC kindOf ((p,w)::P.zip vs) m p=_;unfold bindC;rw[Hj λv hv=>(YF.mp nd).1 (D3 hv).1,if_neg hk];simp
 |p::P,w::vs,i+1,m,nd,h1,h2,hk=>by
  show bindC kindOf ((p,w)::P.zip vs) m x=_;unfold bindC;exact Hl (i:=i) (YF.mp nd).2 (by simpa using h1) (by simpa using h2) hk
noncomputable def start(N:List Str)(vs:List V):St:=vs.map some++UK (N.length - vs.length) none
noncomputable def cxOf(CX:CXT)(P:Xl)(w:Xe)(K:X5)(mg:Str->Option X0)(base:Heap)(N:List Str)(qual:Str)(scope:Scope)(f:Addr)(cd:X0)(A:Xq)(outer:List Env)(s:X1)(H:Hp)(E:XK):Cx where
 prog:=P
 w:=w
 K:=K
 mg:=mg
 base:=base
 A:=A.deeper (envOfC qual scope s.heap.objs.size f cd)
 N:=N
 s₀:=s
 H₀:=H
 env:=envOfC qual scope s.heap.objs.size f cd
 outer:=outer
 stack:=envOfC qual scope s.heap.objs.size f cd::outer
 ex:=[]
 calm:=true
 fn:=λ_=>true
 pn:=[]
 xe:=λe s'=>X4 (X8 P w) (A.deeper (envOfC qual scope s.heap.objs.size f cd)) (leaving (envOfC qual scope s.heap.objs.size f cd) e) (λ_ s''=>CX outer H s E e s'') (λe' s''=>CX outer H s E e' s'') s'
theorem Hm{sc:Scope}{n:Nat}{x:Str}(h:sc.names.lookup x=some .cell):∃c,(cellsFrom n sc.names []).lookup x=some c:=by
 have q:=Gb sc.names n [] (.inl h);exact Option.isSome_iff_exists.mp q
theorem RQ{CX:CXT}{P:Xl}{w:Xe}{K:X5}{mg:Str->Option X0}{base:Heap}{N ps:List Str}{qual:Str}{scope:Scope}{f:Addr}{cd:X0}{A:Xq}{outer:List Env}{s s1:X1}{H:Hp}{E:XK}{us:List X0}{vs:List V}
  (S:FnScope N ps scope) (hd:A.handled=none) (e0:Env0 P w K mg base A outer s H) (hl:vs.length=ps.length) (r:Vals vs us)
  (x:InCallC s s.heap.objs.size (bindL (envOfC qual scope s.heap.objs.size f cd).kindOf (ps.zip us) λ_=>none) (cellsFrom (s.heap.objs.size+1) scope.names []) (bindC (envOfC qual scope s.heap.objs.size f cd).kindOf (ps.zip us) λ_=>none) s1):
  Inv (cxOf CX P w K mg base N qual scope f cd A outer s H E) [] (start N vs) H s1:=by
 have hpl:ps.length≤N.length:=by have:=congrArg List.length S.pre;rw[XL]at this;lia
 obtain⟨h1,tk,rfl,hk⟩:=x.done;have noA:∀b:Addr,b∉(cxOf CX P w K mg base N qual scope f cd A outer s H E).ex:=λb z=>absurd (show b∈([]:List Addr)from z) (by simp)
 refine⟨⟨e0.mod,S.kind,rfl,rfl,Xh _,λy z c h1 h2=>?_,λy hy=>?_,λy c _ h=>?_,λ_=>hd,Around.frames_deeper e0.frames,.inr ⟨rfl,rfl⟩,λb z=>absurd z (noA b),e0.bs,e0.bsz,λb _ _=>noA b,λb z=>absurd z (noA b),e0.funs,e0.frf⟩,
  rfl,e0.bare,Un.kept hk,⟨_,x.toInCall.ns,λi y v h1 h2 h3=>?_⟩,λy c h=>⟨_,x.cell y c h⟩,e0.hok.fresh (Xh _),λy c h=>?_,λp hp=>absurd (show p∈([]:List (Addr×Obj))from hp) (by simp),e0.hok.kept hk,?_⟩
 ·exact name_of_addr x.apart (Vs h1) (Vs h2)
 ·have hy:scope.names.lookup y=some .cell\/scope.names.lookup y=some .free:=hy;rcases hy with hy|hy
  ·exact Hm hy
  ·exact absurd rfl (S.nofree _ (Vs hy))
 ·exact BE (x.above y c (Vs h))
 ·have hi:i<vs.length:=by
   unfold start at h2;by_cases hi:i<vs.length
   ·exact hi
   ·rw[ZY (by simpa using hi)]at h2
    rw[G9]at h2;split at h2<;>cases h2
  have ha:vs[i]?=some v:=by
   unfold start at h2;rw[Zu (by simpa using hi),Xg]at h2
   cases e:vs[i]? with
   |none=>rw[e]at h2;cases h2
   |some a=>rw[e]at h2;cases h2;rfl
  obtain⟨u,hu,rv⟩:=r.get ha;have hp:ps[i]?=some y:=by
   rw[<- S.pre,W3 (by lia)];exact h1
  have ndP:ps.Nodup:=by rw[<- S.pre];exact S.nd.sublist (Bt _ _)
  refine⟨u,rv,?_⟩;rcases S.par y (Xk hp)with k|k
  ·exact .inl ⟨k,Hk ndP hp hu k⟩
  ·obtain⟨c,e⟩:=Hm (n:=s.heap.objs.size+1) k;refine .inr ⟨.inl k,c,e,?_⟩;have q:=x.cell y c e;rw[Hl ndP hp hu (by show scope.names.lookup y≠_;rw[k];decide)]at q
   exact q
 ·exact e0.hok.fresh (BE (x.above y c (Vs h)))
 ·unfold start;show _=N.length;rw[Y5,X2,CT];lia
theorem RT{CX:CXT}{P:Xl}{w:Xe}{K:X5}{mg:Str->Option X0}{base:Heap}{k:Nat}{f:Addr}{name qual:Str}{params:Arguments}{body:List Stmt}{scope:Scope}{dV kV doc pm cdv ct oc:X0}{an od:Option Addr}
  {osl:Array (Option X0)} {N ps:List Str} {sp:Sp} (lk:K.lookup f=some ⟨oc,od,.func (Ul name qual params body scope dV kV doc pm an cdv ct),osl⟩) (hcd:Db K cdv qual=true) (S:FnScope N ps scope)
  (len:∀vs H Q E,sp vs H Q E->vs.length=ps.length)
  (hbody:∀(A:Xq) (outer:List Env) (s:X1) (H:Hp) (vs:List V) (Q:VK) (E:XK),Room k (A.deeper (envOfC qual scope s.heap.objs.size f cdv))->sp vs H Q E->
   ∃t,PSs (cxOf CX P w K mg base N qual scope f cdv A outer s H E) body t/\t {nx:=λ_ H'=>Q .non H',rt:=Q} (start N vs) H):
  FnOk P w K mg base CX (k+1) f (Ul name qual params body scope dV kV doc pm an cdv ct) ps sp:=by
 refine⟨len,λA outer s H args us vs Q E hr e0 hb r hsp=>?_⟩;have hl:=len _ _ _ _ hsp;have KX:K.In s.heap:=e0.mod.kin.keeps λb o e=>(e0.bs b o e).1;have lim:s.heap.NoLimit:=e0.mod.nolimit.keeps λb o e=>(e0.bs b o e).1;have hkind:∀y∈ps.zip us,scope.names.lookup y.1=some .local\/(scope.names.lookup y.1=some .cell/\((cellsFrom (s.heap.objs.size+1) scope.names []).lookup y.1).isSome=true):=fun⟨n,v⟩ hy=>by
  rcases S.par n (D3 hy).1 with q|q
  ·exact .inl q
  ·exact .inr ⟨q,Gb _ _ _ (.inl q)⟩
 refine codeAny_call_function hr.depth (KX _ _ lk) rfl S.co S.gen rfl (PySem.W.codeRec_of KX hcd) (hb _ _ _ _ ?_);refine wpAny_newFunctionEnv_cells S.kind hkind λenv he s1 x=>?_;subst he;refine⟨lim.keeps x.toInCall.keep,codeAny_func ?_⟩;obtain⟨t,ht,hq⟩:=hbody A outer s H vs Q E (hr.deeper _) hsp;have I:Inv (cxOf CX P w K mg base N qual scope f cdv A outer s H E) [] (start N vs) H s1:=RQ S hr.hd e0 hl r x;refine Zp (ht [] s1 (start N vs) H _ I hq) (λfl s' hs=>?_) λe s' hs=>hs;have fin:∀{σ':St} {H':Hp} {v:V} {u:X0},Inv (cxOf CX P w K mg base N qual scope f cdv A outer s H E) [] σ' H' s'->RelV v u->Q v H'->CE outer P w H s Q u s':=
  fun{σ' H' v u} J rv q=>⟨v,H',J.os,J.bare,J.base,J.hok,rv,q⟩
 cases fl with
 |ret u=>
  obtain⟨v,σ',H',J,rv,q⟩:=hs;exact fin J rv q
 |next=>
  obtain⟨σ',H',J,q⟩:=hs;exact fin (v:=V.non) (u:=Xw) J rfl q
 |brk=>
  obtain⟨_,_,_,q⟩:=hs;exact Yy q
 |cont=>
  obtain⟨_,_,_,q⟩:=hs;exact Yy q
section
variable{X:Cx}{x:Str}{p pos:Pos}{e:Expr}{es:List Expr}{t:TA}{id T:String}{r:List V->Hp->VK->Prop}
noncomputable def tCB(r:List V->Hp->VK->Prop)(t:TA):TE:=λσ H Q=>t σ H λvs H1=>r vs H1 Q
theorem RU(hc:CallR X (.builtin id) r)(hg:Gl X x)(hm:X.mg x=none)(hv:YD x=some (.builtin id))(ha:PA X (e::es) t)(hn:x≠"__name__":=by decide)(hdb:(x==("__debug__":Str))=false:=by decide)
  (he:XG (e::es) X.env=(false,eval e X.env)::XG es X.env:=by rfl) (hpl:(Yq pos (XG es X.env)).any (·.1)=false:=by rfl):PE X (.Call (.Name x p) (e::es) [] pos) (tCB r t):=by
 intro pins s σ H Q I h;refine UH (ZK I hg hm hv ?_ hn hdb);exact Ge (thn (ha pos pins s σ H _ I h) λus s1 ⟨vs,H1,I1,r1,q1⟩=>hc pins s1 σ H1 vs us Q I1 r1 q1) he hpl
theorem RV(hc:CallR X (.type T) r)(hg:Gl X x)(hm:X.mg x=none)(hv:YD x=some (.type T))(ha:PA X (e::es) t)(hn:x≠"__name__":=by decide)(hdb:(x==("__debug__":Str))=false:=by decide)
  (he:XG (e::es) X.env=(false,eval e X.env)::XG es X.env:=by rfl) (hpl:(Yq pos (XG es X.env)).any (·.1)=false:=by rfl):PE X (.Call (.Name x p) (e::es) [] pos) (tCB r t):=by
 intro pins s σ H Q I h;refine UH (ZK I hg hm hv ?_ hn hdb);exact UW (thn (ha pos pins s σ H _ I h) λus s1 ⟨vs,H1,I1,r1,q1⟩=>hc pins s1 σ H1 vs us Q I1 r1 q1) he hpl
end
end L2
namespace HT
open PySem PyProof.Rows
section
open PySem.SeqAt
open PySem.AutoSeq1 (wpAny_loadPart')
open PySem.MeetsSeq PySem.MeetsSeq2 PySem.MeetsSeq3
end
section
variable{prog:Xl}{w:Xe}{A:Xq}{E:X0->X1->Prop}{s:X1}
theorem cat_tup{t b:Addr}{vs ws:List X0}{Q:X0->X1->Prop}(ht:IsTup s.heap t vs.toArray)(hb:IsTup s.heap b ws.toArray)(hv:vs≠ [])
  (h1:ws=[]->Q (.ref t) s) (h2:ws≠ []->Q (.ref s.heap.objs.size) {s with heap:=s.heap.push {cls:=.type "tuple",data:=.seq (vs++ws).toArray} })
  (hsz:vs.length+ws.length≤sizeLine):X4 (X8 prog w) A (Z5 .Add (.ref t) (.ref b)) Q E s:=by
 obtain⟨⟨cls,dd,data,sl⟩,ho,hc,n,hd⟩:=id ht;obtain⟨⟨cls2,dd2,data2,sl2⟩,ho2,hc2,n2,hd2⟩:=id hb;simp only at hc hd hc2 hd2;subst hc hd hc2 hd2;have e:vs.toArray++ws.toArray=(vs++ws).toArray:=by simp
 by_cases hw:ws=[]
 ·exact concat_meets ⟨_,ho,rfl⟩ ⟨_,ho2,rfl⟩ noFill_tuple_add seq_tuple_add Gq Gp (Go _ _)
   (tuple_addW1 t b vs.toArray ws.toArray n n2 dd dd2 sl sl2 (by simpa using hv) (by simp[hw])) ⟨ho,ho2,h1 hw⟩
 ·refine concat_meets ⟨_,ho,rfl⟩ ⟨_,ho2,rfl⟩ noFill_tuple_add seq_tuple_add Gq Gp (Go _ _)
   (tuple_addW2 t b vs.toArray ws.toArray n n2 dd dd2 sl sl2 (by simpa using hv) (by simpa using hw) (by rw[XO,XO];exact hsz)) ⟨ho,ho2,?_⟩
  rw[e];exact h2 hw
noncomputable def sIx(n d:Nat):Option Int->Nat
 |none=>d
 |some v=>if v<0 then(v+(n:Int)).toNat else min v.toNat n
theorem sIx_none(n d:Nat):sIx n d none=d:=rfl
theorem sIx_nat(n d k:Nat):sIx n d (some (k:Int))=min k n:=by
 show(if(k:Int)<0 then((k:Int)+(n:Int)).toNat else min (k:Int).toNat n)=min k n;rw[if_neg (by lia),Up]
theorem RW(n d:Nat)(hd:d≤n)(o:Option Int):sIx n d o≤n:=by
 cases o with
 |none=>exact hd
 |some v=>
  show(if v<0 then(v+(n:Int)).toNat else min v.toNat n)≤n;by_cases hv:v<0
  ·rw[if_pos hv];lia
  ·rw[if_neg hv];exact Nat.min_le_right _ _
theorem Hn(v:Int)(n d:Nat):(if v<0 then max (v+(n:Int)) 0 else min v (n:Int))=((sIx n d (some v):Nat):Int):=by
 show(if v<0 then max (v+(n:Int)) 0 else min v (n:Int))=(((if v<0 then(v+(n:Int)).toNat else min v.toNat n):Nat):Int);by_cases hv:v<0
 ·simp only[if_pos hv];lia
 ·simp only[if_neg hv];lia
theorem RX(lo hi:Option Int)(n:Nat):Dh lo hi 1 (n:Int)=(((sIx n 0 lo:Nat):Int),((sIx n n hi:Nat):Int)):=by
 have h1:¬((1:Int)<0):=by lia
 unfold Dh;simp only[h1,if_false];refine Prod.ext ?_ ?_
 ·cases lo with
  |none=>rfl
  |some v=>exact Hn v n 0
 ·cases hi with
  |none=>rfl
  |some v=>exact Hn v n n
theorem RY(i j:Nat):BM (i:Int) (j:Int) 1=j - i:=by
 unfold BM;have h1:(1:Int)>0:=by lia
 simp only[h1,if_true,Int.ediv_one];split<;>lia
theorem Ho{v:X0}{o:Option Int}{Q:Option Int->X1->Prop}(p:IsPart v o)(h:Q o s):X4 (X8 prog w) A (Builtin.Slice.slicePartIndex v) Q E s:=by
 cases p with
 |none=>exact slicePart_none h
 |int i t=>exact slicePart_int h
theorem Hq{sl:Addr}{vl vu:X0}{lo hi:Option Int}{n:Nat}{Q:Int×Int×Nat->X1->Prop}(hs:s.heap.IsSliceOf sl vl vu .none)(pl:IsPart vl lo)(pu:IsPart vu hi)
  (h:Q (((sIx n 0 lo:Nat):Int),1,sIx n n hi - sIx n 0 lo) s):X4 (X8 prog w) A (Gj (.ref sl) (pure (n:Int))) Q E s:=by
 obtain⟨os,hos,hcs,hds⟩:=id hs;unfold Gj Builtin.Slice.sliceFields;refine X3 (X3 (wpAny_field hos hds (x:=vl) rfl (X3 (wpAny_field hos hds (x:=vu) rfl (X3 (wpAny_field hos hds (x:=.none) rfl (Xa ?_)))))));refine X3 (slicePart_none ?_);show X4 _ _ (if((1:Int)==0)=true then _ else _) _ _ s;rw[if_neg (by decide)]
 refine X3 (Ho pl (X3 (Ho pu (X3 (Xa ?_)))));show X4 _ _ (match Dh lo hi 1 (n:Int)with|(lo,hi)=>pure (lo,(1:Int),BM lo hi 1)) _ _ s
 rw[RX lo hi n];show X4 _ _ (pure (((sIx n 0 lo:Nat):Int),(1:Int),BM ((sIx n 0 lo:Nat):Int) ((sIx n n hi:Nat):Int) 1)) _ _ s;rw[RY];exact Xa h
theorem RZ(xs:Array X0)(i k:Nat):((XN k).filterMap fun(m:Nat)=>xs[((i:Int)+(m:Int)*1).toNat]?).toArray=((xs.toList.drop i).take k).toArray:=by
 have e:(fun(m:Nat)=>xs[((i:Int)+(m:Int)*1).toNat]?)=λm=>xs[i+m]?:=by
  funext m
  have:((i:Int)+(m:Int)*1).toNat=i+m:=by lia
  rw[this]
 rw[e];have:=pick_run xs i k;rw[List.filterMap_map]at this;have e2:((λx=>xs[x]?)∘ λx=>i+x)=λm=>xs[i+m]?:=rfl;rw[e2]at this;rw[this]
theorem getItem_tuple_cut{t sl:Addr}{items:Array X0}{vl vu:X0}{lo hi:Option Int}{Q:X0->X1->Prop}(ht:IsTup s.heap t items)(hs:s.heap.IsSliceOf sl vl vu .none)(pl:IsPart vl lo)(pu:IsPart vu hi)
  (hw:¬(sIx items.size 0 lo=0/\sIx items.size items.size hi=items.size))
  (h:Q (.ref s.heap.objs.size) {s with heap:=s.heap.push {cls:=.type "tuple",data:=.seq ((items.toList.drop (sIx items.size 0 lo)).take (sIx items.size items.size hi - sIx items.size 0 lo)).toArray} })
  (hsz:items.size≤sizeLine):X4 (X8 prog w) A (getItem (.ref t) (.ref sl)) Q E s:=by
 have htake:sizeOk (.seq ((items.toList.drop (sIx items.size 0 lo)).take (sIx items.size items.size hi - sIx items.size 0 lo)).toArray):=by
  show((items.toList.drop (sIx items.size 0 lo)).take (sIx items.size items.size hi - sIx items.size 0 lo)).toArray.size≤sizeLine;rw[XO,XL,Uk,XW];lia
 have hj:sIx items.size items.size hi≤items.size:=RW _ _ (Xh _) hi;obtain⟨os,hos,hcs,hds⟩:=id hs;have hTs:s.TypeIs (.ref sl) "slice":=⟨os,hos,hcs⟩;unfold getItem
 try with_reducible refine YI ?_
 first|refine X3 (Xa ?_)|skip
 refine X3 (wpAny_sequenceKey ht.typeIs (by decide) ?_)
 refine X3 (Bl (name:=XS "__getitem__") ht.typeIs Vo
  (Z8 Vo ht.typeIs entry_tuple_getitem ?_ (args_tuple_getitem _ _)))
 show X4 _ _ (Gh (.ref t)>>= _) _ _ s;refine X3 (tupleItemsOf_ ht ?_);refine X3 (Zt hTs ?_);rw[if_pos (by decide)]
 refine X3 (Hq hs pl pu ?_);have hno:¬((((sIx items.size 0 lo:Nat):Int)==0&&(1:Int)==1&&(sIx items.size items.size hi - sIx items.size 0 lo)==items.size)=true):=by
  intro q;rw[Yd,Yd]at q;have q1:((sIx items.size 0 lo:Nat):Int)=0:=eq_of_beq q.1.1;have q2:sIx items.size items.size hi - sIx items.size 0 lo=items.size:=eq_of_beq q.2;exact hw ⟨by lia,by lia⟩
 show X4 _ _ (if(((sIx items.size 0 lo:Nat):Int)==0&&(1:Int)==1&&(sIx items.size items.size hi - sIx items.size 0 lo)==items.size)=true then _ else _) _ _ s;rw[if_neg hno,RZ]
 first
  |exact X3 (m:=BL _) (ZX (Xa ⟨_,rfl,Xa h⟩) htake)
  |exact X3 (m:=BL _) (ZX (X3 (Xa (Xa ⟨_,rfl,Xa h⟩))) htake)
  |exact X3 (X3 (m:=BL _) (ZX (Xa (Xa ⟨_,rfl,Xa h⟩)) htake))
  |exact X3 (X3 (m:=BL _) (ZX (Xa ⟨_,rfl,Xa h⟩) htake))
end
end HT
namespace L2
open PySem PySem.Spec PyProof.Rows
noncomputable abbrev TO:=St->Hp->(Option Int->Hp->Prop)->Prop
noncomputable def PO(X:Cx)(e:Option Expr)(t:TO):Prop:=
 ∀(pins:List (Addr×Obj)) (s:X1) (σ:St) (H:Hp) (Q:Option Int->Hp->Prop),Inv X pins σ H s->t σ H Q->
  X4 (X8 X.prog X.w) X.A (evalPart e X.env) (λu s'=>∃o H',Inv X pins σ H' s'/\IsPart u o/\Q o H') X.xe s
noncomputable def S0:TO:=λ_ H Q=>Q none H
noncomputable def S1(t:TE):TO:=λσ H Q=>t σ H λx H1=>∃i,x=.int i/\Q (some i) H1
theorem Hr{ns:List Int}:∀{us:List X0},Vals (ns.map V.int) us->IntsAre us ns:=by
 induction ns with
 |nil=>intro us r;rw[Y6]at r;cases r;exact .nil
 |cons n ns ih=>
  intro us r;rw[Xz]at r;cases r with
  |cons r1 r2=>
   obtain⟨t,e⟩:=r1;subst e;exact .cons n t (ih r2)
section
variable{X:Cx}{e:Expr}{te:TE}{lo hi:Option Expr}{tl th:TO}{pos p2:Pos}
theorem S2:PO X none S0:=by
 intro pins s σ H Q I h;rw[evalPart_none];exact Xa ⟨none,H,I,.none,h⟩
theorem S3(h:PE X e te):PO X (some e) (S1 te):=by
 intro pins s σ H Q I hw;rw[evalPart_some];refine thn (h pins s σ H _ I hw) λu s1 ⟨x,H1,I1,r1,q1⟩=>?_;obtain⟨i,rfl,q⟩:=q1;obtain⟨t,rfl⟩:=r1;exact⟨some i,H1,I1,.int i t,q⟩
noncomputable def SlR(X:Cx)(r:V->Option Int->Option Int->Hp->VK->Prop):Prop:=
 ∀(pins:List (Addr×Obj)) (s:X1) (σ:St) (H:Hp) (x:V) (v vl vu:X0) (lo hi:Option Int) (sl:Addr) (Q:VK),Inv X pins σ H s->RelV x v->s.heap.IsSliceOf sl vl vu .none->IsPart vl lo->IsPart vu hi->r x lo hi H Q->
  ∃T id,Vb (.type T) "__getitem__"=pure (some (.builtin id))/\s.TypeIs v T/\X4 (X8 X.prog X.w) X.A (getItem v (.ref sl)) (EP X pins σ Q) X.xe s
theorem SlR.or{r r':V->Option Int->Option Int->Hp->VK->Prop}(h:SlR X r)(h':SlR X r'):SlR X (λx lo hi H Q=>r x lo hi H Q\/r' x lo hi H Q):=by
 intro pins s σ H x v vl vu lo hi sl Q I rx hs pl pu q;rcases q with q|q
 ·exact h pins s σ H x v vl vu lo hi sl Q I rx hs pl pu q
 ·exact h' pins s σ H x v vl vu lo hi sl Q I rx hs pl pu q
noncomputable def tSl(r:V->Option Int->Option Int->Hp->VK->Prop)(te:TE)(tl th:TO):TE:=λσ H Q=>te σ H λx H1=>tl σ H1 λl H2=>th σ H2 λu H3=>r x l u H3 Q
theorem S4{r:V->Option Int->Option Int->Hp->VK->Prop}(hr:SlR X r)(he:PE X e te)(hl:PO X lo tl)(hu:PO X hi th):PE X (.Subscript e (.Slice lo hi none p2) pos) (tSl r te tl th):=by
 intro pins s σ H Q I h;refine Subscript_ (thn (he pins s σ H _ I h) λv s1 ⟨x,H1,I1,r1,q1⟩=>?_);refine wpAny_Slice (thn (hl pins s1 σ H1 _ I1 q1) λvl s2 ⟨l,H2,I2,pl,q2⟩=>thn (hu pins s2 σ H2 _ I2 q2) λvu s3 ⟨u,H3,I3,pu,q3⟩=>?_);rw[evalPart_none];refine Xa ?_;have I4:Inv X pins σ H3 {s3 with heap:=s3.heap.push {cls:=.type "slice",data:=.fields #[vl,vu,.none]} }:=I3.kept (t':=s3.toks) fun b ob q=>Xr _ q;obtain⟨T,id,hT,ht,hg⟩:=hr pins {s3 with heap:=s3.heap.push {cls:=.type "slice",data:=.fields #[vl,vu,.none]} } σ H3 x v vl vu l u s3.heap.objs.size Q I4 r1 (Heap.IsSliceOf.new ..) pl pu q3;show X4 (X8 X.prog X.w) X.A (subscriptTail e (.Slice lo hi none p2) v (.ref s3.heap.objs.size)) (EP X pins σ Q) X.xe {s3 with heap:=s3.heap.push {cls:=.type "slice",data:=.fields #[vl,vu,.none]} };exact tail_any (ops:=[.ref s3.heap.objs.size,v]) ht hT hg (by with_unfolding_all rfl)
noncomputable def cutV(xs:List V)(lo hi:Option Int):List V:=(xs.drop (HT.sIx xs.length 0 lo)).take (HT.sIx xs.length xs.length hi - HT.sIx xs.length 0 lo)
theorem Hs(xs:List V)(lo hi:Option Int):(cutV xs lo hi).length≤xs.length:=by
 unfold cutV;rw[XL,Uk];lia
noncomputable def rSlT(K:X5):V->Option Int->Option Int->Hp->VK->Prop:=λx lo hi H Q=>∃a xs,x=.ref a/\SqT K H a xs/\
 ¬(HT.sIx xs.length 0 lo=0/\HT.sIx xs.length xs.length hi=xs.length)/\∀p,H p=none->Q (.ref p) (upd H p (.tup (cutV xs lo hi)))
theorem S5:SlR X (rSlT X.K):=by
 intro pins s σ H x v vl vu lo hi sl Q I rx hs pl pu h;obtain⟨a,xs,rfl,hx,hw,q⟩:=h;cases rx;obtain⟨its,r,ht,hz⟩:=I.tuple hx;have hlen:its.toArray.size=xs.length:=by rw[XO];exact r.length.symm
 refine⟨"tuple",_,Vo.lookup,ht.typeIs,?_⟩;refine HT.getItem_tuple_cut ht hs pl pu (by rw[hlen];exact hw) ?_ (by rw[hlen];exact hz)
 rw[hlen];refine⟨.ref s.heap.objs.size,_,I.laid (t':=s.toks) (o:=.tup (cutV xs lo hi)) (λb ob q=>Xr _ q) (Xh _) ?_,rfl,q _ (I.hok.fresh (Xh _))⟩;exact⟨XV (Hs xs lo hi) hz,_,(r.drop (HT.sIx xs.length 0 lo)).take (HT.sIx xs.length xs.length hi - HT.sIx xs.length 0 lo),IsTup.new _ _,_,XQ _ rfl,rfl⟩
noncomputable def S6(K:X5):R2:=λx y H Q=>∃a b xs ys,x=.ref a/\y=.ref b/\SqT K H a xs/\SqT K H b ys/\xs≠ []/\xs.length+ys.length≤sizeLine/\
 (ys=[]->Q (.ref a) H)/\(ys≠ []->∀p,H p=none->Q (.ref p) (upd H p (.tup (xs++ys))))
theorem Vals.nil_iff{xs:List V}{us:List X0}(r:Vals xs us):us=[]↔xs=[]:=by
 cases r with
 |nil=>simp
 |cons _ _=>simp
theorem S7:OpR X (Z5 .Add) (S6 X.K):=by
 intro pins s σ H x y v u Q I rx ry h;obtain⟨a,b,xs,ys,rfl,rfl,ha,hb,hx,hz,q1,q2⟩:=h;cases rx;cases ry;obtain⟨its,r1,p1,_⟩:=I.tuple ha;obtain⟨its2,r2,p2,_⟩:=I.tuple hb;refine HT.cat_tup p1 p2 (λz=>hx (r1.nil_iff.mp z)) (λz=>⟨.ref a,H,I,rfl,q1 (r2.nil_iff.mp z)⟩) (λz=>?_) (by rw[<- r1.length,<- r2.length];exact hz)
 refine⟨.ref s.heap.objs.size,_,I.laid (t':=s.toks) (o:=.tup (xs++ys)) (λb ob q=>Xr _ q) (Xh _) ?_,rfl,q2 (λw=>z (r2.nil_iff.mpr w)) _ (I.hok.fresh (Xh _))⟩;exact⟨by rw[Y5];exact hz,_,r1.append r2,IsTup.new _ _,_,XQ _ rfl,rfl⟩
end
noncomputable def ixN(n:Nat)(i:Int):Option Nat:=if 0≤i then(if i<n then some i.toNat else none)else if -(n:Int)≤i then some (i+n).toNat else none
noncomputable def atI{α:Type}(xs:List α)(i:Int):Option α:=(ixN xs.length i).bind λj=>xs[j]?
theorem Ht{n:Nat}{i:Int}{j:Nat}(h:ixN n i=some j):seqIndex? i n=some j/\j<n/\ -(n:Int)≤i/\i<n:=by
 unfold ixN at h;by_cases h0:0≤i
 ·rw[if_pos h0]at h;by_cases h1:i<n
  ·rw[if_pos h1]at h;have e:i.toNat=j:=Yk h;exact⟨by rw[seqIndex_of h0 h1,e],by lia,by lia,h1⟩
  ·rw[if_neg h1]at h;cases h
 ·rw[if_neg h0]at h;by_cases h1:-(n:Int)≤i
  ·rw[if_pos h1]at h;have e:(i+n).toNat=j:=Yk h;exact⟨by rw[seqIndex_neg (by lia) h1,e],by lia,h1,by lia⟩
  ·rw[if_neg h1]at h;cases h
theorem Dy{α:Type}{xs:List α}{i:Int}{v:α}(h:atI xs i=some v):∃j,seqIndex? i xs.length=some j/\xs[j]?=some v/\j<xs.length/\ -(xs.length:Int)≤i/\i<xs.length:=by
 unfold atI at h;cases e:ixN xs.length i with
 |none=>rw[e]at h;cases h
 |some j=>
  rw[e]at h;obtain⟨h1,h2,h3,h4⟩:=Ht e;exact⟨j,h1,h,h2,h3,h4⟩
theorem XH{α:Type}{xs:List α}{j:Nat}{v:α}(h:xs[j]?=some v):atI xs (j:Int)=some v:=by
 have hj:j<xs.length:=(Xx.mp h).1;have e:ixN xs.length (j:Int)=some j:=by
  unfold ixN;rw[if_pos (by lia),if_pos (by lia)];simp
 unfold atI;rw[e];exact h
noncomputable def Hu(b:Expr):Prop:=∀o i,subscripted b false o i=operate [o,i] (getItem o i)
noncomputable def IxR(X:Cx)(r:R2):Prop:=
 ∀(value slice:Expr) (pins:List (Addr×Obj)) (s:X1) (σ:St) (H:Hp) (x y:V) (v u:X0) (Q:VK),Inv X pins σ H s->RelV x v->RelV y u->r x y H Q->
  subscripted slice false v u=operate [v,u] (getItem v u)->X4 (X8 X.prog X.w) X.A (subscriptTail value slice v u) (EP X pins σ Q) X.xe s
noncomputable def MtR(X:Cx)(id:String)(r:V->List V->Hp->VK->Prop):Prop:=
 ∀(pins:List (Addr×Obj)) (s:X1) (σ:St) (H:Hp) (x:V) (xs:List V) (v:X0) (us:List X0) (Q:VK),Inv X pins σ H s->RelV x v->Vals xs us->r x xs H Q->
  X4 (X8 X.prog X.w) X.A (call (.builtin id) (v::us)) (EP X pins σ Q) X.xe s
section
variable{X:Cx}{a b:Expr}{ta tb:TE}{pos:Pos}
theorem IxR.or{r r':R2}(h:IxR X r)(h':IxR X r'):IxR X (λx y H Q=>r x y H Q\/r' x y H Q):=by
 intro value slice pins s σ H x y v u Q I rx ry q hs;rcases q with q|q
 ·exact h value slice pins s σ H x y v u Q I rx ry q hs
 ·exact h' value slice pins s σ H x y v u Q I rx ry q hs
theorem MtR.or{id:String}{r r':V->List V->Hp->VK->Prop}(h:MtR X id r)(h':MtR X id r'):MtR X id (λx xs H Q=>r x xs H Q\/r' x xs H Q):=by
 intro pins s σ H x xs v us Q I rx rs q;rcases q with q|q
 ·exact h pins s σ H x xs v us Q I rx rs q
 ·exact h' pins s σ H x xs v us Q I rx rs q
theorem S8{r:R2}(hr:IxR X r)(ha:PE X a ta)(hb:PE X b tb)(hs:Hu b):PE X (.Subscript a b pos) (tOp r ta tb):=by
 intro pins s σ H Q I h;exact Subscript_ (binT ha hb I h λv u s2 x y H2 I2 rx ry q=>hr a b pins s2 σ H2 x y v u Q I2 rx ry q (hs _ _))
noncomputable def rIxL(K:X5):R2:=λx y H Q=>∃p xs i v,x=.ref p/\y=.int i/\SqL K H p xs/\atI xs i=some v/\Q v H
noncomputable def rIxT(K:X5):R2:=λx y H Q=>∃p xs i v,x=.ref p/\y=.int i/\SqT K H p xs/\atI xs i=some v/\Q v H
noncomputable def rIxS:R2:=λx y H Q=>∃z i c,x=.str z/\y=.int i/\z.length≤sizeLine/\atI z.cps.toList i=some c/\Q (.str ⟨#[c]⟩) H
theorem Hv:IxR X (rIxL X.K):=by
 intro value slice pins s σ H x y v u Q I rx ry h hs;obtain⟨p,xs,i,z,rfl,rfl,hq,he,q⟩:=h;cases rx;obtain⟨t,rfl⟩:=ry;obtain⟨its,r,pl,hz⟩:=I.list hq;obtain⟨j,h1,h2,h3,h4,h5⟩:=Dy he;obtain⟨w,ew,rw'⟩:=r.get h2;have hl:=r.length;have hn:=Vw;have fin:EP X pins σ Q w s:=⟨z,H,I,rw',q⟩;by_cases h0:0≤i
 ·have hj:i.toNat=j:=by
   rw[seqIndex_of h0 h5]at h1;exact Yk h1
  exact item_listR pl.isList h0 (by lia) (by rw[hj];simpa using ew) fin hs
 ·have hj:(i+(its.toArray.size:Int)).toNat=j:=by
   rw[seqIndex_neg (by lia) h4]at h1
   rw[XO,<- hl];exact Yk h1
  exact subscriptTail_builtinR (x:=w) pl.isList.typeIs slot_list_getitem.lookup
   (wpAny_getItem_list_neg (Q:=λr s'=>r=w/\EP X pins σ Q r s') pl.isList (by lia) (by rw[XO]<;>lia) (by lia) (by rw[hj];simpa using ew) ⟨rfl,fin⟩) hs
theorem S9:IxR X (rIxT X.K):=by
 intro value slice pins s σ H x y v u Q I rx ry h hs;obtain⟨p,xs,i,z,rfl,rfl,hq,he,q⟩:=h;cases rx;obtain⟨t,rfl⟩:=ry;obtain⟨its,r,pl,hz⟩:=I.tuple hq;obtain⟨j,h1,h2,h3,h4,h5⟩:=Dy he;obtain⟨w,ew,rw'⟩:=r.get h2;have hl:=r.length;have hn:=Vw;have fin:EP X pins σ Q w s:=⟨z,H,I,rw',q⟩;exact subscriptTail_builtinR (x:=w) pl.typeIs slot_tuple_getitem.lookup
  (getItem_tuple (j:=j) (Q:=λr s'=>r=w/\EP X pins σ Q r s') pl (by lia) (by lia) (by rw[XO,<- hl];exact h1) (by simpa using ew) ⟨rfl,fin⟩) hs
theorem Sa:IxR X rIxS:=by
 intro value slice pins s σ H x y v u Q I rx ry h hs;obtain⟨z,i,c,rfl,rfl,hz,he,q⟩:=h;obtain⟨t,rfl⟩:=rx;obtain⟨t',rfl⟩:=ry;obtain⟨j,h1,h2,h3,h4,h5⟩:=Dy he;have hl:z.cps.toList.length=z.length:=by simp[BG]
 rw[hl]at h1 h4 h5;have hn:=Vw;exact tail_any (typeIs_str s z t) slot_str_getitem.lookup (getItem_str (c:=c) (by
  have e1:decide (i< -(2^63:Int))=false:=decide_eq_false (by lia)
  have e2:decide (i ≥ 2^63)=false:=decide_eq_false (by lia)
  rw[e1,e2,Bool.or_false]) (by rw[h1];simpa using h2) ⟨.str ⟨#[c]⟩,H,I.tok _,⟨_,rfl⟩,q⟩) hs
theorem Sb(its:List X0)(n j:Nat)(u:X0):U8 (·.setIfInBounds j u) {cls:=.type "list",data:=.seq its.toArray n}={cls:=.type "list",data:=.seq (its.set j u).toArray n}:=by
 simp[U8]
theorem Inv.lst{pins:List (Addr×Obj)}{σ:St}{H:Hp}{s:X1}{p:Addr}{xs:List V}(I:Inv X pins σ H s)(h:H p=some (.lst xs)):
  ∃(its:List X0) (n:Nat),Vals xs its/\s.heap.get? p=some {cls:=.type "list",data:=.seq its.toArray n}/\xs.length≤sizeLine:=by
 obtain⟨z,its,n,r,e⟩:=I.hok p _ h;exact⟨its,n,r,e,z⟩
theorem Inv.lstUpd{pins:List (Addr×Obj)}{σ:St}{H:Hp}{s:X1}{p:Addr}{xs ys:List V}{its its':List X0}{n n':Nat}{f:Obj->Obj}(I:Inv X pins σ H s)(h:H p=some (.lst xs))
  (ho:s.heap.get? p=some {cls:=.type "list",data:=.seq its.toArray n}) (hf:f {cls:=.type "list",data:=.seq its.toArray n}={cls:=.type "list",data:=.seq its'.toArray n'}) (r:Vals ys its') (hz:ys.length≤sizeLine) (t:Nat):
  Inv X pins σ (upd H p (.lst ys)) {s with heap:=s.heap.update p f,toks:=t}:=by
 have e:(s.heap.update p f).get? p=some {cls:=.type "list",data:=.seq its'.toArray n'}:=by
  rw[UO f ho (by rw[hf]<;>rfl),hf]
 refine I.write (x:=p) (e:=p) (by rw[h];trivial) (.inl rfl) (λb u hb q=>(Vk _ _ (Za hb)).trans q) ⟨_,e⟩ ?_
 exact⟨hz,its',n',r,e⟩
noncomputable def Sc:V->V->V->Hp->(Hp->Prop)->Prop:=λo i v H Q=>∃p xs k j,o=.ref p/\i=.int k/\H p=some (.lst xs)/\ixN xs.length k=some j/\Q (upd H p (.lst (xs.set j v)))
theorem Sd:PSet X Sc:=by
 intro pins s σ H o i v ov iv u Q I ro ri rv h;obtain⟨p,xs,k,j,rfl,rfl,hp,hj,q⟩:=h;cases ro;obtain⟨t,rfl⟩:=ri;obtain⟨its,n,r,ho,hz⟩:=I.lst hp;obtain⟨h1,h2,h3,h4⟩:=Ht hj;have hl:=r.length;have hn:=Vw;have I':Inv X pins σ (upd H p (.lst (xs.set j v))) {s with heap:=s.heap.update p (U8 (·.setIfInBounds j u))}:=
  I.lstUpd hp ho (Sb its n j u) (r.set rv j) (by rw[UJ];exact hz) s.toks
 by_cases h0:0≤k
 ·have hk:k.toNat=j:=by
   rw[seqIndex_of h0 h4]at h1;exact Yk h1
  exact PySem.W.ki_setAt ho h0 (by lia) (by rw[XO,<- hl];exact h4) (by rw[hk];exact⟨_,I',q⟩)
 ·have hk:(k+(its.toArray.size:Int)).toNat=j:=by
   rw[seqIndex_neg (by lia) h3]at h1
   rw[XO,<- hl];exact Yk h1
  exact PySem.W.ki_setBack ho (by lia) (by rw[XO,<- hl];exact h3) (by lia) (by rw[hk];exact⟨_,I',q⟩)
theorem Dz(lo hi:Option Int)(n:Nat):(YX lo hi none n).1=((HT.sIx n 0 lo:Nat):Int)/\(YX lo hi none n).2.1=((HT.sIx n n hi:Nat):Int)/\(YX lo hi none n).2.2=1:=by
 refine⟨?_,?_,rfl⟩
 ·cases lo with
  |none=>simp[YX,HT.sIx]
  |some i=>
   simp only[YX,HT.sIx,Option.getD_none,show(1:Int)>0 by decide,if_true]
   by_cases h:i<0
   ·simp only[h,if_true]<;>lia
   ·simp only[h,if_false]<;>lia
 ·cases hi with
  |none=>simp[YX,HT.sIx]
  |some i=>
   simp only[YX,HT.sIx,Option.getD_none,show(1:Int)>0 by decide,if_true]
   by_cases h:i<0
   ·simp only[h,if_true]<;>lia
   ·simp only[h,if_false]<;>lia
theorem Se(its:List X0)(lo hi:Option Int):slicePick its.toArray lo hi none=((its.drop (HT.sIx its.length 0 lo)).take (HT.sIx its.length its.length hi - HT.sIx its.length 0 lo)).toArray:=by
 obtain⟨h1,h2,h3⟩:=Dz lo hi its.toArray.size;unfold slicePick;rw[h1,h2,h3];simp only[sliceRange_one,pick_run,XO]<;>rfl
noncomputable def rSlL(K:X5):V->Option Int->Option Int->Hp->VK->Prop:=λx lo hi H Q=>∃a xs,x=.ref a/\SqL K H a xs/\∀p,H p=none->Q (.ref p) (upd H p (.lst (cutV xs lo hi)))
theorem Hw:SlR X (rSlL X.K):=by
 intro pins s σ H x v vl vu lo hi sl Q I rx hs pl pu h;obtain⟨a,xs,rfl,hx,q⟩:=h;cases rx;obtain⟨its,r,ht,hz⟩:=I.list hx;have hlen:=r.length;refine⟨"list",_,slot_list_getitem.lookup,ht.isList.typeIs,?_⟩;refine wpAny_getItem_list_slice ht.isList hs pl pu .none (by simp) ?_ (by rw[XO]<;>lia)
 rw[Se,<- hlen];refine⟨.ref s.heap.objs.size,_,I.laid (t':=s.toks) (o:=.lst (cutV xs lo hi)) (λb ob q=>Xr _ q) (Xh _) ?_,rfl,q _ (I.hok.fresh (Xh _))⟩;exact⟨XV (Hs xs lo hi) hz,_,0,(r.drop (HT.sIx xs.length 0 lo)).take (HT.sIx xs.length xs.length hi - HT.sIx xs.length 0 lo),XQ _ rfl⟩
noncomputable def ZL:V->Bool
 |.non=>true
 |.bl _=>true
 |.int _=>true
 |.str _=>true
 |_=>false
noncomputable def eqV:V->V->Bool
 |.non,.non=>true
 |.bl a,.bl b=>a==b
 |.bl a,.int b=>(if a then 1 else 0)==b
 |.int a,.bl b=>a==(if b then 1 else 0)
 |.int a,.int b=>a==b
 |.str a,.str b=>a==b
 |_,_=>false
theorem Hx{A:Xq}{s:X1}{y x:V}{u v:X0}(ry:RelV y u)(rx:RelV x v)(fy:ZL y=true)(fx:ZL x=true):SeqAt.EqAt A s u v (eqV y x):=by
 cases y with
 |non=>
  cases ry;cases x with
  |non=>cases rx;exact SeqAt.EqAt.same _
  |bl b=>cases rx;exact SeqAt.EqAt.none_bool b
  |int b=>obtain⟨t,rfl⟩:=rx;exact SeqAt.EqAt.none_int b t
  |str b=>obtain⟨t,rfl⟩:=rx;exact SeqAt.EqAt.none_str b t
  |_=>exact absurd (show false=true from fx) XB
 |bl a=>
  cases ry;cases x with
  |non=>cases rx;exact SeqAt.EqAt.bool_none a
  |bl b=>cases rx;exact SeqAt.EqAt.bool_bool a b
  |int b=>obtain⟨t,rfl⟩:=rx;exact SeqAt.EqAt.bool_int a b t
  |str b=>obtain⟨t,rfl⟩:=rx;exact SeqAt.EqAt.bool_str a b t
  |_=>exact absurd (show false=true from fx) XB
 |int a=>
  obtain⟨t',rfl⟩:=ry;cases x with
  |non=>cases rx;exact SeqAt.EqAt.int_none a t'
  |bl b=>cases rx;exact SeqAt.EqAt.int_bool a t' b
  |int b=>obtain⟨t,rfl⟩:=rx;exact SeqAt.EqAt.int_int a t' b t
  |str b=>obtain⟨t,rfl⟩:=rx;exact GJ a t' b t
  |_=>exact absurd (show false=true from fx) XB
 |str a=>
  obtain⟨t',rfl⟩:=ry;cases x with
  |non=>cases rx;exact SeqAt.EqAt.str_none a t'
  |bl b=>cases rx;exact SeqAt.EqAt.str_bool a t' b
  |int b=>obtain⟨t,rfl⟩:=rx;exact GK a t' b t
  |str b=>obtain⟨t,rfl⟩:=rx;exact SeqAt.EqAt.str_str a t' b t
  |_=>exact absurd (show false=true from fx) XB
 |_=>exact absurd (show false=true from fy) XB
noncomputable def eqU(x:V)(u:X0):Bool:=match u with
 |.none=>eqV .non x
 |.bool b=>eqV (.bl b) x
 |.int i _=>eqV (.int i) x
 |.str z _=>eqV (.str z) x
 |_=>false
theorem Hy{x y:V}{u:X0}(r:RelV y u)(f:ZL y=true):eqU x u=eqV y x:=by
 cases y with
 |non=>cases r;rfl
 |bl b=>cases r;rfl
 |int i=>obtain⟨t,rfl⟩:=r;rfl
 |str z=>obtain⟨t,rfl⟩:=r;rfl
 |_=>exact absurd (show false=true from f) XB
theorem Wj{x:V}:∀{xs:List V} {us:List X0},Vals xs us->xs.all ZL=true->us.any (eqU x)=xs.any λy=>eqV y x
 |_,_,.nil,_=>rfl
 |y::xs,u::us,.cons r t,f=>by
  rw[UL,Yd]at f;rw[ZC,ZC,Hy r f.1,Wj t f.2]
theorem Wk{A:Xq}{s:X1}{x:V}{v:X0}(rx:RelV x v)(fx:ZL x=true):∀{xs:List V} {us:List X0},Vals xs us->xs.all ZL=true->∀u∈us,SeqAt.EqAt A s u v (eqU x u)
 |_,_,.nil,_=>λu hu=>by cases hu
 |y::xs,u::us,.cons r t,f=>λu' hu=>by
  rw[UL,Yd]at f;rcases Xn.mp hu with rfl|hu
  ·rw[Hy r f.1];exact Hx r rx f.1 fx
  ·exact Wk rx fx t f.2 u' hu
noncomputable def inV(x:V)(xs:List V):Bool:=xs.any λy=>eqV y x
noncomputable def rIn(K:X5)(neg:Bool):R2:=λx y H Q=>∃p xs,y=.ref p/\(SqL K H p xs\/SqT K H p xs)/\ZL x=true/\xs.all ZL=true/\Q (.bl (if neg then !inV x xs else inV x xs)) H
theorem DA:OpR X (XU .In) (rIn X.K false):=by
 intro pins s σ H x y v u Q I rx ry h;obtain⟨p,xs,rfl,hq,fx,fs,q⟩:=h;cases ry;rcases hq with hq|hq
 ·obtain⟨its,r,pl,hz⟩:=I.list hq;refine SeqAt.in_listAt (eqU x) pl.isList (λw hw=>Wk rx fx r fs w (by simpa using hw)) ⟨.bl _,H,I,rfl,?_⟩
  rw[show its.toArray.any (eqU x)=its.any (eqU x) by simp,Wj r fs]
  exact q
 ·obtain⟨its,r,pl,hz⟩:=I.tuple hq;refine SeqAt.in_tupleAt (eqU x) pl (λw hw=>Wk rx fx r fs w (by simpa using hw)) ⟨.bl _,H,I,rfl,?_⟩
  rw[show its.toArray.any (eqU x)=its.any (eqU x) by simp,Wj r fs]
  exact q
theorem DB:OpR X (XU .NotIn) (rIn X.K true):=by
 intro pins s σ H x y v u Q I rx ry h;obtain⟨p,xs,rfl,hq,fx,fs,q⟩:=h;cases ry;rcases hq with hq|hq
 ·obtain⟨its,r,pl,hz⟩:=I.list hq;refine SeqAt.notIn_listAt (eqU x) pl.isList (λw hw=>Wk rx fx r fs w (by simpa using hw)) ⟨.bl _,H,I,rfl,?_⟩
  rw[show its.toArray.any (eqU x)=its.any (eqU x) by simp,Wj r fs]
  exact q
 ·obtain⟨its,r,pl,hz⟩:=I.tuple hq;refine SeqAt.notIn_tupleAt (eqU x) pl (λw hw=>Wk rx fx r fs w (by simpa using hw)) ⟨.bl _,H,I,rfl,?_⟩
  rw[show its.toArray.any (eqU x)=its.any (eqU x) by simp,Wj r fs]
  exact q
theorem DC:CallR X (.builtin "len") (fun xs H Q=>∃p ys,xs=[.ref p]/\(SqL X.K H p ys\/SqT X.K H p ys)/\Q (.int ys.length) H):=by
 intro pins s σ H xs us Q I r h;obtain⟨p,ys,rfl,hq,q⟩:=h;obtain⟨u,rfl,rx⟩:=YM r;cases rx;have hn:=Vw;rcases hq with hq|hq
 ·obtain⟨its,r',pl,hz⟩:=I.list hq;have hlen:=r'.length;exact Calls.call_len_list pl.isList (by simp only[XO]<;>lia) ⟨.int ys.length,H,I.tok _,⟨s.toks+1,by rw[XO,hlen]⟩,q⟩
 ·obtain⟨its,r',pl,hz⟩:=I.tuple hq;have hlen:=r'.length;exact len_tuple pl (by simp only[XO]<;>lia) ⟨.int ys.length,H,I.tok _,⟨s.toks+1,by rw[XO,hlen]⟩,q⟩
theorem Sf:CallR X (.builtin "len") (fun xs H Q=>∃z,xs=[.str z]/\z.length≤sizeLine/\Q (.int z.length) H):=by
 intro pins s σ H xs us Q I r h;obtain⟨z,rfl,hz,q⟩:=h;obtain⟨u,rfl,t,rfl⟩:=YM r;have hn:=Vw;exact len_str (by lia) ⟨.int z.length,H,I.tok _,⟨_,rfl⟩,q⟩
theorem CallR.or{f:X0}{r r':List V->Hp->VK->Prop}(h:CallR X f r)(h':CallR X f r'):CallR X f (λxs H Q=>r xs H Q\/r' xs H Q):=by
 intro pins s σ H xs us Q I rs q;rcases q with q|q
 ·exact h pins s σ H xs us Q I rs q
 ·exact h' pins s σ H xs us Q I rs q
theorem DD:CallR X (.type "list") (fun xs H Q=>∃p ys,xs=[.ref p]/\(SqL X.K H p ys\/SqT X.K H p ys)/\∀l,H l=none->Q (.ref l) (upd H l (.lst ys))):=by
 intro pins s σ H xs us Q I r h;obtain⟨p,ys,rfl,hq,q⟩:=h;obtain⟨u,rfl,rx⟩:=YM r;cases rx;have fin:∀(its:List X0),Vals ys its->ys.length≤sizeLine->∀(h':Heap) (c':Nat),(∀b o',s.heap.get? b=some o'->h'.get? b=some o')->
   h'.get? s.heap.objs.size=some {cls:=.type "list",dict:=none,data:=.seq its.toArray c',slots:=#[]}->EP X pins σ Q (.ref s.heap.objs.size) {s with heap:=h'}:=fun its r' hz h' c' kp e=>
  ⟨.ref s.heap.objs.size,_,I.laid (t':=s.toks) kp (Xh _) (show ObjOk X.prog X.w _ h' _ (.lst ys)from⟨hz,its,c',r',e⟩),rfl,q _ (I.hok.fresh (Xh _))⟩
 rcases hq with hq|hq
 ·obtain⟨its,r',pl,hz⟩:=I.list hq;have hlen:=r'.length;obtain⟨o,ho,hc,n,hd⟩:=pl.isList;exact call_list_seq p (.inl rfl) ho hc hd (λh' c' kp e=>fin its r' hz h' c' kp e) (by simp only[XO]<;>lia)
 ·obtain⟨its,r',pl,hz⟩:=I.tuple hq;have hlen:=r'.length;obtain⟨o,ho,hc,n,hd⟩:=pl;exact call_list_seq p (.inr rfl) ho hc hd (λh' c' kp e=>fin its r' hz h' c' kp e) (by simp only[XO]<;>lia)
theorem DE:CallR X (.type "tuple") (fun xs H Q=>∃p ys,xs=[.ref p]/\((SqL X.K H p ys/\∀l,H l=none->Q (.ref l) (upd H l (.tup ys)))\/(SqT X.K H p ys/\Q (.ref p) H))):=by
 intro pins s σ H xs us Q I r h;obtain⟨p,ys,rfl,h⟩:=h;obtain⟨u,rfl,rx⟩:=YM r;cases rx;rcases h with⟨hq,q⟩|⟨hq,q⟩
 ·obtain⟨its,r',pl,hz⟩:=I.list hq;have hlen:=r'.length;refine call_tuple_list pl.isList (λh' kp=>?_) (by simp only[XO]<;>lia)
  have I1:Inv X pins σ H {s with heap:=h'}:=I.kept (t':=s.toks) kp;have I2:Inv X pins σ (upd H h'.objs.size (.tup ys)) {s with heap:=h'.push {cls:=.type "tuple",data:=.seq its.toArray} }:=
   I1.laid (t':=s.toks) (λb o e=>Xr _ e) (Xh _) (show ObjOk X.prog X.w _ _ _ (.tup ys)from⟨hz,its,r',IsTup.new _ _,_,XQ _ rfl,rfl⟩)
  exact⟨.ref h'.objs.size,_,I2,rfl,q _ (I1.hok.fresh (Xh _))⟩
 ·obtain⟨its,r',pl,hz⟩:=I.tuple hq;exact call_tuple_same pl ⟨.ref p,H,I,rfl,q⟩
noncomputable def tyV(K:X5)(T:String)(x:V)(H:Hp):Prop:=match x with
 |.str _=>T="str"
 |.int _=>T="int"
 |.ref p=>(T="list"/\∃xs,SqL K H p xs)\/(T="tuple"/\∃o,K.lookup p=some o/\o.cls=.type "tuple"/\o.dict=none)\/
   (T="dict"/\((∃kvs,H p=some (.dK kvs))\/∃kvs,H p=some (.dT kvs)))\/(T="set"/\∃S n,H p=some (.set S n))
 |_=>False
theorem Hz{pins:List (Addr×Obj)}{σ:St}{H:Hp}{s:X1}{T:String}{x:V}{v:X0}(I:Inv X pins σ H s)(r:RelV x v)(ty:tyV X.K T x H):
  s.TypeIs v T/\∀a,v=.ref a->∃ob,s.heap.get? a=some ob/\ob.dict=none:=by
 cases x with
 |str z=>
  obtain⟨t,rfl⟩:=r;cases(show T="str" from ty);exact⟨typeIs_str s z t,λ_ e=>nomatch e⟩
 |int i=>
  obtain⟨t,rfl⟩:=r;cases(show T="int" from ty);exact⟨typeIs_int s i t,λ_ e=>nomatch e⟩
 |ref p=>
  cases r;rcases ty with⟨rfl,xs,hq⟩|⟨rfl,o,hk,hc,hd⟩|⟨rfl,hk⟩|⟨rfl,S,n,hk⟩
  ·obtain⟨its,_,pl,_⟩:=I.list hq;refine⟨pl.isList.typeIs,λa e=>?_⟩;cases e;obtain⟨o,n,e,c,hd,_⟩:=pl;exact⟨o,e,hd⟩
  ·refine⟨⟨o,I.kIn p o hk,hc⟩,λa e=>?_⟩;cases e;exact⟨o,I.kIn _ o hk,hd⟩
  ·have z:∃o,s.heap.get? p=some o/\o.ExactDict:=by
    rcases hk with⟨kvs,hk⟩|⟨kvs,hk⟩
    ·obtain⟨_,_,_,_,o,_,_,e,ex,_⟩:=I.hok p _ hk;exact⟨o,e,ex⟩
    ·obtain⟨_,_,_,_,o,_,_,e,ex,_⟩:=I.hok p _ hk;exact⟨o,e,ex⟩
   obtain⟨o,e,ex⟩:=z;refine⟨⟨o,e,ex.1⟩,λa e2=>?_⟩;cases e2;exact⟨o,e,ex.2.1⟩
  ·obtain⟨o,_,_,_,e,ex,_⟩:=I.hok p _ hk;refine⟨⟨o,e,ex.1⟩,λa e2=>?_⟩;cases e2;exact⟨o,e,ex.2.1⟩
 |_=>exact Yy ty
noncomputable def tBM0(K:X5)(T:String)(r:V->List V->Hp->VK->Prop)(to:TE):TE:=λσ H Q=>to σ H λx H1=>tyV K T x H1/\r x [] H1 Q
noncomputable def tBM(K:X5)(T:String)(r:V->List V->Hp->VK->Prop)(to:TE)(t:TA):TE:=λσ H Q=>to σ H λx H1=>tyV K T x H1/\t σ H1 λxs H2=>r x xs H2 Q
variable{o e:Expr}{es:List Expr}{to:TE}{t:TA}{name:Str}{apos cpos:Pos}{T id:String}{r:V->List V->Hp->VK->Prop}
theorem Sg(pa:PlainAttrs T)(slot:Slot T name id)(hty:typeOf (.builtin id)=pure (.type "method_descriptor"))(hm:MtR X id r)(ho:PE X o to)
  (hbase:VX o name X.env (eval o X.env)=eval o X.env:=by rfl) (hline:(apos.endLine==cpos.line)=true:=by rfl):PE X (.Call (.Attribute o name apos) [] [] cpos) (tBM0 X.K T r to):=by
 intro pins s σ H Q I h;refine wpAny_Call_method0_late hbase hline (thn (ho pins s σ H _ I h) λv s1 ⟨x,H1,I1,r1,ty,q1⟩=>?_);obtain⟨h1,h2⟩:=Hz I1 r1 ty;exact⟨T,id,pa,slot,hty,h1,h2,GC rfl (PySem.evalArgs_none (hm pins s1 σ H1 x [] v [] Q I1 r1 .nil q1))⟩
theorem Sh(pa:PlainAttrs T)(slot:Slot T name id)(hty:typeOf (.builtin id)=pure (.type "method_descriptor"))(hm:MtR X id r)(ho:PE X o to)(ha:PA X (e::es) t)
  (hbase:VX o name X.env (eval o X.env)=eval o X.env:=by rfl)
  (hfew:((Yq cpos (XG (e::es) X.env)).all (λx=>!x.1)&&(backToKw cpos (keywordEach [] X.env)).all (λx=>x.1.isSome)
   &&decide ((e::es).length+([]:List Zs).length+(if([]:List Zs).isEmpty then 0 else 1)<30))=true:=by rfl)
  (hline:(apos.endLine==cpos.line)=true:=by rfl) (hs:XG (e::es) X.env=(false,eval e X.env)::XG es X.env:=by rfl) (hplain:(Yq cpos (XG es X.env)).any (·.1)=false:=by rfl):
  PE X (.Call (.Attribute o name apos) (e::es) [] cpos) (tBM X.K T r to t):=by
 intro pins s σ H Q I h;refine wpAny_Call_method_late hbase hfew hline rfl (thn (ho pins s σ H _ I h) λv s1 ⟨x,H1,I1,r1,ty,q1⟩=>?_);obtain⟨h1,h2⟩:=Hz I1 r1 ty;refine⟨T,id,pa,slot,hty,h1,h2,?_⟩;have hA:=ha cpos pins s1 σ H1 _ I1 q1;rw[hs]at hA ⊢;refine GC (by show(false||(Yq cpos (XG es X.env)).any (·.1))=false;rw[hplain]<;>rfl) (Calls.evalArgs_plain ?_)
 exact thn hA λus s2 ⟨vs,H2,I2,r2,q2⟩=>hm pins s2 σ H2 x vs v us Q I2 r1 r2 q2
/- xs.append(e),list.index on a module's tuple .. are MtR facts of 06m -/
end
noncomputable def MtM(X:Cx)(id:String)(r:V->List V->Hp->VK->Prop):Prop:=
 ∀(pins:List (Addr×Obj)) (s:X1) (σ:St) (H:Hp) (x:V) (xs:List V) (v:X0) (us:List X0) (Q:VK),Inv X pins σ H s->RelV x v->Vals xs us->r x xs H Q->
  X4 (X8 X.prog X.w) X.A (call (.builtin id) (v::us)) (EP X pins σ Q) X.xe s
theorem Vals.one:∀{x:V} {us:List X0},Vals [x] us->∃u,us=[u]/\RelV x u
 |_,_,.cons r .nil=>⟨_,rfl,r⟩
section
variable{X:Cx}{pins:List (Addr×Obj)}{σ:St}{H:Hp}{s:X1}{l b:Addr}{xs ys zs:List V}
theorem Inv.lset{its its':List X0}{n:Nat}{f:Array X0->Array X0}{t':Nat}(I:Inv X pins σ H s)(hH:H l=some (.lst xs))
  (e:s.heap.get? l=some {cls:=.type "list",data:=.seq its.toArray n}) (hf:f its.toArray=its'.toArray) (hv:Vals ys its') (hz:ys.length≤sizeLine):
  Inv X pins σ (upd H l (.lst ys)) {s with heap:=s.heap.update l (U8 f),toks:=t'}:=by
 have q:=PySem.IsL.update e f;rw[hf]at q;refine I.write (x:=l) (e:=l) (by rw[hH];exact trivial) (.inl rfl) (λb' u hb hu=>(Vk s.heap (U8 f) (Za hb)).trans hu) ⟨_,q⟩ ?_
 exact⟨hz,its',_,hv,q⟩
theorem Inv.lstM(I:Inv X pins σ H s)(hH:H l=some (.lst xs)):xs.length≤sizeLine/\∃(its:List X0) (n:Nat),Vals xs its/\xs.length=its.length/\s.heap.get? l=some {cls:=.type "list",data:=.seq its.toArray n}:=by
 obtain⟨z,its,n,r,e⟩:=I.hok l _ hH;exact⟨z,its,n,r,r.length,e⟩
theorem Si{n:Nat}(h:n≤sizeLine):Do n=false:=by
 unfold Do;exact decide_eq_false (by lia)
end
section
variable{X:Cx}
noncomputable def Sj:V->List V->Hp->VK->Prop:=λx vs H Q=>∃l xs y,x=.ref l/\vs=[y]/\H l=some (.lst xs)/\xs.length<sizeLine/\Q .non (upd H l (.lst (xs++[y])))
theorem HA:MtM X "list.append" Sj:=by
 intro pins s σ H x vs v us Q I rx rv h;obtain⟨l,xs,y,rfl,rfl,hH,hz,q⟩:=h;cases rx;obtain⟨u,rfl,ru⟩:=rv.one;obtain⟨z,its,n,r,hl,e⟩:=I.lstM hH;refine call_meets F.slot_list_append ⟨_,e,rfl⟩ F.entry_list_append (F.args_list_append_2 _ _) (PySem.list_append l its.toArray n u (by rw[XO];lia)) ⟨e,?_⟩
 refine⟨.non,_,I.lset (its':=its++[u]) hH e (by simp) (r.append (.cons ru .nil)) ?_,rfl,q⟩
 rw[Y5,W4];lia
noncomputable def Sk:V->List V->Hp->VK->Prop:=λx vs H Q=>∃l b xs zs,x=.ref l/\vs=[.ref b]/\H l=some (.lst xs)/\H b=some (.lst zs)/\xs.length+zs.length≤sizeLine/\Q .non (upd H l (.lst (xs++zs)))
theorem Sl:MtM X "list.extend" Sk:=by
 intro pins s σ H x vs v us Q I rx rv h;obtain⟨l,b,xs,zs,rfl,rfl,hH,hB,hz,q⟩:=h;cases rx;obtain⟨u,rfl,ru⟩:=rv.one;cases ru;obtain⟨z,its,n,r,hl,e⟩:=I.lstM hH;obtain⟨z2,its2,n2,r2,hl2,e2⟩:=I.lstM hB;have hsz:its.toArray.size+its2.toArray.size≤sizeLine:=by rw[XO,XO];lia
 have hlong:¬(!its.toArray.isEmpty&&Do (its.toArray.size+its2.toArray.size))=true:=by
  rw[Si hsz,Dc];exact XB
 refine call_meets F.slot_list_extend ⟨_,e,rfl⟩ F.entry_list_extend (F.args_list_extend_2 _ _)
  (AutoSeq1.list_extend_list_list_0 l its.toArray n b its2.toArray n2 hlong (by rw[XO];lia) (by lia)) ⟨e,e2,?_⟩
 refine⟨.non,_,I.lset (its':=its++its2) hH e (by simp) (r.append r2) ?_,rfl,q⟩
 rw[Y5];lia
end
section
variable{prog:Xl}{w:Xe}{A:Xq}{E:X0->X1->Prop}{s:X1}
set_option maxRecDepth 100000 in
end
section
variable{X:Cx}
end
section
variable{κ:Type} [DecidableEq κ]
noncomputable def valV(kvs:List (κ×V))(k:κ):Option V:=(kvs.find? λkv=>decide (kv.1=k)).map (·.2)
noncomputable def putK(kvs:List (κ×V))(k:κ)(v:V):List (κ×V):=
 if(kvs.any λkv=>decide (kv.1=k))=true then kvs.map (λkv=>if kv.1=k then(kv.1,v)else kv)else kvs++[(k,v)]
theorem BX{p:κ×V}{r:List (κ×V)}{k:κ}(e:p.1=k):valV (p::r) k=some p.2:=by simp[valV,Vh,e]
theorem BY{p:κ×V}{r:List (κ×V)}{k:κ}(e:¬p.1=k):valV (p::r) k=valV r k:=by simp[valV,Vh,e]
theorem HB(k:κ):∀kvs:List (κ×V),(kvs.any λkv=>decide (kv.1=k))=(valV kvs k).isSome
 |[]=>rfl
 |p::r=>by
  rw[ZC];by_cases e:p.1=k
  ·simp only[BX e,decide_eq_true e,BC,Option.isSome_some]
  ·rw[BY e,decide_eq_false e,Bool.false_or];exact HB k r
theorem HC(kvs:List (κ×V))(k:κ)(v:V):(putK kvs k v).length≤kvs.length+1:=by
 unfold putK;split
 ·rw[X2];lia
 ·rw[Y5,YJ,List.length_nil];lia
theorem RelO.isSome_eq{o:Option V}{u:Option X0}(r:RelO o u):o.isSome=u.isSome:=by
 cases o with
 |none=>cases u with
  |none=>rfl
  |some _=>exact(show False from r).elim
 |some _=>cases u with
  |none=>exact(show False from r).elim
  |some _=>rfl
theorem KV.val{kvs:List (κ×V)}{vs:List (κ×X0)}(r:KV kvs vs)(k:κ):RelO (valV kvs k) (YY vs k):=by
 unfold KV at r
 induction r with
 |nil=>exact YR
 | @cons p q ps qs h t ih=>
  obtain⟨h1,h2⟩:=h;by_cases e:p.1=k
  ·have e':q.1=k:=h1.symm.trans e;have b:YY (q::qs) k=some q.2:=by simp[YY,Vh,e']
   rw[BX e,b];exact h2
  ·have e':¬q.1=k:=λz=>e (h1.trans z);have b:YY (q::qs) k=YY qs k:=by simp[YY,Vh,e']
   rw[BY e,b];exact ih
theorem KV.any{kvs:List (κ×V)}{vs:List (κ×X0)}(r:KV kvs vs)(k:κ):(kvs.any λkv=>decide (kv.1=k))=vs.any λkv=>decide (kv.1=k):=by
 unfold KV at r
 induction r with
 |nil=>rfl
 |cons h t ih=>rw[ZC,ZC,ih,h.1]
theorem KV.repl{kvs:List (κ×V)}{vs:List (κ×X0)}(r:KV kvs vs)(k:κ){y:V}{u:X0}(ry:RelV y u):
  KV (kvs.map λkv=>if kv.1=k then(kv.1,y)else kv) (vs.map λkv=>if kv.1=k then(kv.1,u)else kv):=by
 unfold KV at r ⊢
 induction r with
 |nil=>exact .nil
 | @cons p q ps qs h t ih=>
  rw[Xz,Xz];refine .cons ?_ ih;obtain⟨h1,h2⟩:=h;by_cases e:p.1=k
  ·rw[if_pos e,if_pos (h1.symm.trans e)];exact⟨h1,ry⟩
  ·rw[if_neg e,if_neg (λz=>e (h1.trans z))];exact⟨h1,h2⟩
theorem KV.put{kvs:List (κ×V)}{vs:List (κ×X0)}(r:KV kvs vs)(k:κ){y:V}{u:X0}(ry:RelV y u):KV (putK kvs k y) (stored vs k u):=by
 unfold putK stored;rw[r.any k];by_cases e:(vs.any λkv=>decide (kv.1=k))=true
 ·rw[if_pos e,if_pos e];exact r.repl k ry
 ·rw[if_neg e,if_neg e];exact Paired.snoc r ⟨rfl,ry⟩
theorem KV.length{kvs:List (κ×V)}{vs:List (κ×X0)}(r:KV kvs vs):kvs.length=vs.length:=Paired.length r
end
theorem V0{P:Xl}{w:Xe}{k:Key}{u:X0}(r:RelV (kV k) u):(Yz P w).is k u=true:=by
 cases k with
 |inl i=>obtain⟨t,e⟩:=(show∃t,u=Wc i t from r);subst e;exact QG P w i t
 |inr x=>obtain⟨t,e⟩:=(show∃t,u=XE x t from r);subst e;exact QH P w x t
theorem HD{P:Xl}{w:Xe}:∀{ks:List Key} {us:List X0},Vals (ks.map kV) us->ItemsAre (Yz P w) ks us
 |[],_,r=>by rw[Y6]at r;cases r;exact .nil
 |k::ks,_,r=>by
  rw[Xz]at r;cases r with
  |cons h t=>exact .cons (V0 h) (HD t)
noncomputable abbrev KT(H:Hp):List (List Key×V)->List (List Key×Addr×X0)->Prop:=Paired λp q=>p.1=q.1/\H q.2.1=some (.tup (p.1.map kV))/\RelV p.2 q.2.2
theorem KT.val{H:Hp}{kvs:List (List Key×V)}{xs:List (List Key×Addr×X0)}(r:KT H kvs xs)(k:List Key):RelO (valV kvs k) ((atKey xs k).map (·.2)):=by
 induction r with
 |nil=>exact YR
 | @cons p q ps qs h t ih=>
  obtain⟨h1,_,h2⟩:=h;by_cases e:p.1=k
  ·have e':q.1=k:=h1.symm.trans e;have b:atKey (q::qs) k=some q.2:=by simp[atKey,Vh,e']
   rw[BX e,b];exact h2
  ·have e':¬q.1=k:=λz=>e (h1.trans z);have b:atKey (q::qs) k=atKey qs k:=by simp[atKey,Vh,e']
   rw[BY e,b];exact ih
theorem KT.repl{H:Hp}{kvs:List (List Key×V)}{xs:List (List Key×Addr×X0)}(r:KT H kvs xs)(k:List Key){y:V}{u:X0}(ry:RelV y u):
  KT H (kvs.map λkv=>if kv.1=k then(kv.1,y)else kv) (xs.map (putAt k u)):=by
 induction r with
 |nil=>exact .nil
 | @cons p q ps qs h t ih=>
  rw[Xz,Xz];refine .cons ?_ ih;obtain⟨h1,h2,h3⟩:=h;unfold putAt;by_cases e:p.1=k
  ·rw[if_pos e,if_pos (h1.symm.trans e)];exact⟨h1,h2,ry⟩
  ·rw[if_neg e,if_neg (λz=>e (h1.trans z))];exact⟨h1,h2,h3⟩
theorem KT.put{H:Hp}{kvs:List (List Key×V)}{xs:List (List Key×Addr×X0)}(r:KT H kvs xs)(k:List Key){b:Addr}{y:V}{u:X0}(hb:H b=some (.tup (k.map kV)))(ry:RelV y u):
  KT H (putK kvs k y) (storedH xs k b u):=by
 have e:(kvs.any λkv=>decide (kv.1=k))=(atKey xs k).isSome:=by
  rw[HB,(r.val k).isSome_eq,Ds]
 unfold putK storedH;rw[e];by_cases q:(atKey xs k).isSome=true
 ·rw[if_pos q,if_pos q];exact r.repl k ry
 ·rw[if_neg q,if_neg q];exact Paired.snoc r ⟨rfl,hb,ry⟩
theorem KT.keeps{H H':Hp}{kvs:List (List Key×V)}{xs:List (List Key×Addr×X0)}(r:KT H kvs xs)(ht:∀b ys,H b=some (.tup ys)->H' b=some (.tup ys)):KT H' kvs xs:=
 Paired.mapP r λ_ _ z=>⟨z.1,ht _ _ z.2.1,z.2.2⟩
section
variable{P:Xl}{w:Xe}{H:Hp}{h:Heap}{a:Addr}
theorem HE{u:HO}(ok:HOk P w H h)(e:Rd H a u):ObjOk P w H h a u:=e.ok ok
theorem V1{kvs:List (Key×V)}(ok:HOk P w H h)(e:Rd H a (.dK kvs)):kvs.length≤sizeLine/\(a==YH)=false/\∃vs,KV kvs vs/\h.DictOf (Yz P w) a vs:=
 show ObjOk P w H h a (.dK kvs)from HE ok e
theorem DF{kvs:List (Key×V)}(ok:HOk P w H h)(e:H a=some (.dK kvs)):kvs.length≤sizeLine/\(a==YH)=false/\∃vs,KV kvs vs/\h.DictOf (Yz P w) a vs:=V1 ok (.inl e)
theorem Wl{ks:List Key}(ok:HOk P w H h)(e:H a=some (.tup (ks.map kV))):(tupleKind (Yz P w)).is h ks a:=by
 obtain⟨_,its,r,⟨o,h1,h2,n,h3⟩,_⟩:=(show ObjOk P w H h a (.tup (ks.map kV))from ok a _ e);exact⟨o,its.toArray,n,h1,h2,h3,by simpa using HD r⟩
theorem Wm{kvs:List (List Key×V)}(ok:HOk P w H h)(e:Rd H a (.dT kvs)):kvs.length≤sizeLine/\(a==YH)=false/\
  ∃xs,KT H kvs xs/\h.DictOfH (tupleKind (Yz P w)) a xs:=by
 obtain⟨z,y,xs,r,o,es,ep,h1,h2,h3,h4,h5⟩:=(show ObjOk P w H h a (.dT kvs)from HE ok e);refine⟨z,y,xs,r,o,es,ep,h1,h2,h3,h4,λx hx=>?_,h5⟩;have all:∀{l:List (List Key×V)} {m:List (List Key×Addr×X0)},KT H l m->∀x∈m,(tupleKind (Yz P w)).is h x.1 x.2.1:=by
  intro l m q
  induction q with
  |nil=>intro x hx;exact nomatch hx
  | @cons p q ps qs hq t ih=>
   intro x hx;rcases Xn.mp hx with e|hx
   ·subst e;exact Wl ok (by rw[<- hq.1];exact hq.2.1)
   ·exact ih x hx
 exact all r x hx
theorem Sn{kvs:List (List Key×V)}(ok:HOk P w H h)(e:H a=some (.dT kvs)):kvs.length≤sizeLine/\(a==YH)=false/\
  ∃xs,KT H kvs xs/\h.DictOfH (tupleKind (Yz P w)) a xs:=Wm ok (.inl e)
end
noncomputable def DGet(H:Hp)(a:Addr)(y:V)(r:Option V):Prop:=
 (∃kvs k,Rd H a (.dK kvs)/\y=kV k/\r=valV kvs k)\/∃kvs k b,Rd H a (.dT kvs)/\y=.ref b/\H b=some (.tup (k.map kV))/\r=valV kvs k
noncomputable def DPut(H:Hp)(a:Addr)(y v:V)(H':Hp):Prop:=
 (∃kvs k,H a=some (.dK kvs)/\y=kV k/\kvs.length<sizeLine/\H'=upd H a (.dK (putK kvs k v)))\/
 ∃kvs k b,H a=some (.dT kvs)/\y=.ref b/\H b=some (.tup (k.map kV))/\kvs.length<sizeLine/\H'=upd H a (.dT (putK kvs k v))
theorem DGet.k{H:Hp}{a:Addr}{kvs:List (Key×V)}{k:Key}(e:H a=some (.dK kvs)):DGet H a (kV k) (valV kvs k):=.inl ⟨kvs,k,.inl e,rfl,rfl⟩
theorem DGet.t{H:Hp}{a b:Addr}{kvs:List (List Key×V)}{k:List Key}(e:H a=some (.dT kvs))(eb:H b=some (.tup (k.map kV))):DGet H a (.ref b) (valV kvs k):=.inr ⟨kvs,k,b,.inl e,rfl,eb,rfl⟩
theorem DPut.k{H:Hp}{a:Addr}{kvs:List (Key×V)}{k:Key}{v:V}(e:H a=some (.dK kvs))(hl:kvs.length<sizeLine):DPut H a (kV k) v (upd H a (.dK (putK kvs k v))):=.inl ⟨kvs,k,e,rfl,hl,rfl⟩
theorem DPut.t{H:Hp}{a b:Addr}{kvs:List (List Key×V)}{k:List Key}{v:V}(e:H a=some (.dT kvs))(eb:H b=some (.tup (k.map kV)))(hl:kvs.length<sizeLine):
  DPut H a (.ref b) v (upd H a (.dT (putK kvs k v))):=.inr ⟨kvs,k,b,e,rfl,eb,hl,rfl⟩
section
variable{X:Cx}{pins:List (Addr×Obj)}{σ:St}{H:Hp}{s:X1}{a:Addr}{y v:V}{u r:X0}{o:Option V}{A:Xq}{E:X0->X1->Prop}
theorem Inv.big(I:Inv X pins σ H s):YH<s.heap.objs.size:=by
 have h:XA<s.heap.objs.size:=(I.mod.glob.keeps I.bk).lt;exact UT (by decide) h
theorem So{Q:X0->X1->Prop}(hu:A.units+1<cLine)(I:Inv X pins σ H s)(g:DGet H a y (some v))(ry:RelV y u)(h:∀w' s',Inv X pins σ H s'->RelV v w'->Q w' s'):
  X4 (X8 X.prog X.w) A (getItem (.ref a) u) Q E s:=by
 rcases g with⟨kvs,k,e,ey,l⟩|⟨kvs,k,b,e,ey,eb,l⟩
 ·subst ey;obtain⟨z,hd,vs,rel,dd⟩:=V1 I.hok e;obtain⟨w',hw,rw'⟩:=RelO.some_of (v:=v) (o:=YY vs k) (by rw[l];exact rel.val k)
  exact wpAny_getItem_of (V0 ry) dd.mapOf hw (h w' _ (I.tok _) rw')
 ·subst ey;cases(show u=Xy b from ry);obtain⟨z,hd,xs,rel,dd⟩:=Wm I.hok e;obtain⟨w',hw,rw'⟩:=RelO.some_of (v:=v) (o:=(atKey xs k).map (·.2)) (by rw[l];exact rel.val k)
  obtain⟨p,hp,hp2⟩:=Dq.mp hw;refine wpAny_getItem_heap (Bm hu) (Wl I.hok eb) dd hp ?_;rw[hp2];exact h w' _ (I.tok _) rw'
theorem d_in{Q:X0->X1->Prop}(hu:A.units+1<cLine)(I:Inv X pins σ H s)(g:DGet H a y o)(ry:RelV y u)(h:∀s',Inv X pins σ H s'->Q (.bool o.isSome) s'):
  X4 (X8 X.prog X.w) A (XU .In u (.ref a)) Q E s:=by
 rcases g with⟨kvs,k,e,ey,l⟩|⟨kvs,k,b,e,ey,eb,l⟩
 ·subst ey;obtain⟨z,hd,vs,rel,dd⟩:=V1 I.hok e;refine wpAny_in_of (V0 ry) hd dd.mapOf ?_;rw[<- (rel.val k).isSome_eq,<- l];exact h _ (I.tok _)
 ·subst ey;cases(show u=Xy b from ry);obtain⟨z,hd,xs,rel,dd⟩:=Wm I.hok e;refine wpAny_in_heap (Bm hu) (Wl I.hok eb) hd dd ?_;have q:=(rel.val k).isSome_eq;rw[Ds]at q;rw[<- q,<- l];exact h _ (I.tok _)
theorem Sq{Q:X0->X1->Prop}(hu:A.units+1<cLine)(I:Inv X pins σ H s)(g:DGet H a y o)(ry:RelV y u)(h:∀s',Inv X pins σ H s'->Q (.bool (!o.isSome)) s'):
  X4 (X8 X.prog X.w) A (XU .NotIn u (.ref a)) Q E s:=by
 rcases g with⟨kvs,k,e,ey,l⟩|⟨kvs,k,b,e,ey,eb,l⟩
 ·subst ey;obtain⟨z,hd,vs,rel,dd⟩:=V1 I.hok e;refine wpAny_notIn_of (V0 ry) hd dd.mapOf ?_;rw[<- (rel.val k).isSome_eq,<- l];exact h _ (I.tok _)
 ·subst ey;cases(show u=Xy b from ry);obtain⟨z,hd,xs,rel,dd⟩:=Wm I.hok e;refine wpAny_notIn_heap (Bm hu) (Wl I.hok eb) hd dd ?_;have q:=(rel.val k).isSome_eq;rw[Ds]at q;rw[<- q,<- l];exact h _ (I.tok _)
theorem HF{h':Heap}{t':Nat}{ob:HO}(I:Inv X pins σ H s)(mu:Mut (H a))(hs:Um a s.heap h')(he:∃q,h'.get? a=some q)(new:ObjOk X.prog X.w (upd H a ob) h' a ob):
  Inv X pins σ (upd H a ob) {s with heap:=h',toks:=t'}:=
 I.write (x:=a) (e:=a) mu (.inl rfl) (λb q hb z=>(hs.2 b hb).trans z) he new
theorem BZ{P:Xl}{w:Xe}{H':Hp}{h':Heap}{kvs:List (Key×V)}{vs:List (Key×X0)}(z:kvs.length≤sizeLine)(hd:(a==YH)=false)(rel:KV kvs vs)(dd:h'.DictOf (Yz P w) a vs):
  ObjOk P w H' h' a (.dK kvs):=⟨z,hd,vs,rel,dd⟩
theorem Sr{H':Hp}{Q:Unit->X1->Prop}(hu:A.units+1<cLine)(I:Inv X pins σ H s)(g:DPut H a y v H')(ry:RelV y u)(rv:RelV v r)(h:∀s',Inv X pins σ H' s'->Q () s'):
  X4 (X8 X.prog X.w) A (setItem (.ref a) u r) Q E s:=by
 rcases g with⟨kvs,k,e,ey,l,eH⟩|⟨kvs,k,b,e,ey,eb,l,eH⟩
 ·subst ey eH;obtain⟨z,hd,vs,rel,dd⟩:=DF I.hok e;have hz:vs.length≤sizeLine:=by rw[<- rel.length];exact z
  have hl:(putK kvs k v).length≤sizeLine:=by have:=HC kvs k v;lia
  refine wpAny_setItem_pairs (hsz:=hz) (V0 ry) dd λh' dd' hs=>h _ ?_;have he:∃q,h'.get? a=some q:=let⟨q,_,_,hq,_⟩:=dd';⟨q,hq⟩
  exact HF I (by rw[e];exact YR) hs he (BZ hl hd (rel.put k rv) dd')
 ·subst ey eH;cases(show u=Xy b from ry);obtain⟨z,hd,xs,rel,dd⟩:=Sn I.hok e;have hz:xs.length≤sizeLine:=by rw[<- Paired.length rel];exact z
  have hl:(putK kvs k v).length≤sizeLine:=by have:=HC kvs k v;lia
  refine wpAny_setItem_heap (hsz:=hz) (Bm hu) (Wl I.hok eb) dd λh' dd' hs=>h _ ?_;obtain⟨q,es,ep,hq,h2,h3,h4,_,h5⟩:=dd';refine HF I (by rw[e];exact YR) hs ⟨q,hq⟩ ⟨hl,hd,_,(rel.put k eb rv).keeps λc ys ec=>?_,q,es,ep,hq,h2,h3,h4,h5⟩
  rw[XJ (GP ec e (λz=>nomatch z))];exact ec
end
section
variable{X:Cx}{pins:List (Addr×Obj)}{σ:St}{H:Hp}{s:X1}{a:Addr}{kvs:List (Key×V)}{k:Key}{u:X0}{A:Xq}{E:X0->X1->Prop}
theorem Ss{Q:X0->X1->Prop}(I:Inv X pins σ H s)(e:Rd H a (.dK kvs))(h:∀t s',Inv X pins σ H s'->Q (.int kvs.length t) s'):X4 (X8 X.prog X.w) A (call (.builtin "len") [.ref a]) Q E s:=by
 obtain⟨z,hd,vs,rel,dd⟩:=V1 I.hok e;refine call_len_dict hd dd (by rw[<- rel.length];rw[sizeLine_eq]at z;lia) ?_
 rw[<- rel.length];exact h _ _ (I.tok _)
end
theorem Su{X:Cx}{pins:List (Addr×Obj)}{σ:St}{H:Hp}{s:X1}{a:Addr}{y:V}{o:Option V}(I:Inv X pins σ H s)(g:DGet H a y o):s.TypeIs (.ref a) "dict":=by
 rcases g with⟨kvs,k,e,_,_⟩|⟨kvs,k,b,e,_,_,_⟩
 ·obtain⟨_,_,vs,_,dd⟩:=V1 I.hok e;exact dd.typeIs
 ·obtain⟨_,_,xs,_,dd⟩:=Wm I.hok e;exact dd.typeIs
section
variable{X:Cx}{o i e value:Expr}{pos pos' tpos:Pos}{td ty tv:TE}
end
theorem Sv{P:Xl}{w:Xe}{H:Hp}(h:Heap)(hb:YH<h.objs.size):ObjOk P w H (h.push {cls:=.type "dict",data:=.dict #[]}) h.objs.size (.dK []):=
 ⟨YL _,beq_eq_false_iff_ne.mpr (Za (XC hb)),[],.nil,Dt h⟩
noncomputable def Sw:TE:=λ_ H Q=>∀p,H p=none->Q (.ref p) (upd H p (.dK []))
section
variable{X:Cx}{pos:Pos}
theorem pe_dnewK:PE X (.Dict [] [] pos) Sw:=λpins s σ H Q I h=>
 wpAny_Dict_empty ⟨.ref s.heap.objs.size,_,I.laid (a:=s.heap.objs.size) (o:=.dK []) (t':=s.toks) (λ_ _ q=>Xr _ q) (Xh _) (Sv s.heap I.big),rfl,h _ (I.hok.fresh (Xh _))⟩
end
noncomputable def HG:List (TE×TE)->St->Hp->(List (V×V)->Hp->Prop)->Prop
 |[],_,H,Q=>Q [] H
 |(tk,tv)::r,σ,H,Q=>tk σ H λx H1=>tv σ H1 λy H2=>HG r σ H2 λps H3=>Q ((x,y)::ps) H3
noncomputable abbrev VV:List (V×V)->List (X0×X0)->Prop:=Paired λp q=>RelV p.1 q.1/\RelV p.2 q.2
noncomputable def PPs(X:Cx)(pos:Pos)(keys:List (Option Expr))(values:List Expr)(trs:List (TE×TE)):Prop:=
 ∀(pins:List (Addr×Obj)) (s:X1) (σ:St) (H:Hp) (Q:List (V×V)->Hp->Prop),Inv X pins σ H s->HG trs σ H Q->
  X4 (X8 X.prog X.w) X.A (evalPairs (pairTrees keys values X.env pos)) (λvs s'=>∃ps H',Inv X pins σ H' s'/\VV ps vs/\Q ps H') X.xe s
theorem Sx{X:Cx}{pos:Pos}:PPs X pos [] [] []:=λpins s σ H Q I h=>pairTrees_nil_walk ⟨[],H,I,.nil,h⟩
theorem Sy{X:Cx}{pos:Pos}{k v:Expr}{ks:List (Option Expr)}{vs:List Expr}{tk tv:TE}{trs:List (TE×TE)}(hk:PE X k tk)(hv:PE X v tv)(hr:PPs X pos ks vs trs):
  PPs X pos (some k::ks) (v::vs) ((tk,tv)::trs):=λpins s σ H Q I h=>
 pairTrees_cons_walk (thn (hk pins s σ H _ I h) λu s1 ⟨x,H1,I1,rx,q1⟩=>thn (hv pins s1 σ H1 _ I1 q1) λw2 s2 ⟨y,H2,I2,ry,q2⟩=>
  thn (hr pins s2 σ H2 _ I2 q2) λws s3 ⟨ps,H3,I3,rel,q3⟩=>⟨(x,y)::ps,H3,I3,.cons ⟨rx,ry⟩ rel,q3⟩)
structure M1 (X:Cx) (o:Expr) (m:Str) (apos:Pos) (e:Expr) (cpos:Pos):Prop where
 base:VX o m X.env (eval o X.env)=eval o X.env
 few:((Yq cpos (XG [e] X.env)).all (λx=>!x.1)&&(backToKw cpos (keywordEach [] X.env)).all (λx=>x.1.isSome)
  &&decide (([e]:List Expr).length+([]:List Zs).length+(if([]:List Zs).isEmpty then 0 else 1)<30))=true
 line:(apos.endLine==cpos.line)=true
 trees:Yq cpos (XG [e] X.env)=[(false,eval e X.env)]
structure M2 (X:Cx) (o:Expr) (m:Str) (apos:Pos) (e f:Expr) (cpos:Pos):Prop where
 base:VX o m X.env (eval o X.env)=eval o X.env
 few:((Yq cpos (XG [e,f] X.env)).all (λx=>!x.1)&&(backToKw cpos (keywordEach [] X.env)).all (λx=>x.1.isSome)
  &&decide (([e,f]:List Expr).length+([]:List Zs).length+(if([]:List Zs).isEmpty then 0 else 1)<30))=true
 line:(apos.endLine==cpos.line)=true
 trees:Yq cpos (XG [e,f] X.env)=[(false,eval e X.env),(false,eval f X.env)]
section
variable{X:Cx}{pins:List (Addr×Obj)}{σ:St}{H:Hp}{s:X1}{a:Addr}{y d:V}{u r:X0}{o:Option V}{A:Xq}{E:X0->X1->Prop}
end
section
variable{X:Cx}{o e f:Expr}{apos cpos:Pos}{td ty tx:TE}
end
section
variable{X:Cx}{pins:List (Addr×Obj)}{σ:St}{H:Hp}{s:X1}{a:Addr}{kvs:List (Key×V)}{A:Xq}{E:X0->X1->Prop}
theorem Sz{Q:X0->X1->Prop}(I:Inv X pins σ H s)(e:Rd H a (.dK kvs))(h:∀p s',H p=none->Inv X pins σ (upd H p (.dK kvs)) s'->Q (.ref p) s'):X4 (X8 X.prog X.w) A (call (.type "dict") [.ref a]) Q E s:=by
 obtain⟨z,hd,vs,rel,dd⟩:=V1 I.hok e;refine kt_call_dict hd dd (by rw[<- rel.length];exact z) λh' dd' hs=>?_
 refine h _ _ (I.hok.fresh (Xh _)) (I.laid (a:=s.heap.objs.size) (o:=.dK kvs) (t':=s.toks) (λb q hq=>?_) (Xh _) (BZ z (beq_eq_false_iff_ne.mpr (Za (XC I.big))) rel dd'));exact(hs.2 b (XC (Xv hq))).trans (Xr _ hq)
end
section
variable{X:Cx}{pins:List (Addr×Obj)}{σ:St}{H:Hp}{s:X1}{a:Addr}{y:V}{u:X0}{A:Xq}{E:X0->X1->Prop}
end
end L2
namespace Att
open PySem PySem.W PySem.Calls PyProof.Rows
theorem SA{P:Params}{h:Heap}:∀(ns:List Int) (vs:List X0),WellAll P h vs (ns.map WData.int)->IntsAre vs ns:=by
 intro ns
 induction ns with
 |nil=>
  intro vs w;rw[Y6]at w;cases w;exact .nil
 |cons n ns ih=>
  intro vs w;rw[Xz]at w;cases w with
  |cons a b=>
   cases a;exact .cons _ _ (ih _ b)
theorem SC{l:OpenLaw}{n:Nat}(hn:l.most=some n){P:Params}{h:Heap}{args:List WData}{vals:List X0}
  (hpre:l.row.toRowW.claim.pre args=true) (hwl:WellAll P h vals args):
  ∃a vs ns,vals=[Xy a]/\args=[WData.list (ns.map WData.int)]/\h.get? a=some {cls:=.type "list",data:=.seq vs.toArray}/\IntsAre vs ns/\ns.length≤n:=by
 have hsh:WShape.hasAll [] args [.list .int]=true:=(pre_splitW hpre).1;have hc:l.pre.holds [] {args:=args}=true:=(pre_splitW hpre).2;obtain⟨d,r,rfl,h1,h2⟩:=hasAllW_cons hsh;obtain rfl:=hasAllW_nil h2;obtain⟨xs,rfl,h3⟩:=hasW_list h1;obtain⟨ns,rfl⟩:=items_int h3;have hlen:ns.length≤n:=by
  unfold OpenLaw.pre at hc;have h4:(WTm.not (.lt (.lit (.int (n:Int))) (.len (.arg 0)))).holds [] {args:=[.list (ns.map .int)]}=true:=by
   have h4:=(holds_andW hc).1;rw[hn]at h4;exact h4
  have h5:=condW_of h4 (w_not (w_lt w_lit (w_len_list (w_arg rfl))));rw[X2]at h5;refine Nat.le_of_not_lt λq=>?_;have q':(n:Int)<((ns.length:Nat):Int):=by lia
  first
   |(rw[decide_eq_true q']at h5;exact absurd h5 (by decide))
   |(simp at h5;lia)
 cases hwl with
 |cons w1 w2=>
  cases w2;cases w1 with
  |list ho hall=>exact⟨_,_,ns,rfl,rfl,ho,SA ns _ hall,hlen⟩
theorem SD(l:OpenLaw)(args:List WData):l.row.toRowW.claim.post args (.bool true) args=true:=
 postW_of (r:=l.row.toRowW) (X:=(true==true))
  (show WShape.has [] (.bool true) .bool=true by first|rfl|decide|simp[WShape.has,WShape.arms,WShape.armsAll])
  (show(WTm.eq .res (.lit (.bool true))).value [] {args:=args,res:=some (.bool true),after:=args}=some (.bool (true==true))from w_eq_bool (w_res rfl) w_lit) rfl
theorem attach_call{l:OpenLaw}{n:Nat}{q:Xl}{loose:List Str}{XP:(Str->Option X0)->Heap->Prop}{YP:Xe->Heap->Prop}{d:DefRec}
  (hn:l.most=some n) (hdf:d.params.defaults=[])
  (call:∀(w:Xe) (s₀ s₁:X1) (mg mb:Str->Option X0) (fa:Addr) (o:Obj) (pm cd doc:X0) (a:Addr) (vs:List X0) (ns:List Int),
   Ground q loose [] XP w s₀ mg mb s₁.heap->YP w s₁.heap->
   s₁.heap.get? fa=some o->o.data=.func (docDef d.name d.params d.body d.scope pm cd doc)->s₁.heap.CodeRec cd d.name->mg d.name=some (.ref fa)->
   s₁.heap.get? a=some {cls:=.type "list",data:=.seq vs.toArray}->IntsAre vs ns->ns.length≤n->s₁.gens=#[]->
   Z6 (X8 l.prog w) callerA (.call (.ref fa) ⟨[.ref a],[]⟩) (λr s'=>r=.ok (.ret (.bool true))/\OldK s₁.heap s'.heap/\s'.os=s₁.os/\AllBare s'.gens) s₁):
  WalkO q loose XP YP l.row.toRowW d [] (λf vs=>PySem.call f vs):=by
 intro w s₀ s₁ mg mb G Y fa o pm cd doc dV kV ho hd hcd hD hmg hg args vals as hpre hlay hrd hwl hlo;obtain rfl:dV=.none:=Dflts.none hD hdf;obtain rfl:kV=.none:=Dflts.noKw hD;obtain⟨a,vs,ns,rfl,rfl,hobj,hints,hlen⟩:=SC hn hpre hwl;refine enter_call (VW (call w s₀ s₁ mg mb fa o pm cd doc a vs ns G Y ho (fd_plain hd) hcd hmg hobj hints hlen hg) λr s' hq=>?_);obtain⟨rfl,h2,h3,h4⟩:=hq;exact⟨.inl ⟨.bool true,.bool true,[],rfl,λ_=>rfl,.bool true,SD l _,λ_=>⟨List.Pairwise.nil,λ_ hm=>(nomatch hm)⟩⟩,h2,h3,h4⟩
section
variable{prog:Xl}{w:Xe}{A:Xq}{E:X0->X1->Prop}{s:X1}{K:Frag}
noncomputable def ledger(h:Heap)(L d:Addr):List (Addr×Obj):=(XN h.objs.size).filterMap λa=>if a=L\/a=d then none else(h.get? a).map λo=>(a,o)
end
end Att
namespace L2
open PySem PySem.Spec PyProof.Rows
theorem HH:∀{vs:List X0} {ns:List Int},IntsAre vs ns->Vals (ns.map V.int) vs
 |_,_,.nil=>.nil
 |_,_,.cons n t h=>.cons ⟨t,rfl⟩ (HH h)
noncomputable def Only(H:Hp):Prop:=∀b,H b=none\/∃o xs,H b=some (.frz o (.lst xs))
theorem SE{P:Xl}{w:Xe}{K:X5}{mg mb:Str->Option X0}{CX:CXT}{k:Nat}{fa a:Addr}{fd:Xi}{x:Str}{sp:Sp}{s₁:X1}{vs:List X0}{ns:List Int}
  (KX:K.In s₁.heap) (hns:s₁.heap.Ns XA mg) (hb:s₁.heap.Ns builtinsNs mb) (hbb:∀x:Str,x≠"__name__"->mb x=YD x) (hlim:s₁.heap.NoLimit) (hg:s₁.gens=#[])
  (ha:s₁.heap.get? a=some {cls:=.type "list",data:=.seq vs.toArray}) (hi:IntsAre vs ns) (hl:ns.length≤sizeLine) (hr:Room k callerA)
  (F:∀base:Heap,K.In base->base.Ns XA mg->FnOk P w K mg base CX k fa fd [x] sp) (hbind:∀(s:X1) (u:X0),BindsTo s fd ⟨[u],[]⟩ [(x,u)])
  (hsp:∀H:Hp,Only H->SqL K H a (ns.map V.int)->sp [.ref a] H (λv _=>v=.bl true) λ_ _ _=>False)
  (hCX:∀H e s',CX [] H s₁ (λ_ _ _=>False) e s'->False):
  Z6 (X8 P w) callerA (.call (.ref fa) ⟨[.ref a],[]⟩) (λr s'=>r=.ok (.ret (.bool true))/\OldK s₁.heap s'.heap/\s'.os=s₁.os/\AllBare s'.gens) s₁:=by
 have rv:=HH hi;have lenV:=hi.length;have core:∀H:Hp,Only H->SqL K H a (ns.map V.int)->HOk P w H s₁.heap->(∀b,H b≠none->b=a)->(H a≠none->K.lookup a=none)->
   Z6 (X8 P w) callerA (.call (.ref fa) ⟨[.ref a],[]⟩) (λr s'=>r=.ok (.ret (.bool true))/\OldK s₁.heap s'.heap/\s'.os=s₁.os/\AllBare s'.gens) s₁:=by
  intro H hO hS hok hA hK;have base_of:∀{b:Addr} {o:Obj},s₁.heap.get? b=some o->H b=none->(hidT s₁.heap H).get? b=some o:=λe n=>QJ e n;have noA:∀{b:Addr} {o:Obj} {es:Array DictEntry} {ep:Nat},s₁.heap.get? b=some o->o.data=.dict es ep->H b=none:=fun{b o es ep} e d=>by
   cases q:H b with
   |none=>rfl
   |some u=>
    have e':b=a:=hA b (by rw[q];simp)
    subst e';rw[ha]at e;cases e;have d':Z1 vs.toArray _=Data.dict es ep:=d;cases d'
  have nsK:∀{b:Addr} {m:Str->Option X0},s₁.heap.Ns b m->(hidT s₁.heap H).Ns b m:=fun{b m} ⟨o,es,ep,e,d,r⟩=>⟨o,es,ep,base_of e (noA e d),d,r⟩;have hKb:K.In (hidT s₁.heap H):=λb o e=>base_of (KX b o e) (by
   cases q:H b with
   |none=>rfl
   |some u=>
    have e':b=a:=hA b (by rw[q];simp)
    subst e';rw[hK (by rw[q];simp)]at e;cases e)
  have hM:Mod K mg (hidT s₁.heap H):=⟨hKb,nsK hns,⟨mb,nsK hb,hbb⟩,let⟨mc,h1,h2⟩:=hlim;⟨mc,nsK h1,h2⟩⟩
  have e0:Env0 P w K mg (hidT s₁.heap H) callerA [] s₁ H:=⟨rfl,hM,λb o e=>QK e,Wb (QI _ _),trivial,λb hb=>absurd (show b∈([]:List Addr)from hb) (by simp),hok,.of_eq hg⟩
  refine VW ((F _ hKb (nsK hns)).run callerA [] s₁ H ⟨[.ref a],[]⟩ [.ref a] [.ref a] _ _ hr e0 (hbind s₁ (.ref a)) (.cons rfl .nil) (hsp H hO hS)) λr s' h=>?_;cases r with
  |error e=>exact(hCX H e s' h).elim
  |ok fl=>
   cases fl with
   |next=>exact Yy h
   |brk=>exact Yy h
   |cont=>exact Yy h
   |ret u=>
    obtain⟨v,H',os,bare,un,hok',r',q⟩:=h;have q':v=.bl true:=q;subst q';obtain rfl:u=Yj true:=r';refine⟨rfl,OldK.of_keep λb o e=>?_,os,bare⟩;cases q:H b with
    |none=>exact un.keep b o e q (by intro z;exact absurd (show b∈([]:List Addr)from z) (by simp)) (by simp)
    |some u=>
     rcases hO b with z|⟨ob,xs,z⟩
     ·rw[q]at z;cases z
     ·have z2:=un.frzs b ob _ z;obtain⟨e1,_⟩:=hok b _ z;obtain⟨e2,_⟩:=hok' b _ z2;rw[e]at e1;cases e1;exact e2
 cases hk:K.lookup a with
 |some o=>
  have e:=KX a o hk;rw[ha]at e;cases e;refine core (λ_=>none) (λ_=>.inl rfl) (.inr ⟨_,vs.toArray,_,hk,rfl,rfl,rfl,by rw[XO,lenV];exact hl,by simpa using rv⟩) (λb u z=>by have z':(none:Option HO)=some u:=z;cases z') (λb z=>absurd rfl z) λz=>absurd rfl z
 |none=>
  refine core (fun b=>if b=a then some (.frz {cls:=.type "list",data:=.seq vs.toArray} (.lst (ns.map V.int)))else none) (fun b=>?_) (.inl (.inr ⟨{cls:=.type "list",data:=.seq vs.toArray},if_pos rfl⟩)) (fun b u z=>?_) (fun b z=>?_) fun _=>hk
  ·by_cases hb:b=a
   ·exact .inr ⟨_,_,if_pos hb⟩
   ·exact .inl (if_neg hb)
  ·by_cases hb:b=a
   ·have z':=(if_pos hb).symm.trans z;cases z';subst hb;exact⟨ha,by rw[X2];exact hl,vs,_,rv,ha⟩
   ·have z':=(if_neg hb).symm.trans z;cases z'
  ·by_cases hb:b=a
   ·exact hb
   ·exact absurd (if_neg hb) z
noncomputable abbrev KOf{K:X5}{h:Heap}(_:K.In h):X5:=K
theorem walk_of{l:D9}{n k:Nat}{q:Xl}{loose:List Str}{XP:(Str->Option X0)->Heap->Prop}{YP:Xe->Heap->Prop}{d:DefRec}{K:Params->X5}{CX:Xe->CXT}{sp:Xe->Sp}{x:Str}
  (hn:l.most=some n) (hn2:n≤sizeLine) (hdf:d.params.defaults=[]) (hr:Room k callerA)
  (hY:∀(w:Xe) (h:Heap),YP w h->(K w.params).In h)
  (F:∀(w:Xe) (mg:Str->Option X0) (fa:Addr) (h:Heap),(K w.params).In h->h.Ns XA mg->mg d.name=some (.ref fa)->
   ∃fd:Xi,(∀(s:X1) (u:X0),BindsTo s fd ⟨[u],[]⟩ [(x,u)])/\
    ∀base:Heap,(K w.params).In base->base.Ns XA mg->FnOk l.prog w (K w.params) mg base (CX w) k fa fd [x] (sp w))
  (hsp:∀(w:Xe) (H:Hp) (a:Addr) (ns:List Int),ns.length≤n->Only H->SqL (K w.params) H a (ns.map V.int)->sp w [.ref a] H (λv _=>v=.bl true) λ_ _ _=>False)
  (hCX:∀(w:Xe) (H:Hp) (s:X1) (e:X0) (s':X1),CX w [] H s (λ_ _ _=>False) e s'->False):
  PySem.W.WalkO q loose XP YP l.row.toRowW d [] (λf vs=>PySem.call f vs):=by
 refine Att.attach_call hn hdf λw s₀ s₁ mg mb fa o pm cd doc a vs ns G Y ho hd hcd hmg hobj hints hlen hg=>?_;have KX:=hY w _ Y;obtain⟨fd,hb,hF⟩:=F w mg fa _ KX G.T.g hmg;exact SE KX G.T.g G.T.b G.T.builtins G.T.nolimit hg hobj hints (XV hlen hn2) hr hF hb (λH hO hS=>hsp w H a ns hlen hO hS) λH e s'=>hCX w H s₁ e s'
end L2
/- THE LAST THEOREM (shape;LID,My.*are yours):
  My.Adr:a structure of the addresses that your layer names (classes,functions);My.Txt K t:a structure(Prop) of the equations over K;
  My.txt_mk:{K} {implicit addresses ..} (e1:nsIn K XA "law"=some (some (.ref f))) (e2:K.lookup f=some ⟨oc,od,.func (fnOf "law" "law" params body scope dV kV doc pm an cdv ct),sl⟩) (e3:codeIn K cdv "law"=true) ..:∃t,My.Txt K t
set_option maxRecDepth 100000 in
set_option maxHeartbeats 0 in
theorem PySem.Challenge.cw_LID_holds : PySem.Challenge.rw_LID.Holds := by
 w_on;o_law;k_head;(case hw=>w_witness2)
 k_fill
 refine L2.walk_of (l:=PySem.Challenge.rw_LID) (n:=63) (k:=40) (x:="script") (CX:=fun w=>..) (sp:=fun _=>My.sp_law) rfl (by decide) rfl ⟨rfl,by decide,by decide⟩ (fun w h Y=>PySem.W.kIn_of Y) ?F ?S ?C
 case F=>
  intro w mg fa h KX G hmg;have T:∃t,My.Txt (L2.KOf KX) t:=by
   dsimp only[L2.KOf] -- K must stand as «<heap const> w.params» for k_is
   refine' My.txt_mk ?e1 ?e2 ?e3 ..
   (case e1=>PySem.W.k_is) -- in the order:a name->its address->its object->its parts
   (case e2=>PySem.W.k_is)
   ..
  obtain⟨t,T⟩:=T;have e0:=hmg.symm.trans (Z0 KX G T.law);cases e0 -- fa is the law's own address
  exact⟨_,λs u=>.of_eq rfl,λbase kb nb=>My.law_fn T kb nb⟩ -- if «.of_eq rfl» comes too early:refine' ⟨_,?b,λbase kb nb=>My.law_fn T kb nb⟩;exact λs u=>.of_eq rfl
 case S=>exact λw H a ns hl hO hS=>..
 case C=>exact ..
(the tactic k_is has no namespace:write k_is) -/
namespace L2
open PySem PySem.Spec PyProof.Rows
noncomputable def Vy(s:Stmt):Arguments:=match s with
 |.FunctionDef _ a _ _ _ _ _ _ _ _=>a
 |_=>{posonlyargs:=[],args:=[],vararg:=none,kwonlyargs:=[],kw_defaults:=[],kwarg:=none,defaults:=[]}
noncomputable def Xm(s:Stmt):List Stmt:=match s with
 |.FunctionDef _ _ b _ _ _ _ _ _ _=>b
 |_=>[]
noncomputable def X7(s:Stmt):Scope:=match s with
 |.FunctionDef _ _ _ _ _ _ sc _ _ _=>sc
 |_=>{kind:=.function,names:=[],isGenerator:=false,isCoroutine:=false}
noncomputable abbrev CX0:CXT:=λ_ _ _ _ _ _=>False
noncomputable abbrev E0:XK:=λ_ _ _=>False
theorem SF{X:Cx}:Dx CX0 X E0:=λ_ _ _ _ _ _ _ h=>h.elim
structure Fun (K:X5) (x qual:Str) (st:Stmt) (f:Addr) (fd:Xi):Prop where
 ex:∃(oc:X0) (od:Option Addr) (kV doc pm:X0) (an:Option Addr) (cdv ct:X0) (osl:Array (Option X0)),
  fd=Ul x qual (Vy st) (Xm st) (X7 st) .none kV doc pm an cdv ct/\K.lookup f=some ⟨oc,od,.func fd,osl⟩/\Db K cdv qual=true
 kp:U0 K (.ref f)=true
section
variable{P:Xl}{w:Xe}{K:X5}{mg:Str->Option X0}{base:Heap}
theorem Fun.ok{x qual:Str}{st:Stmt}{f:Addr}{fd:Xi}{N ps:List Str}{k:Nat}{sp:Sp}(F:Fun K x qual st f fd)(S:FnScope N ps (X7 st))(len:∀vs H Q E,sp vs H Q E->vs.length=ps.length)
  (hbody:∀(cdv:X0) (A:Xq) (outer:List Env) (s:X1) (H:Hp) (vs:List V) (Q:VK) (E:XK),Room k (A.deeper (envOfC qual (X7 st) s.heap.objs.size f cdv))->sp vs H Q E->
   ∃t,PSs (cxOf CX0 P w K mg base N qual (X7 st) f cdv A outer s H E).nox (Xm st) t/\t {nx:=λ_ H'=>Q .non H',rt:=Q} (start N vs) H):FnOk P w K mg base CX0 (k+1) f fd ps sp:=by
 obtain⟨oc,od,kV,doc,pm,an,cdv,ct,osl,rfl,lk,hcd⟩:=F.ex;refine RT lk hcd S len λA outer s H vs Q E hr hsp=>?_;obtain⟨t,h,q⟩:=hbody cdv A outer s H vs Q E hr hsp;exact⟨t,h.nox,q⟩
theorem Fun.binds{x qual:Str}{st:Stmt}{f:Addr}{fd:Xi}{ps:List Str}(F:Fun K x qual st f fd)
  (h:∀(kV doc pm:X0) (an:Option Addr) (cdv ct:X0) (us:List X0),us.length=ps.length->bindArgs (Ul x qual (Vy st) (Xm st) (X7 st) .none kV doc pm an cdv ct) ⟨us,[]⟩=pure (ps.zip us)):Binds K fd ps []:=by
 obtain⟨oc,od,kV,doc,pm,an,cdv,ct,osl,rfl,lk,hcd⟩:=F.ex;exact .all (h kV doc pm an cdv ct)
theorem fun_mk{x qual:Str}{st:Stmt}{f:Addr}{oc:X0}{od an:Option Addr}{osl:Array (Option X0)}{kV doc pm cdv ct:X0}(l:K.lookup f=some ⟨oc,od,.func (Ul x qual (Vy st) (Xm st) (X7 st) .none kV doc pm an cdv ct),osl⟩)
  (c:Db K cdv qual=true) (k:U0 K (.ref f)=true):Fun K x qual st f (Ul x qual (Vy st) (Xm st) (X7 st) .none kV doc pm an cdv ct):=⟨⟨oc,od,kV,doc,pm,an,cdv,ct,osl,rfl,l,c⟩,k⟩
end
section
variable{X:Cx}
theorem pv(i:Nat){x:Str}{pos:Pos}(hN:X.N[i]?=some x:=by rfl) (hv:Vis X.env.scope x:=by first|exact Or.inl rfl|exact Or.inr (Or.inl rfl)|exact Or.inr (Or.inr rfl)) (hd:(x==("__debug__":Str))=false:=by decide)
  (hcd:(x==("__classdict__":Str))=false:=by decide):PE X (.Name x pos) (tVar i):=GT hN hv hd hcd
end
section
variable{X:Cx}
theorem SG:CallR X (.builtin "len") (fun xs H Q=>∃a kvs,xs=[V.ref a]/\H a=some (.dK kvs)/\Q (.int kvs.length) H):=by
 intro pins s σ H xs us Q I r h;obtain⟨a,kvs,rfl,ha,q⟩:=h;obtain⟨u,rfl,ru⟩:=YM r;cases ru;exact Ss I (.inl ha) λt s' I'=>⟨.int kvs.length,H,I',⟨t,rfl⟩,q⟩
end
section
variable{κ:Type} [DecidableEq κ]
theorem HI:∀{l:List κ} {k:κ},l.Nodup->¬k∈l->(l++[k]).Nodup
 |[],k,_,_=>by simp
 |a::r,k,h,hk=>by
  obtain⟨h1,h2⟩:=YF.mp h;show(a::(r++[k])).Nodup;refine YF.mpr ⟨λm=>?_,HI h2 λm=>hk (Xn.mpr (Or.inr m))⟩;rcases Ys.mp m with q|q
  ·exact h1 q
  ·exact hk (Xn.mpr (Or.inl (YE.mp q).symm))
end
section
variable{X:Cx}
noncomputable def Wn(i j:Int):Prop:=0<j/\j<2^256
theorem SH{j:Int}(h:Wn i j):j.natAbs.log2<9000:=by
 have h1:(0:Int)<j:=h.1;have h2:j<2^256:=h.2;have h0:j.natAbs≠0:=by lia
 have:j.natAbs<2^256:=by lia
 have:=(Nat.log2_lt h0).mpr this;lia
theorem SI:OpR X (Z5 .FloorDiv) (rI Wn λi j=>.int (i/j)):=opI λi j _ _ _ _ _ hc q=>by
 have h1:(0:Int)<j:=hc.1;exact floordiv_int (by lia) (by rw[Int.fdiv_eq_ediv_of_nonneg i (by lia)];exact q) (.inl (PyProof.noPylong_of_log2 (SH hc)))
theorem SJ:CallR X (.builtin "isinstance") (fun xs H Q=>∃x c t b,xs=[x,.ty c]/\TyOf X.K H x t/\UN X.K t (.type c)=some b/\Q (.bl b) H):=by
 intro pins s σ H xs us Q I r h;obtain⟨x,c,t,b,rfl,ty,e,q⟩:=h;obtain⟨u,w',rfl,ru,rw'⟩:=Vx r;cases rw';exact RI I ru ty e λtk=>⟨.bl b,H,I.tok tk,rfl,q⟩
end
mutual
inductive Dp (K:X5) (H:Hp):V->Yr->Prop
 |non:Dp K H .non .none
 |bl (b:Bool):Dp K H (.bl b) (.bool b)
 |int (i:Int):Dp K H (.int i) (.int i)
 |str (x:Str):Dp K H (.str x) (.str x)
 |lst {a:Addr} {xs:List V} {ds:List Yr}:SqL K H a xs->DpAll K H xs ds->Dp K H (.ref a) (.list ds)
 |tup {a:Addr} {xs:List V} {ds:List Yr}:SqT K H a xs->DpAll K H xs ds->Dp K H (.ref a) (.tuple ds)
inductive DpAll (K:X5) (H:Hp):List V->List Yr->Prop
 |nil:DpAll K H [] []
 |cons {x:V} {xs:List V} {d:Yr} {ds:List Yr}:Dp K H x d->DpAll K H xs ds->DpAll K H (x::xs) (d::ds)
end
section
variable{X:Cx}{pins:List (Addr×Obj)}{σ:St}{H:Hp}{s:X1}
mutual
theorem Dp.reads(I:Inv X pins σ H s):∀{x:V} {d:Yr} {u:X0},Dp X.K H x d->RelV x u->∃as,Reads s.heap u d as
 |_,_,_,.non,r=>by cases r;exact⟨_,.none⟩
 |_,_,_,.bl b,r=>by cases r;exact⟨_,.bool b⟩
 |_,_,_,.int i,r=>by obtain⟨t,rfl⟩:=r;exact⟨_,.int i t⟩
 |_,_,_,.str x,r=>by obtain⟨t,rfl⟩:=r;exact⟨_,.str x t⟩
 |_,_,_,.lst hq ha,r=>by
  cases r;obtain⟨its,rv,pl,hz⟩:=I.list hq;obtain⟨as,rs⟩:=DpAll.reads I ha rv;obtain⟨o,ho,hc,n,hd⟩:=pl.isList;exact⟨_,.list ho hc hd (by simpa using rs)⟩
 |_,_,_,.tup hq ha,r=>by
  cases r;obtain⟨its,rv,pl,hz⟩:=I.tuple hq;obtain⟨as,rs⟩:=DpAll.reads I ha rv;obtain⟨o,ho,hc,n,hd⟩:=pl;exact⟨_,.tuple ho hc hd (by simpa using rs)⟩
theorem DpAll.reads(I:Inv X pins σ H s):∀{xs:List V} {ds:List Yr} {us:List X0},DpAll X.K H xs ds->Vals xs us->∃as,ReadsAll s.heap us ds as
 |_,_,_,.nil,r=>by cases r;exact⟨_,.nil⟩
 |_,_,_,.cons h t,r=>by
  cases r with
  |cons r1 r2=>
   obtain⟨as,a⟩:=Dp.reads I h r1;obtain⟨bs,b⟩:=DpAll.reads I t r2;exact⟨_,.cons a b⟩
end
end
section
variable{X:Cx}
theorem SK(hu:X.A.units+64<cLine):OpR X (XU .Eq) (λx y H Q=>∃d e,Dp X.K H x d/\Dp X.K H y e/\ZG d=true/\ZG e=true/\Q (.bl (U7 d e)) H):=by
 intro pins s σ H x y v u Q I rx ry h;obtain⟨d,e,hd,he,sd,se,q⟩:=h;obtain⟨as,ra⟩:=hd.reads I rx;obtain⟨bs,rb⟩:=he.reads I ry;exact SeqAt.compareEq_shaped ra rb sd se hu (XF I q rfl)
theorem SL(hu:X.A.units+64<cLine):OpR X (XU .NotEq) (λx y H Q=>∃d e,Dp X.K H x d/\Dp X.K H y e/\ZG d=true/\ZG e=true/\Q (.bl (!PyData.eqv d e)) H):=by
 intro pins s σ H x y v u Q I rx ry h;obtain⟨d,e,hd,he,sd,se,q⟩:=h;obtain⟨as,ra⟩:=hd.reads I rx;obtain⟨bs,rb⟩:=he.reads I ry;exact SeqAt.compareNe_shaped ra rb sd se hu (XF I q rfl)
end
end L2
namespace L2
end L2
namespace L2
open PySem PySem.Spec PyProof.Rows
noncomputable def clOf(cells:List (Str×Addr)):List (Str×Z7)->List (Str×Addr)->List (Str×Addr)
 |[],acc=>acc
 |(n,k)::r,acc=>if k=.free then(match cells.lookup n with|some a=>clOf cells r ((n,a)::acc)|none=>clOf cells r acc)else clOf cells r acc
theorem Wo(cells:List (Str×Addr)):∀(names:List (Str×Z7)) (acc:List (Str×Addr)) (x:Str) (c:Addr),(clOf cells names acc).lookup x=some c->acc.lookup x=some c\/cells.lookup x=some c
 |[],acc,x,c,h=>.inl h
 |(n,k)::r,acc,x,c,h=>by
  unfold clOf at h;by_cases hk:k=.free
  ·rw[if_pos hk]at h;cases hc:cells.lookup n with
   |none=>rw[hc]at h;exact Wo cells r acc x c h
   |some a=>
    rw[hc]at h;rcases Wo cells r _ x c h with q|q
    ·by_cases hx:x=n
     ·subst hx;simp at q;subst q;exact .inr hc
     ·have hb:(x==n)=false:=beq_eq_false_iff_ne.mpr hx;simp only[ZA,hb]at q;exact .inl q
    ·exact .inr q
  ·rw[if_neg hk]at h;exact Wo cells r acc x c h
theorem C0(cells:List (Str×Addr)):∀(names:List (Str×Z7)) (acc:List (Str×Addr)) (x:Str) (c:Addr),cells.lookup x=some c->acc.lookup x=some c->(clOf cells names acc).lookup x=some c
 |[],acc,x,c,_,h=>h
 |(n,k)::r,acc,x,c,h,ha=>by
  unfold clOf;by_cases hk:k=.free
  ·rw[if_pos hk];cases hc:cells.lookup n with
   |none=>exact C0 cells r acc x c h ha
   |some a=>
    refine C0 cells r _ x c h ?_;by_cases hx:x=n
    ·subst hx;rw[h]at hc;cases hc;simp
    ·have hb:(x==n)=false:=beq_eq_false_iff_ne.mpr hx;simp only[ZA,hb];exact ha
  ·rw[if_neg hk];exact C0 cells r acc x c h ha
theorem Wp(cells:List (Str×Addr)):∀(names:List (Str×Z7)) (acc:List (Str×Addr)) (x:Str) (c:Addr),(x,Yu)∈names->cells.lookup x=some c->(clOf cells names acc).lookup x=some c
 |[],acc,x,c,h,_=>by cases h
 |(n,k)::r,acc,x,c,h,ha=>by
  unfold clOf;rcases Xn.mp h with e|h
  ·cases e;rw[if_pos rfl,ha];exact C0 cells r _ _ c ha (by simp)
  ·by_cases hk:k=.free
   ·rw[if_pos hk];cases hc:cells.lookup n with
    |none=>exact Wp cells r acc x c h ha
    |some a=>exact Wp cells r _ x c h ha
   ·rw[if_neg hk];exact Wp cells r acc x c h ha
theorem DG{env:Env}(f:Str×Z7->List (Str×Addr)->Sem (ForInStep (List (Str×Addr))))
  (hf:∀n k r,f (n,k) r=if(k==Yu)=true then(cellOf env n >>= λa=>pure (BT ((n,a)::r)))else pure (BT r)):
  ∀(names:List (Str×Z7)) (acc:List (Str×Addr)),(∀y∈names,y.2=.free->∃c,env.cells.lookup y.1=some c)->(forIn names acc f:Sem (List (Str×Addr)))=pure (clOf env.cells names acc)
 |[],acc,_=>by rw[List.forIn_nil];rfl
 |(n,k)::r,acc,h=>by
  rw[List.forIn_cons,hf];have hr:∀y∈r,y.2=.free->∃c,env.cells.lookup y.1=some c:=λy hy=>h y (Yb _ hy);by_cases hk:k=.free
  ·subst hk;obtain⟨c,hc⟩:=h (n,.free) Yh rfl;have hc':env.cells.lookup n=some c:=hc;have e:cellOf env n=pure c:=by unfold cellOf;rw[hc']
   rw[if_pos (by decide),e,pure_bind,pure_bind]
   show forIn r ((n,c)::acc) f=_;rw[DG f hf r _ hr];simp only[clOf,if_pos,hc']
  ·have hb:(k==Yu)=false:=by simpa using hk
   rw[hb,if_neg XB,pure_bind];show forIn r acc f=_;rw[DG f hf r _ hr];simp only[clOf,if_neg hk]
theorem HJ{scope:Scope}{env:Env}(h:∀y∈scope.names,y.2=.free->∃c,env.cells.lookup y.1=some c):closureFor scope env=pure (clOf env.cells scope.names []):=by
 unfold closureFor;simp only[bind_pure];exact DG _ (λn k r=>by
  by_cases hk:(k==Yu)=true
  ·simp only[hk,if_true]
  ·simp only[hk,if_false]) scope.names [] h
noncomputable def Vz(osc scope:Scope)(N own:List Str)(fr:List Nat):Bool:=
 decide (scope.kind=.function)&&scope.names.all (λy=>decide (y.2≠.cell))&&scope.names.all (λy=>decide (y.2=.local->scope.names.lookup y.1=some .local))&&
 scope.names.all (λy=>decide (y.2=.free->osc.names.lookup y.1=some .cell\/osc.names.lookup y.1=some .free))&&
 fr.all (λi=>match N[i]? with|some x=>decide ((x,Yu)∈scope.names/\scope.names.lookup x=some .free/\(osc.names.lookup x=some .cell\/osc.names.lookup x=some .free))|none=>false)
structure CompOk (osc scope:Scope) (N:List Str) (fr:List Nat):Prop where
 kind:scope.kind=.function
 nocell:∀y∈scope.names,y.2≠.cell
 names:∀y∈scope.names,y.2=.local->scope.names.lookup y.1=some .local
 has:∀y∈scope.names,y.2=.free->osc.names.lookup y.1=some .cell\/osc.names.lookup y.1=some .free
 frees:∀i∈fr,∃x,N[i]?=some x/\(x,Yu)∈scope.names/\scope.names.lookup x=some .free/\(osc.names.lookup x=some .cell\/osc.names.lookup x=some .free)
theorem VA{osc scope:Scope}{N own:List Str}{fr:List Nat}(h:Vz osc scope N own fr=true):CompOk osc scope N fr:=by
 unfold Vz at h;simp only[Yd,List.all_eq_true,decide_eq_true_eq]at h;obtain⟨⟨⟨⟨h1,h2⟩,h3⟩,h4⟩,h5⟩:=h;refine⟨h1,h2,h3,h4,λi hi=>?_⟩;have q:=h5 i hi;cases e:N[i]? with
 |none=>rw[e]at q;simp at q
 |some x=>rw[e]at q;simp only[decide_eq_true_eq]at q;exact⟨x,rfl,q⟩
noncomputable def sC(own:List Str)(fr:List Nat)(σ:St):St:=own.map (λ_=>none)++fr.map (λi=>σ.getD i none)
noncomputable def nC(own:List Str)(fr:List Nat)(N:List Str):List Str:=own++fr.map (λi=>N.getD i Wd)
noncomputable def cxC(X:Cx)(scope:Scope)(own:List Str)(fr:List Nat)(C:Addr)(fp:List Addr)(s₃:X1)(H₃:Hp):Cx:=
 {X with N:=nC own fr X.N,s₀:=s₃,H₀:=H₃,env:=compEnvC scope (clOf X.env.cells scope.names []) C X.env,outer:=X.stack,ex:=fp,fn:=λ_=>false,xe:=λ_ _=>False}
noncomputable def Keep(σ σ':St):Prop:=σ.length=σ'.length/\∀(i:Nat) (v:V),σ[i]?=some (some v)->σ'[i]?=some (some v)
noncomputable def tAll:TT:=λ_ H Q=>Q true H
noncomputable def PTs(X:Cx)(ifs:List Expr)(t:TT):Prop:=(ifs=[]/\t=tAll)\/∃c,ifs=[c]/\PT X c t
section
variable{prog:Xl}{w:Xe}{A:Xq}{R:Result->X1->Prop}{s:X1}
theorem SM{elt target iter:Expr}{ifs:List Expr}{scope:Scope}{pos:Pos}{it acc:X0}{env:Env}(I:Nat->X1->Prop)
  (turn:∀n s,I n s->X4 (X8 prog w) A (pyNext it) (λr s₁=>match r with
   |none=>R (.ok .next) s₁
   |some v=>X4 (X8 prog w) A (Bj target it v) (λ_ s₁'=>X4 (X8 prog w) A (assign target env v) (λ_ s₂=>
     X4 (X8 prog w) A (forIn ifs true λc r=>if r=true then do let ok<- isTrue c env (eval c env);pure (BT ok)else pure (BT r)) (λok s₃=>
      if ok=true then X4 (X8 prog w) A (eval elt env) (λx s₄=>
       X4 (X8 prog w) A (call (.builtin "list.append") [acc,x]) (fun _ s₅=>∃m,m<n/\I m s₅) (fun _ _=>False) s₄) (fun _ _=>False) s₃
      else∃m,m<n/\I m s₃) (λ_ _=>False) s₂) (λ_ _=>False) s₁') (λ_ _=>False) s₁) (λ_ _=>False) s)
  (n:Nat) (h:I n s):
  Z6 (X8 prog w) A (.compLoop (.ListComp elt [⟨target,iter,ifs,0⟩] scope pos) 0 it acc env) R s:=by
 refine codeAny_loop rfl I (λn s hI=>?_) n h;show X4 _ A ((compTurn (.ListComp elt [⟨target,iter,ifs,0⟩] scope pos) 0 it acc env).onRaise (λx=>do noteFrame x env;theTreesLotGoes x)) _ _ s
 refine wpAny_noted ?_;rw[compTurn_list];refine X3 (wpAny_standAt (X3 (Zp (turn n s hI) (λr s₁ h₁=>?_) λ_ _ h'=>h'.elim)));cases r with
 |none=>exact Xa h₁
 |some v=>
  refine X3 (Zp h₁ (λ_ s₁' h₁'=>?_) λ_ _ h'=>h'.elim);refine X3 (Zp h₁' (λ_ s₂ h₂=>X3 (Zp h₂ (λok s₃ h₃=>?_) λ_ _ h'=>h'.elim)) λ_ _ h'=>h'.elim);cases ok with
  |false=>exact Xa ⟨rfl,h₃⟩
  |true=>
   exact X3 (X3 (Zp h₃ (λx s₄ h₄=>X3 (Zp h₄ (λ_ s₅ h₅=>Xa (Xa ⟨rfl,h₅⟩)) λ_ _ h'=>h'.elim)) λ_ _ h'=>h'.elim))
end
theorem SN{σ:St}{H:Hp}{Q:Bool->Hp->Prop}(h:Q true H):tAll σ H Q:=h
section
variable{X:Cx}{pins:List (Addr×Obj)}{σ:St}{H1:Hp}{s2:X1}{tg elt iter:Expr}{ifs:List Expr}{scope:Scope}{pos:Pos}{own:List Str}{fr:List Nat}{g:TG}{tt:TT}{te:TE}
theorem HK{scope:Scope}{env:Env}{x:Str}:∀{names:List (Str×Z7)},names.lookup x=some .free->
  (names.map fun(n,k)=>if(k==Yu&&env.scope.kind==.function&&env.kindOf n==some .cell)then(n,Vn)else(n,k)).lookup x=some .cell\/
  (names.map fun(n,k)=>if(k==Yu&&env.scope.kind==.function&&env.kindOf n==some .cell)then(n,Vn)else(n,k)).lookup x=some .free
 |[],h=>by simp at h
 |(n,k)::r,h=>by
  have ih:=@HK scope env x r;show List.lookup x ((if(k==Yu&&env.scope.kind==.function&&env.kindOf n==some .cell)=true then(n,Vn)else(n,k))::_)=_\/List.lookup x ((if(k==Yu&&env.scope.kind==.function&&env.kindOf n==some .cell)=true then(n,Vn)else(n,k))::_)=_;cases hx:x==n with
  |true=>
   simp only[ZA,hx]at h;cases h;by_cases hc:(Yu==Yu&&env.scope.kind==.function&&env.kindOf n==some .cell)=true
   ·rw[if_pos hc];simp only[ZA,hx];exact .inl trivial
   ·rw[if_neg hc];simp only[ZA,hx];exact .inr trivial
  |false=>
   simp only[ZA,hx]at h;by_cases hc:(k==Yu&&env.scope.kind==.function&&env.kindOf n==some .cell)=true
   ·rw[if_pos hc];simp only[ZA,hx];exact ih h
   ·rw[if_neg hc];simp only[ZA,hx];exact ih h
theorem HL{scope:Scope}{env:Env}(hn:∀y∈scope.names,y.2≠.cell){x:Str}:∀{names:List (Str×Z7)},(∀y∈names,y.2≠.cell)->
  ((names.map fun(n,k)=>if(k==Yu&&env.scope.kind==.function&&env.kindOf n==some .cell)then(n,Vn)else(n,k)).lookup x=some .cell\/
  (names.map fun(n,k)=>if(k==Yu&&env.scope.kind==.function&&env.kindOf n==some .cell)then(n,Vn)else(n,k)).lookup x=some .free)->(x,Yu)∈names
 |[],_,h=>by simp at h
 |(n,k)::r,hnc,h=>by
  have ih:=@HL scope env hn x r (λy hy=>hnc y (Yb _ hy));have hk:k≠.cell:=hnc (n,k) Yh;simp only[Xz]at h;cases hx:x==n with
  |true=>
   have e:x=n:=eq_of_beq hx;subst e;by_cases hc:(k==Yu&&env.scope.kind==.function&&env.kindOf x==some .cell)=true
   ·have:k=.free:=by
     simp only[Yd,beq_iff_eq]at hc;exact hc.1.1
    subst this;exact Yh
   ·rw[if_neg hc]at h;simp at h;rcases h with h|h
    ·exact absurd h hk
    ·subst h;exact Yh
  |false=>
   by_cases hc:(k==Yu&&env.scope.kind==.function&&env.kindOf n==some .cell)=true
   ·rw[if_pos hc]at h;simp only[ZA,hx]at h;exact Yb _ (ih h)
   ·rw[if_neg hc]at h;simp only[ZA,hx]at h;exact Yb _ (ih h)
theorem SO{C:Addr}{fp:List Addr}{s3:X1}{H3:Hp}{h4:Heap}{tk:Nat}{m:Str->Option X0}(ok:CompOk X.env.scope scope X.N fr)(I3:Inv X pins σ H3 s3)(hC:C=s3.heap.objs.size)(hf:∀b∈fp,FpOk X pins H3 b)(hfo:∀b∈fp,∃o,s3.heap.get? b=some o)
  (ns:h4.Ns C m) (kp:∀b o,s3.heap.get? b=some o->h4.get? b=some o):
  Inv (cxC X scope own fr C fp s3 H3) pins (sC own fr σ) H3 {s3 with heap:=h4,toks:=tk}:=by
 have cellsub:∀x c,(clOf X.env.cells scope.names []).lookup x=some c->X.env.cells.lookup x=some c:=λx c h=>(Wo _ _ _ _ _ h).elim (λz=>by simp at z) id
 have cellt:∀x c,X.env.cells.lookup x=some c->c<s3.heap.objs.size:=λx c e=>let⟨v,q⟩:=I3.cell x c e;q.lt
 have fplt:∀b∈fp,b<s3.heap.objs.size:=λb hb=>let⟨o,e⟩:=hfo b hb;Xv e
 have kindOf_of:∀x,(X.env.scope.names.lookup x=some .cell\/X.env.scope.names.lookup x=some .free)->∃c,X.env.cells.lookup x=some c:=λx h=>I3.ok.has x h;refine⟨⟨I3.ok.mod,ok.kind,I3.ok.glob,I3.ok.blt,Wb hC.symm,λx y c h1 h2=>I3.ok.inj x y c (cellsub x c h1) (cellsub y c h2),λx hx=>?_,λx c z=>?_,I3.ok.hd,I3.ok.frames,.inl rfl,λb hb=>⟨?_,λx c e=>?_⟩,λb o e=>I3.bs b o e,XV I3.ok.bsz I3.sz,λb o e hb=>?_,λb hb hz=>?_,I3.stack,λb hb=>I3.stkFree b hb⟩,
  rfl,I3.bare,Un.kept kp,⟨m,ns,λi x v e1 e2 e3=>?_⟩,λx c e=>?_,?_,λx c e=>I3.freeC x c (cellsub x c e),λp hp=>?_,I3.hok.kept kp,?_⟩
 · -- has
  have hm:(x,Yu)∈scope.names:=HL (scope:=scope) (env:=X.env) ok.nocell ok.nocell hx;obtain⟨c,hc⟩:=kindOf_of x (ok.has _ hm rfl);exact⟨c,Wp _ _ _ _ _ hm hc⟩
 ·exact absurd z XB
 ·exact XC (by rw[hC];exact fplt b hb)
 ·exact(hf b hb).2.2.2.2.1 x c (cellsub x c e)
 ·rcases(hf b hb).2.2.2.1 with z|z
  ·exact I3.ok.noex b o e z
  ·exact absurd (YK (Xv e) (XV I3.ok.bsz z)) (Vm _)
 ·rcases Xn.mp (I3.stkSub b hz)with z|z
  ·exact(hf b hb).2.1 z
  ·exact(hf b hb).2.2.1 z
 · -- a free name's value
  have e2':(own.map (λ_=>(none:Option V))++fr.map (λi=>σ.getD i none))[i]?=some (some v):=e2;have e1':(own++fr.map (λi=>X.N.getD i Wd))[i]?=some x:=e1;by_cases hi:i<own.length
  ·rw[Zu (by simpa using hi),Xg]at e2'
   cases q:own[i]? with
   |none=>rw[q]at e2';cases e2'
   |some z=>rw[q]at e2';cases e2'
  ·rw[ZY (by simpa using hi)]at e2'
   rw[ZY (by simpa using hi)]at e1'
   simp only[X2]at e2';rw[Xg]at e1' e2';cases q:fr[i - own.length]? with
   |none=>rw[q]at e2';cases e2'
   |some j=>
    rw[q]at e1' e2';obtain⟨y,hy,hm,hl,ho⟩:=ok.frees j (Xk q);have ex:x=y:=by
     have:X.N.getD j Wd=y:=by rw[Y2,hy];rfl
     simp only[Option.map_some,this,BH]at e1';exact e1'.symm
    subst ex;have ev:σ[j]?=some (some v):=by
     simp only[Option.map_some,BH]at e2';rw[Y2]at e2';cases z:σ[j]? with
     |none=>rw[z]at e2';cases e2'
     |some o=>rw[z]at e2';cases e2';rfl
    obtain⟨m0,hn0,hl0⟩:=I3.loc;obtain⟨u,ru,lk⟩:=hl0 j x v hy ev (.inr ho);refine⟨u,ru,.inr ⟨HK (scope:=scope) hl,?_⟩⟩;rcases lk with⟨k1,_⟩|⟨_,c,hc,z⟩
    ·have k1':X.env.scope.names.lookup x=some .local:=k1;rw[k1']at ho;rcases ho with z|z<;>cases z
    ·exact⟨c,Wp _ _ _ _ _ hm hc,z.keeps kp⟩
 ·obtain⟨v,z⟩:=I3.cell x c (cellsub x c e);exact⟨v,z.keeps kp⟩
 ·show H3 C=none;exact I3.hok.fresh (Wb hC.symm)
 ·obtain⟨e,n,ne,nf,d⟩:=I3.pin p hp;refine⟨kp _ _ e,n,XC (by rw[hC];exact Xv e),λz=>?_,d⟩
  rcases Xn.mp (I3.stkSub p.1 z)with z|z
  ·exact ne z
  ·exact nf z
 ·show(own.map (λ_=>(none:Option V))++fr.map (λi=>σ.getD i none)).length=(own++fr.map (λi=>X.N.getD i Wd)).length;simp
end
section
variable{X:Cx}
theorem SQ(hc:X.calm=true):CallR X (.builtin "min") (fun xs H Q=>∃(p:Addr) (ns:List Int),xs=[.ref p]/\SqL X.K H p (ns.map V.int)/\0<ns.length/\∀M,M∈ns->(∀a∈ns,M≤a)->Q (.int M) H):=by
 intro pins s σ H xs us Q I r h;obtain⟨p,ns,rfl,hq,hne,q⟩:=h;obtain⟨u,rfl,ru⟩:=YM r;cases ru;obtain⟨its,rv,pl,hz⟩:=I.list hq;have hi:IntsAre its ns:=Hr rv;obtain⟨xs,e⟩:=hi.allInts.items;have hns:ns=xs.toList.map (·.1):=by rw[<- hi.numsOf,<- nums_intItems,<- e]
 have hsz:0<xs.size:=by
  have h3:=hne;rw[hns,X2,XW]at h3;exact h3
 have hl:=pl.isList;rw[e]at hl;refine min_intList (I.ok.hd hc) hl hsz λv h' tk hv hk=>?_;obtain⟨t,rfl⟩:=intItems_at hv;obtain⟨h1,h2⟩:=argBest_lt (numAt xs) (xs.size - 1);refine⟨.int _,H,I.kept hk,⟨t,rfl⟩,q _ ?_ λa ha=>?_⟩
 ·rw[hns,numAt_eq];exact getD_mem (by rw[X2,XW];lia)
 ·rw[hns]at ha;obtain⟨j,hj,rfl⟩:=mem_getD ha;rw[X2,XW]at hj;rw[<- numAt_eq];exact h2 j (by lia)
theorem SR(hc:X.calm=true):CallR X (.builtin "max") (fun xs H Q=>∃(p:Addr) (ns:List Int),xs=[.ref p]/\SqL X.K H p (ns.map V.int)/\0<ns.length/\∀M,M∈ns->(∀a∈ns,a≤M)->Q (.int M) H):=by
 intro pins s σ H xs us Q I r h;obtain⟨p,ns,rfl,hq,hne,q⟩:=h;obtain⟨u,rfl,ru⟩:=YM r;cases ru;obtain⟨its,rv,pl,hz⟩:=I.list hq;have hi:IntsAre its ns:=Hr rv;obtain⟨xs,e⟩:=hi.allInts.items;have hns:ns=xs.toList.map (·.1):=by rw[<- hi.numsOf,<- nums_intItems,<- e]
 have hsz:0<xs.size:=by
  have h3:=hne;rw[hns,X2,XW]at h3;exact h3
 have hl:=pl.isList;rw[e]at hl;refine max_intList (I.ok.hd hc) hl hsz λv h' tk hv hk=>?_;obtain⟨t,rfl⟩:=intItems_at hv;obtain⟨h1,h2⟩:=argBest_gt (numAt xs) (xs.size - 1);refine⟨.int _,H,I.kept hk,⟨t,rfl⟩,q _ ?_ λa ha=>?_⟩
 ·rw[hns,numAt_eq];exact getD_mem (by rw[X2,XW];lia)
 ·rw[hns]at ha;obtain⟨j,hj,rfl⟩:=mem_getD ha;rw[X2,XW]at hj;rw[<- numAt_eq];exact h2 j (by lia)
end
section
variable{X:Cx}
end
section
variable{X:Cx}
end
section
variable{X:Cx}
theorem SS{z:Str}{i:Int}(hz:z.length≤16)(h0:-1000≤i)(h1:i≤1000):MulOk z i:=by
 refine⟨?_,λh2 _=>?_,λh2 _=>?_⟩
 ·rw[decide_eq_false (by lia),decide_eq_false (by lia)];rfl
 ·have hi:1≤i:=by lia
  have:(16:Int)≤(2^63 - 1)/i:=by
   rw[Int.le_ediv_iff_mul_le (by lia)]
   lia
  lia
 ·have:z.length*i.toNat≤16*1000:=Nat.mul_le_mul hz (by lia)
  have h3:z.length*i.toNat<2^20:=by lia
  generalize z.length*i.toNat=n at h3;revert n;intro n hn;have hs:sizeLine=16777216:=by decide
  show decide (n>sizeLine)=false;rw[hs];exact decide_eq_false (by lia)
theorem ST:OpR X (Z5 .Mult) (λx y H Q=>∃z i,x=.str z/\y=.int i/\z.length≤16/\ -1000≤i/\i≤1000/\Q (.str (Txt.mul z i)) H):=by
 intro pins s σ H x y v u Q I rx ry h;obtain⟨z,i,rfl,rfl,hz,h0,h1,q⟩:=h;obtain⟨t,rfl⟩:=rx;obtain⟨t',rfl⟩:=ry;exact SB.mul (SS hz h0 h1) (λt' k=>⟨.str (Txt.mul z i),H,I.tok _,⟨_,rfl⟩,q⟩)
theorem SU(hu:X.A.units<cLine):OpR X (XU .Eq) (λx y H Q=>∃a b xs,x=.ref a/\y=.ref b/\SqL X.K H a xs/\SqL X.K H b []/\Q (.bl xs.isEmpty) H):=by
 intro pins s σ H x y v u Q I rx ry h;obtain⟨a,b,xs,rfl,rfl,ha,hb,q⟩:=h;cases rx;cases ry;obtain⟨its,rv,pl,hz⟩:=I.list ha;obtain⟨jts,rw',pl',_⟩:=I.list hb;have hj:jts=[]:=Br rw'.length.symm;subst hj;cases xs with
 |nil=>
  have hi:its=[]:=Br rv.length.symm;subst hi;exact SeqAt.eq_listAt (e:=λ_=>true) pl.isList pl'.isList rfl hu (λj h1 _=>absurd h1 (Nat.not_lt_zero j)) (XF I q rfl)
 |cons x r=>
  have hl:its.length=r.length+1:=by rw[<- rv.length];rfl
  exact SeqAt.eq_list_lengthsAt pl.isList pl'.isList (by simp;intro e;rw[e]at hl;simp at hl) hu (XF I q rfl)
theorem SV(hu:X.A.units<cLine):OpR X (XU .NotEq) (λx y H Q=>∃a b xs,x=.ref a/\y=.ref b/\SqL X.K H a xs/\SqL X.K H b []/\Q (.bl (!xs.isEmpty)) H):=by
 intro pins s σ H x y v u Q I rx ry h;obtain⟨a,b,xs,rfl,rfl,ha,hb,q⟩:=h;cases rx;cases ry;obtain⟨its,rv,pl,hz⟩:=I.list ha;obtain⟨jts,rw',pl',_⟩:=I.list hb;have hj:jts=[]:=Br rw'.length.symm;subst hj;cases xs with
 |nil=>
  have hi:its=[]:=Br rv.length.symm;subst hi;exact SeqAt.RcNeAt.lists (e:=λ_=>true) pl.isList pl'.isList rfl hu (λj h1 _=>absurd h1 (Nat.not_lt_zero j)) X.prog X.w _ _ (XF I q rfl)
 |cons x r=>
  have hl:its.length=r.length+1:=by rw[<- rv.length];rfl
  exact SeqAt.RcNeAt.lists_lengths pl.isList pl'.isList (by simp;intro e;rw[e]at hl;simp at hl) hu X.prog X.w _ _ (XF I q rfl)
end
open AutoSeq1 (wpAny_loadPart')
open MeetsSeq MeetsSeq2 MeetsSeq3 SeqRoads2
noncomputable def AliP(P:Xl)(w:Xe)(A:Xq)(s:X1)(y x:X0):Prop:=∀(E:X0->X1->Prop) (Q:Bool->X1->Prop),Q true s->X4 (X8 P w) A (eqBool y x) Q E s
noncomputable def RcP(P:Xl)(w:Xe)(A:Xq)(s:X1)(y x:X0):Prop:=∀(E Q:X0->X1->Prop),Q (.bool true) s->X4 (X8 P w) A (richCompare .Eq y x) Q E s
noncomputable def RnP(P:Xl)(w:Xe)(A:Xq)(s:X1)(y x:X0):Prop:=∀(E Q:X0->X1->Prop),Q (.bool false) s->X4 (X8 P w) A (richCompare .NotEq y x) Q E s
section
variable{P:Xl}{w:Xe}{A:Xq}{s:X1}{a b:Addr}{xs ys:Array X0}
theorem AliP.of_at{y x:X0}(h:SeqAt.EqAt A s y x true):AliP P w A s y x:=λE Q q=>h P w E Q q
theorem AliP.refs(h:RcP P w A s (.ref a) (.ref b)):AliP P w A s (.ref a) (.ref b):=by
 intro E Q q;by_cases e:a=b
 ·subst e;exact SeqAt.EqAt.same _ P w E Q q
 ·unfold eqBool;refine YI (wpAny_ite_split (λz=>absurd (by injection (eq_of_beq z)) e) λ_=>?_)
  exact X3 (h E _ (Zq q))
theorem SW(ha:s.heap.IsTuple a xs)(hb:s.heap.IsTuple b ys)(hz:xs.size=ys.size)(hu:A.units<cLine)(he:∀p∈xs.toList.zip ys.toList,AliP P w A.in1 s p.1 p.2):RcP P w A s (.ref a) (.ref b):=by
 intro E Q q;obtain⟨⟨c1,d1,t1,l1⟩,o1,k1,n1,e1⟩:=id ha;obtain⟨⟨c2,d2,t2,l2⟩,o2,k2,n2,e2⟩:=id hb;dsimp only at k1 e1 k2 e2;subst k1 e1 k2 e2;refine Vc (op:=.Eq) ⟨_,o1,rfl⟩ ⟨_,o2,rfl⟩ F.slot_tuple_eq (Z8 F.slot_tuple_eq ⟨_,o1,rfl⟩ F.entry_tuple_eq ?_ (F.args_tuple_eq_2 _ _)) hu;obtain⟨h0,g0,dd,tk,os⟩:=s;have f2:=GF
 wp_walk using Ym o1,Ym o2,wpAny_forIn_list _ (λrest r s'=>r.1=none/\s'=⟨h0,g0,dd,tk,os⟩/\∀p∈rest,AliP P w A.in1 ⟨h0,g0,dd,tk,os⟩ p.1 p.2) _
 case turn=>
  rintro⟨y,x⟩ rest r s' ⟨z1,rfl,m⟩;refine X3 (m (y,x) Yh _ _ ?_)
  wp_walk
  exact⟨rfl,rfl,λp hp=>m p (Yb _ hp)⟩
 case fin=>
  rintro⟨r1,r2⟩ s' ⟨z1,rfl,-⟩;dsimp only at z1;subst z1
  wp_walk
  have tc:BK .Eq xs.size ys.size=.bool true:=by simp[BK,hz]
  rw[tc];exact⟨_,rfl,(λz=>nomatch z),q⟩
 case h=>exact⟨rfl,rfl,he⟩
theorem SX{n1 n2:Nat}{d1 d2:Option Addr}{l1 l2:Array (Option X0)}(hz:xs.size=ys.size){R:Result->X1->Prop}
  (o1:s.heap.get? a=some {cls:=.type "list",dict:=d1,data:=.seq xs n1,slots:=l1}) (o2:s.heap.get? b=some {cls:=.type "list",dict:=d2,data:=.seq ys n2,slots:=l2})
  (he:∀j (h1:j<xs.size) (h2:j<ys.size),AliP P w A.in1 s xs[j] ys[j]) (q:R (.ok (.ret (.bool true))) s):∀k i:Nat,xs.size - i=k->
  X4 (X8 P w) A.in1 (Builtin.«list.__eq__.loop» ⟨[.ref a,.ref b,Y1 i,Y1 2],[]⟩) (λfin s'=>match fin with|.done f=>R (.ok f) s'|.again c'=>c'.quiet=true/\Z6 (X8 P w) A c' R s') (λe s'=>R (.error e) s') s:=by
 obtain⟨h0,g0,dd,tk,os⟩:=s;intro k
 induction k with
 |zero=>
  intro i hk
  wp_walk using Ym o1,Ym o2
  rw[show xs[((i:Nat):Int).toNat]?=none by simp;lia,show ys[((i:Nat):Int).toNat]?=none by simp;lia]
  wp_walk using Ym o1,Ym o2
  show R (.ok (.ret (.bool (xs.size==ys.size)))) _
  simpa [hz]using q
 |succ k ih=>
  intro i hk;have h1:i<xs.size:=by lia
  have h2:i<ys.size:=by lia
  wp_walk using Ym o1,Ym o2
  rw[show xs[((i:Nat):Int).toNat]?=some xs[i] by simp[h1],show ys[((i:Nat):Int).toNat]?=some ys[i] by simp[h2]]
  refine X3 (he i h1 h2 _ _ ?_)
  wp_walk
  rw[show((i:Int)+1)=((i+1:Nat):Int) by push_cast;rfl]
  refine⟨Zg plain_eq_loop _,Z9 entry_eq_loop ?_⟩;rw[Zj plain_eq_loop _];exact ih (i+1) (by lia)
theorem SY(ha:s.heap.IsList a xs)(hb:s.heap.IsList b ys)(hz:xs.size=ys.size)(hu:A.units<cLine)(he:∀j (h1:j<xs.size) (h2:j<ys.size),AliP P w A.in1 s xs[j] ys[j]):RcP P w A s (.ref a) (.ref b):=by
 intro E Q q;obtain⟨⟨c1,d1,t1,l1⟩,o1,k1,n1,e1⟩:=id ha;obtain⟨⟨c2,d2,t2,l2⟩,o2,k2,n2,e2⟩:=id hb;dsimp only at k1 e1 k2 e2;subst k1 e1 k2 e2;have t1:s.TypeIs (.ref a) "list":=⟨_,o1,rfl⟩;refine Vc (op:=.Eq) t1 ⟨_,o2,rfl⟩ Di (wpAny_call (VY Di.plain F.entry_list_eq (Di.check _ _ _ _ _ _ _ _ t1 (F.args_list_eq_2 _ _) ?_))) hu;obtain⟨h0,g0,dd,tk,os⟩:=s;have f3:=GG;have nz:¬(xs.size != ys.size)=true:=by simp[hz]
 wp_walk using Ym o1,Ym o2
 refine⟨Zg plain_eq_loop _,Z9 entry_eq_loop ?_⟩;rw[Zj plain_eq_loop _];exact SX (R:=wants (λv s'=>v≠.notImplemented/\Q v s') E) hz o1 o2 he (show Yj true≠.notImplemented/\Q (.bool true) _ from⟨(λz=>nomatch z),q⟩) _ 0 rfl
theorem SZ(ha:s.heap.IsTuple a xs)(hb:s.heap.IsTuple b ys)(hz:xs.size=ys.size)(hu:A.units<cLine)(he:∀p∈xs.toList.zip ys.toList,AliP P w A.in1 s p.1 p.2):RnP P w A s (.ref a) (.ref b):=by
 intro E Q q;obtain⟨⟨c1,d1,t1,l1⟩,o1,k1,n1,e1⟩:=id ha;obtain⟨⟨c2,d2,t2,l2⟩,o2,k2,n2,e2⟩:=id hb;dsimp only at k1 e1 k2 e2;subst k1 e1 k2 e2;refine Vc (op:=.NotEq) ⟨_,o1,rfl⟩ ⟨_,o2,rfl⟩ F.slot_tuple_ne (Z8 F.slot_tuple_ne ⟨_,o1,rfl⟩ F.entry_tuple_ne ?_ (F.args_tuple_ne_2 _ _)) hu;obtain⟨h0,g0,dd,tk,os⟩:=s;have f2:=GF
 wp_walk using Ym o1,Ym o2,wpAny_forIn_list _ (λrest r s'=>r.1=none/\s'=⟨h0,g0,dd,tk,os⟩/\∀p∈rest,AliP P w A.in1 ⟨h0,g0,dd,tk,os⟩ p.1 p.2) _
 case turn=>
  rintro⟨y,x⟩ rest r s' ⟨z1,rfl,m⟩;refine X3 (m (y,x) Yh _ _ ?_)
  wp_walk
  exact⟨rfl,rfl,λp hp=>m p (Yb _ hp)⟩
 case fin=>
  rintro⟨r1,r2⟩ s' ⟨z1,rfl,-⟩;dsimp only at z1;subst z1
  wp_walk
  have tc:BK .NotEq xs.size ys.size=.bool false:=by simp[BK,hz]
  rw[tc];exact⟨_,rfl,(λz=>nomatch z),q⟩
 case h=>exact⟨rfl,rfl,he⟩
theorem T0{n1 n2:Nat}{d1 d2:Option Addr}{l1 l2:Array (Option X0)}(hz:xs.size=ys.size){R:Result->X1->Prop}
  (o1:s.heap.get? a=some {cls:=.type "list",dict:=d1,data:=.seq xs n1,slots:=l1}) (o2:s.heap.get? b=some {cls:=.type "list",dict:=d2,data:=.seq ys n2,slots:=l2})
  (he:∀j (h1:j<xs.size) (h2:j<ys.size),AliP P w A.in1 s xs[j] ys[j]) (q:R (.ok (.ret (.bool false))) s):∀k i:Nat,xs.size - i=k->
  X4 (X8 P w) A.in1 (Builtin.«list.__eq__.loop» ⟨[.ref a,.ref b,Y1 i,Y1 3],[]⟩) (λfin s'=>match fin with|.done f=>R (.ok f) s'|.again c'=>c'.quiet=true/\Z6 (X8 P w) A c' R s') (λe s'=>R (.error e) s') s:=by
 obtain⟨h0,g0,dd,tk,os⟩:=s;intro k
 induction k with
 |zero=>
  intro i hk
  wp_walk using Ym o1,Ym o2
  rw[show xs[((i:Nat):Int).toNat]?=none by simp;lia,show ys[((i:Nat):Int).toNat]?=none by simp;lia]
  wp_walk using Ym o1,Ym o2
  show R (.ok (.ret (.bool (xs.size != ys.size)))) _
  simpa [hz]using q
 |succ k ih=>
  intro i hk;have h1:i<xs.size:=by lia
  have h2:i<ys.size:=by lia
  wp_walk using Ym o1,Ym o2
  rw[show xs[((i:Nat):Int).toNat]?=some xs[i] by simp[h1],show ys[((i:Nat):Int).toNat]?=some ys[i] by simp[h2]]
  refine X3 (he i h1 h2 _ _ ?_)
  wp_walk
  rw[show((i:Int)+1)=((i+1:Nat):Int) by push_cast;rfl]
  refine⟨Zg plain_eq_loop _,Z9 entry_eq_loop ?_⟩;rw[Zj plain_eq_loop _];exact ih (i+1) (by lia)
theorem T1(ha:s.heap.IsList a xs)(hb:s.heap.IsList b ys)(hz:xs.size=ys.size)(hu:A.units<cLine)(he:∀j (h1:j<xs.size) (h2:j<ys.size),AliP P w A.in1 s xs[j] ys[j]):RnP P w A s (.ref a) (.ref b):=by
 intro E Q q;obtain⟨⟨c1,d1,t1,l1⟩,o1,k1,n1,e1⟩:=id ha;obtain⟨⟨c2,d2,t2,l2⟩,o2,k2,n2,e2⟩:=id hb;dsimp only at k1 e1 k2 e2;subst k1 e1 k2 e2;have t1:s.TypeIs (.ref a) "list":=⟨_,o1,rfl⟩;refine Vc (op:=.NotEq) t1 ⟨_,o2,rfl⟩ Dj (wpAny_call (VY Dj.plain F.entry_list_ne (Dj.check _ _ _ _ _ _ _ _ t1 (F.args_list_ne_2 _ _) ?_))) hu;obtain⟨h0,g0,dd,tk,os⟩:=s;have f3:=GG;have nz:¬(xs.size != ys.size)=true:=by simp[hz]
 wp_walk using Ym o1,Ym o2
 refine⟨Zg plain_eq_loop _,Z9 entry_eq_loop ?_⟩;rw[Zj plain_eq_loop _];exact T0 (R:=wants (λv s'=>v≠.notImplemented/\Q v s') E) hz o1 o2 he (show Yj false≠.notImplemented/\Q (.bool false) _ from⟨(λz=>nomatch z),q⟩) _ 0 rfl
theorem HM{K:Type} [DecidableEq K] {knd:KeyKind P w K}{nm:String}{ka kb:List (K×X0)}{E:X0->X1->Prop}{Q:Bool->X1->Prop}(na:(a==YH)=false)(nb:(b==YH)=false)
  (da:s.heap.DictOf knd a ka) (db:s.heap.DictOf knd b kb) (hz:ka.length=kb.length) (he:∀p∈ka,∃y,YY kb p.1=some y/\AliP P w A s p.2 y) (q:Q true s):
  X4 (X8 P w) A (Gm nm a b) Q E s:=by
 obtain⟨oa,ea,pa,o1,_,t1,k1,v1,_⟩:=da;obtain⟨ob,eb,pb,o2,_,t2,k2,v2,_⟩:=db;have za:ka.length=ea.size:=v1.length.symm.trans XW;have zb:kb.length=eb.size:=v2.length.symm.trans XW;have fd:∀k,findBy knd.is eb k=YY kb k:=by
  intro k;rw[<- v2.find k];clear zb v2 k2 t2 o2;obtain⟨l⟩:=eb;simp[findBy]
 have zz:ea.size=eb.size:=by lia
 unfold Gm Builtin.Dict.showsAll;rw[na,nb];refine X3 (Xa (X3 (Xa (X3 (Bn o1 t1 ?_)))));dsimp only;refine X3 (Bn o2 t2 ?_);rw[if_neg (by simp[zz])]
 refine X3 (wpAny_dictEpoch o1 t1 (X3 ?_));rw[Std.Legacy.Range.forIn_eq_forIn_range'];simp only[Std.Legacy.Range.size,Nat.sub_zero,Nat.add_sub_cancel,Nat.div_one];refine wpAny_forIn_list _ (λrest r s'=>s'=s/\r=(none,())/\∀i∈rest,i<ea.size) _ ?_ ?_ _ _ ⟨rfl,rfl,λi hi=>by simpa using hi⟩
 ·rintro i rest r s' ⟨rfl,rfl,m⟩;have lt:i<ea.size:=m i Yh;have lt':i<ka.length:=by lia
  refine X3 (Bn o1 t1 ?_);rw[UU lt];obtain⟨key,val⟩:=v1.get? (i:=i) (e:=ea[i]) (k:=ka[i].1) (v:=ka[i].2) (by rw[Gd];exact UU lt) (X6 lt')
  obtain⟨k',i',hh⟩:=k1 ea[i] (Array.getElem_mem lt);obtain rfl:k'=ka[i].1:=knd.inj _ _ _ i' key;obtain⟨y,fy,al⟩:=he ka[i] (XY lt');show X4 _ _ (holding [ea[i].key,ea[i].val] _ >>= _) _ _ _;rw[hh];refine X3 (YI (X3 (wpAny_dictFind_of key o2 t2 k2 ?_)));have fy':=fy;rw[<- fd,findBy_of_findIdx?]at fy';cases hj:eb.findIdx? λe=>knd.is ka[i].1 e.key with
  |none=>rw[hj]at fy';cases fy'
  |some j=>
   rw[hj]at fy';obtain⟨jl,_,_⟩:=Array.findIdx?_eq_some_iff_getElem.mp hj;refine X3 (Bn o2 t2 ?_);rw[UU jl];have ey:eb[j].val=y:=by simpa [UU jl]using fy'
   rw[<- ey,<- val]at al;refine YI (al _ _ ?_);show X4 _ _ (if(!true)=true then _ else _) _ _ _;rw[if_neg (show¬(!true)=true from XB)];refine X3 (wpAny_dictEpoch o1 t1 ?_);rw[if_neg (by simp)]
   exact Xa ⟨rfl,rfl,λz hz=>m z (Yb _ hz)⟩
 ·rintro r s' ⟨rfl,rfl,-⟩;exact Xa q
theorem T2{K:Type} [DecidableEq K] {knd:KeyKind P w K}{ka kb:List (K×X0)}(na:(a==YH)=false)(nb:(b==YH)=false)
  (da:s.heap.DictOf knd a ka) (db:s.heap.DictOf knd b kb) (hu:A.units<cLine) (hz:ka.length=kb.length) (he:∀p∈ka,∃y,YY kb p.1=some y/\AliP P w A.in1 s p.2 y):RcP P w A s (.ref a) (.ref b):=by
 intro E Q q;refine Vc (op:=.Eq) da.typeIs db.typeIs Gy (Z8 Gy da.typeIs PySem.F.entry_dict_eq ?_ (PySem.F.args_dict_eq_2 _ _)) hu;show X4 _ _ (BN "__eq__" ⟨[.ref a,.ref b],[]⟩>>= _) _ _ s;refine X3 ?_;unfold BN;refine X3 (Bo da.typeIs (Xa (X3 (Ui (T:="dict") db.typeIs Gr ?_))));rw[if_neg (by decide)]
 refine X3 (Xa (X3 (Xa (X3 (HM na nb da db hz he ?_)))));exact Xa ⟨_,rfl,(λz=>nomatch z),q⟩
theorem T3{K:Type} [DecidableEq K] {knd:KeyKind P w K}{ka kb:List (K×X0)}(na:(a==YH)=false)(nb:(b==YH)=false)
  (da:s.heap.DictOf knd a ka) (db:s.heap.DictOf knd b kb) (hu:A.units<cLine) (hz:ka.length=kb.length) (he:∀p∈ka,∃y,YY kb p.1=some y/\AliP P w A.in1 s p.2 y):RnP P w A s (.ref a) (.ref b):=by
 intro E Q q;refine Vc (op:=.NotEq) da.typeIs db.typeIs Gz (Z8 Gz da.typeIs PySem.F.entry_dict_ne ?_ (PySem.F.args_dict_ne_2 _ _)) hu;show X4 _ _ (BN "__ne__" ⟨[.ref a,.ref b],[]⟩>>= _) _ _ s;refine X3 ?_;unfold BN;refine X3 (Bo da.typeIs (Xa (X3 (Ui (T:="dict") db.typeIs Gr ?_))));rw[if_neg (by decide)]
 refine X3 (Xa (X3 (Xa (X3 (HM na nb da db hz he ?_)))));exact Xa ⟨_,rfl,(λz=>nomatch z),q⟩
end
section
variable{X:Cx}
theorem HN:∀{ss:List Str} {us:List X0},Vals (ss.map V.str) us->∃l:List (Str×Tok),us=strValues l/\l.map (·.1)=ss
 |[],_,.nil=>⟨[],rfl,rfl⟩
 |x::ss,_,.cons q r=>by
  obtain⟨l,e,e'⟩:=HN r;obtain⟨t,rfl⟩:=(show∃t,_=XE x t from q);exact⟨(x,t)::l,by rw[e];rfl,by rw[Xz,e']⟩
theorem T4:MtR X "str.join" (fun x xs H Q=>∃sep b ss,x=.str sep/\xs=[.ref b]/\SqL X.K H b (ss.map V.str)/\ss.toArray.foldl (fun n z=>n+z.length+sep.length) 0≤sizeLine/\(ZD sep ss).length≤sizeLine/\Q (.str (ZD sep ss)) H):=by
 intro pins s σ H x xs v us Q I rx rs h;obtain⟨sep,b,ss,rfl,rfl,g,z,z2,q⟩:=h;obtain⟨t,rfl⟩:=rx;obtain⟨u,rfl,ru⟩:=YM rs;obtain rfl:u=Xy b:=ru;obtain⟨its,r,⟨o,n,o1,o2,_,o3⟩,_⟩:=I.list g;obtain⟨l,rfl,e⟩:=HN r;have tl:Gf ((l.map (·.1)).toArray.foldl (λn z=>n+z.length+sep.length) 0)=false:=by
  rw[e];unfold Gf;exact decide_eq_false (by lia)
 refine call_meets Gs (typeIs_str s sep t) PySem.F.entry_str_join (PySem.F.args_str_join_2 _ _) (meets_str_join_list sep t b l tl) ⟨⟨o,o1,o2,n,o3⟩,?_⟩;have fin:(Made.str (ZD sep (l.map (·.1)))).post (λv s'=>EP X pins σ Q v s') s:=by
  rw[e];exact⟨z2,.str _,H,I.tok _,⟨_,rfl⟩,q⟩
 match l,e,fin with
 |[],_,fin=>exact fin
 |[p],e,fin=>
  refine⟨.str p.1,H,I,⟨_,rfl⟩,?_⟩;have e2:ss=[p.1]:=e.symm;rw[e2]at q;exact q
 |_::_::_,_,fin=>exact fin
end
end L2
namespace L2
open PySem PySem.Spec PyProof.Rows
section
variable{X:Cx}
end
section
variable{X:Cx}{pins:List (Addr×Obj)}{σ:St}{H:Hp}{s:X1}
theorem Wq{H:Hp}{a b:Addr}{u v:HO}(e:H a=some u)(mu:Mut (some u))(q:H b=some v)(nv:¬Mut (some v)):b≠a:=by
 intro z;subst z;rw[e]at q;cases q;exact nv mu
theorem Inv.freeze(I:Inv X pins σ H s){a:Addr}{u:HO}{o:Obj}(e:H a=some u)(mu:Mut (some u))(ho:s.heap.get? a=some o):Inv X pins σ (upd H a (.frz o u)) s:=by
 have nn:∀b,H b=none->b≠a:=λb n z=>by subst z;rw[e]at n;cases n
 refine I.step (h':=s.heap) (g':=s.gens) (t':=s.toks) (d':=s.drawn) (ch:=[]) (λ_ z=>nomatch z) (λb o _ _ _ q _=>q) (λb o _ _ _ q _=>⟨o.slots,q⟩) (λb o _ _ n=>by rw[XJ (nn b n)];exact n) (λb o _ q=>⟨o,q⟩)
  (λb xs q=>by rw[XJ (Wq e mu q λz=>z)];exact q) (λb o u q=>by rw[XJ (Wq e mu q λz=>z)];exact q) (λb ps q=>⟨#[],by rw[XJ (Wq e mu q λz=>z),q];simp⟩) (λm h=>h) (λb v q=>?_) I.bare
 have st:∀{c:Addr} {y:HO},ObjOk X.prog X.w H s.heap c y->ObjOk X.prog X.w (upd H a (.frz o u)) s.heap c y:=λx=>
  x.stay (λc v _ q=>q) (λc q=>by rw[XJ (Wq e mu q λz=>z)];exact q) λc xs q=>by rw[XJ (Wq e mu q λz=>z)];exact q
 by_cases hb:b=a
 ·subst hb;rw[ZJ]at q;cases q;exact⟨ho,st (I.hok b u e)⟩
 ·rw[XJ hb]at q;exact st (I.hok b v q)
noncomputable def Thw(X:Cx)(H H':Hp):Prop:=H'=H\/∃a o u,H a=some (.frz o u)/\Mut (some u)/\(∀o' u',X.H₀ a≠some (.frz o' u'))/\H'=upd H a u
theorem Inv.thaw(I:Inv X pins σ H s){H':Hp}(t:Thw X H H'):Inv X pins σ H' s:=by
 rcases t with rfl|⟨a,o,u,e,mu,nf,rfl⟩
 ·exact I
 have ne:∀{b:Addr} {y:HO},H b=some y->y≠.frz o u->b≠a:=fun{b y} q n z=>by subst z;rw[e]at q;cases q;exact n rfl
 have nn:∀b,H b=none->b≠a:=λb n z=>by subst z;rw[e]at n;cases n
 have st:∀{c:Addr} {y:HO},ObjOk X.prog X.w H s.heap c y->ObjOk X.prog X.w (upd H a u) s.heap c y:=λx=>
  x.stay (λc v _ q=>q) (λc q=>by rw[XJ (ne q (λz=>by cases z))];exact q) λc xs q=>by rw[XJ (ne q (λz=>by cases z))];exact q
 refine⟨I.ok,I.os,I.bare,⟨I.base.keep,I.base.slot,λb ob q n hx=>?_,I.base.there,λb xs q=>?_,λb o' u' q=>?_,λb ps q=>?_⟩,I.loc,I.cell,?_,λx c q=>?_,λp hp=>?_,λb v q=>?_,I.len⟩
 ·have:=I.base.free b ob q n hx;rw[XJ (nn b this)];exact this
 ·have:=I.base.tups b xs q;rw[XJ (ne this (λz=>by cases z))];exact this
 ·rw[XJ (λz=>by subst z;exact nf o' u' q)]
  exact I.base.frzs b o' u' q
 ·obtain⟨m,h⟩:=I.base.tbls b ps q;exact⟨m,by rw[XJ (ne h (λz=>by cases z))];exact h⟩
 ·rw[XJ (nn _ I.free)];exact I.free
 ·rw[XJ (nn _ (I.freeC x c q))];exact I.freeC x c q
 ·obtain⟨h1,h2,h3⟩:=I.pin p hp;exact⟨h1,by rw[XJ (nn _ h2)];exact h2,h3⟩
 ·by_cases hb:b=a
  ·subst hb;rw[ZJ]at q;cases q;exact st (I.hok b _ e).2
  ·rw[XJ hb]at q;exact st (I.hok b v q)
theorem Inv.nofrz(I:Inv X pins σ H s){a:Addr}{u:HO}(e:H a=some u)(mu:Mut (some u)):∀o' u',X.H₀ a≠some (.frz o' u'):=λo' u' z=>by
 have:=I.base.frzs a o' u' z;rw[e]at this;cases this;exact mu
noncomputable def thwD(X:Cx)(D:Ends):Ends where
 nx:=λσ H=>∃H',Thw X H H'/\D.nx σ H'
 rt:=λv H=>∃H',Thw X H H'/\D.rt v H'
 bk:=λσ H=>∃H',Thw X H H'/\D.bk σ H'
 ct:=λσ H=>∃H',Thw X H H'/\D.ct σ H'
theorem PS.thaw{st:Stmt}{t:TS}(h:PS X st t):PS X st (λD σ H=>t (thwD X D) σ H):=by
 intro pins s σ H D I q;refine thn (h pins s σ H _ I q) λf s' hf=>?_;cases f with
 |next=>obtain⟨σ',H',I',H2,t2,d⟩:=hf;exact⟨σ',H2,I'.thaw t2,d⟩
 |brk=>obtain⟨σ',H',I',H2,t2,d⟩:=hf;exact⟨σ',H2,I'.thaw t2,d⟩
 |cont=>obtain⟨σ',H',I',H2,t2,d⟩:=hf;exact⟨σ',H2,I'.thaw t2,d⟩
 |ret u=>obtain⟨v,σ',H',I',r,H2,t2,d⟩:=hf;exact⟨v,σ',H2,I'.thaw t2,r,d⟩
theorem PE.thaw{e:Expr}{t:TE}(h:PE X e t):PE X e (λσ H Q=>t σ H λv H'=>∃H2,Thw X H' H2/\Q v H2):=by
 intro pins s σ H Q I q;refine thn (h pins s σ H _ I q) λu s' ⟨v,H',I',r,H2,t2,d⟩=>⟨v,H2,I'.thaw t2,r,d⟩
noncomputable def Itd(a:Addr)(o:Obj):It where
 go:=λi H=>∃kvs,H a=some (.frz o (.dK kvs))/\i<kvs.length
 yld:=λi H x H'=>H'=H/\∀kvs,H a=some (.frz o (.dK kvs))->∃k v,kvs[i]?=some (k,v)/\x=kV k
 stop:=λi H=>∃kvs,H a=some (.frz o (.dK kvs))/\kvs.length≤i
theorem HP{P:Xl}{w:Xe}{h:Heap}{a:Addr}{o:Obj}{kvs:List (Key×V)}{es:Array DictEntry}{ep:Nat}(ok:HOk P w H h)(e:H a=some (.frz o (.dK kvs)))(hd:o.data=.dict es ep):
  ∃vs,KV kvs vs/\h.DictAt (Yz P w) a vs ep/\vs.length=es.size:=by
 obtain⟨ho,z,_,vs,rel,o',es',ep',ho',r1,r2,r3⟩:=ok a _ e;rw[ho]at ho';cases ho';rw[hd]at r2;injection r2 with e1 e2;subst e1 e2;exact⟨vs,rel,⟨o,es,ho,r1,hd,r3⟩,by rw[<- r3.2.1.length];simp⟩
theorem T5{kvs:List (Key×V)}{vs:List (Key×X0)}(r:KV kvs vs):kvs.length=vs.length:=by
 induction r with
 |nil=>rfl
 |cons _ _ ih=>rw[YJ,YJ,ih]
theorem T6{kvs:List (Key×V)}{vs:List (Key×X0)}(r:KV kvs vs):∀{i:Nat} {k:Key} {v:V},kvs[i]?=some (k,v)->∃u,vs[i]?=some (k,u)/\RelV v u:=by
 induction r with
 |nil=>intro i k v h;cases h
 | @cons p p' _ _ q _ ih=>
  intro i k v h;cases i with
  |zero=>
   cases h;obtain⟨k2,x2⟩:=p';have e1:k=k2:=q.1;subst e1;exact⟨x2,rfl,q.2⟩
  |succ i=>exact ih (i:=i) h
theorem T7{P:Xl}{w:Xe}{k:Key}{u:X0}(h:(Yz P w).is k u=true):RelV (kV k) u:=by
 rcases ZI h with⟨i,t,rfl,rfl⟩|⟨x,t,rfl,rfl⟩
 ·exact⟨t,rfl⟩
 ·exact⟨t,rfl⟩
theorem T8{P:Xl}{w:Xe}{A:Xq}{E:X0->X1->Prop}{s:X1}{it d:Addr}{i n ep:Nat}{Q:X0->X1->Prop}(hit:s.heap.IsKeyIter it d i n ep)(h:Q (.ref it) s):
  X4 (X8 P w) A (pyIter (.ref it)) Q E s:=by
 refine wpAny_pyIter_slot hit.typeIs Gn (Z8 Gn hit.typeIs PySem.F.entry_dict_keyiterator_iter ?_ (PySem.F.args_dict_keyiterator_iter_1 _));show X4 _ _ (ret (.ref it)) _ _ s;exact Xa ⟨_,rfl,"dict_keyiterator",_,hit.typeIs,PySem.F.slot_dict_keyiterator_next.lookup,h⟩
theorem T9{P:Xl}{w:Xe}{K:X5}{tg:Expr}(a it:Addr)(o:Obj)(es:Array DictEntry)(ep:Nat)(hd:o.data=.dict es ep):Turn P w K tg (Itd a o) [it] it (λi h=>h.IsKeyIter it a i es.size ep)where
 mem:=by simp
 obj:=λi h st b hb=>by
  have e:b=it:=by simpa using hb
  subst e;obtain⟨o,e,c,d⟩:=st;exact⟨o,e,λv z=>by rw[d]at z;cases z⟩
 keep:=λi h h' st k=>by
  obtain⟨o,e,c,d⟩:=st;exact⟨o,k it (by simp) o e,c,d⟩
 item:=by
  intro X hP hw hK hc i pins s σ H E I hf st hg;subst hP hw hK;obtain⟨kvs,hq,hx⟩:=hg;obtain⟨vs,rel,da,hl⟩:=HP I.hok hq hd;obtain⟨⟨k,v⟩,hk⟩:∃p,kvs[i]?=some p:=⟨_,X6 hx⟩;obtain⟨u,hu,ru⟩:=T6 rel hk;obtain⟨f0,f1,f2,f3,f4,f5⟩:=hf it (by simp)
  rw[<- hl]at st;refine wpAny_pyNext_dict_item st da hu λkey h' hkey st' sb=>?_;have I1:Inv X pins σ H {s with heap:=h'}:=I.turned (t':=s.toks) (λb o hb e=>(sb.2 b hb).trans e) f0 f1 f3 f4 f5;rw[hl]at st';obtain⟨o',e,c,d⟩:=id st';exact⟨key,rfl,UZ (s:={s with heap:=h'}) e c d (by decide) ⟨kV k,H,I1,T7 hkey,⟨rfl,λkvs' e'=>by rw[hq]at e';cases e';exact⟨k,v,hk,rfl⟩⟩,st',λb hb=>(hf b hb).1⟩⟩
 done:=by
  intro X hP hw hK hc i pins s σ H E I hf st hg;subst hP hw hK;obtain⟨kvs,hq,hx⟩:=hg;obtain⟨vs,rel,da,hl⟩:=HP I.hok hq hd;obtain⟨f0,f1,f2,f3,f4,f5⟩:=hf it (by simp)
  rw[T5 rel]at hx;rw[<- hl]at st;exact wpAny_pyNext_dict_end (I.ok.hd hc) st da (CP.mpr hx) λh' eb=>⟨rfl,I.turned (t':=s.toks) (λb o hb e=>eb b o hb e) f0 f1 f3 f4 f5⟩
 self:=λ_ _ _ _ _ st h=>T8 st h
theorem Ta{tg:Expr}{R:It->Hp->Prop}{E:X0->X1->Prop}{a:Addr}{kvs:List (Key×V)}(I:Inv X pins σ H s)(e:H a=some (.dK kvs))(q:∀o,(∀o' u',X.H₀ a≠some (.frz o' u'))->R (Itd a o) (upd H a (.frz o (.dK kvs)))):
  X4 (X8 X.prog X.w) X.A (pyIter (.ref a)) (PIE X pins σ tg R) E s:=by
 obtain⟨z,hm,vs,rel,o,es,ep,ho,r1,r2,r3⟩:=I.hok a _ e;have I1:=I.freeze e trivial ho;have nf:=I.nofrz e trivial;refine wpAny_pyIter_dict hm (⟨o,es,ho,r1,r2,r3⟩:s.heap.DictAt (Yz X.prog X.w) a vs ep) ?_;refine⟨s.heap.objs.size,[s.heap.objs.size],_,_,upd H a (.frz o (.dK kvs)),rfl,I1.kept (t':=s.toks) λb o e=>Xr _ e,T9 a _ o es ep r2,?_,λb hb=>?_,q o nf⟩
 ·have hl:es.size=vs.length:=by rw[<- r3.2.1.length];simp
  rw[hl];exact⟨_,XQ _ rfl,rfl,rfl⟩
 ·have e:b=s.heap.objs.size:=by simpa using hb
  subst e;exact I1.fpOk (Xh _) (I1.hok.fresh (Xh _))
end
section
variable{prog:Xl}{w:Xe}{A:Xq}{E:X0->X1->Prop}{s:X1}{a₀:Array Keyed}
end
section
variable{X:Cx}
end
structure Mrk (t t':Yw):Prop where
 led:t'.led=t.led
 plain:t.plain=false->t'.plain=false
theorem Mrk.refl(t:Yw):Mrk t t:=⟨rfl,id⟩
theorem Mrk.trans{a b c:Yw}(x:Mrk a b)(y:Mrk b c):Mrk a c:=⟨y.led.trans x.led,λh=>y.plain (x.plain h)⟩
theorem Mrk.standIn(t:Yw)(n:Nat):Mrk t (t.standIn n):=⟨rfl,λ_=>rfl⟩
theorem Mrk.orStandIn(t:Yw)(n:Nat):Mrk t (t.orStandIn n):=by
 unfold SetTable.orStandIn;split
 ·exact .refl t
 ·exact .standIn t n
theorem Mrk.lay(t:Yw)(es:Array (Int×X0))(k:Int)(x:X0):Mrk t (layNew t es k x).2.1:=by
 unfold layNew;split
 ·exact Mrk.trans (b:=(t.put _).1) ⟨rfl,id⟩ (.orStandIn _ _)
 ·exact .standIn t _
theorem Mrk.relaid{t t':Yw}{hs:Array Int}{n:Nat}{od:Array Nat}(h:t.relaid hs n=some (t',od)):Mrk t t':=by
 unfold SetTable.relaid SetTable.laid at h;cases hl:SetTable.layClean (SetTable.sizeAbove n - 1) hs with
 |none=>rw[hl]at h;simp at h
 |some ow=>
  rw[hl]at h;simp only[Option.bind_eq_bind,Option.bind_some,Option.pure_def,BH,Prod.mk.injEq]at h;obtain⟨rfl,_⟩:=h;exact⟨rfl,id⟩
theorem Mrk.relay(t:Yw)(es:Array (Int×X0))(n:Nat):Mrk t (relayAll t es n).2.1:=by
 unfold relayAll;split
 ·rename_i hr
  dsimp only;split
  ·exact .relaid hr
  ·exact .standIn t _
 ·exact .standIn t _
noncomputable def txt:X0->Str
 |.str x _=>x
 |_=>⟨#[]⟩
noncomputable def met1(zs:List Str)(x:Str):List Str:=if x∈zs then zs else zs++[x]
noncomputable def met(f:Nat->Str):Nat->List Str
 |0=>[]
 |i+1=>met1 (met f i) (f i)
theorem Tb{zs:List Str}(h:zs.Nodup)(x:Str):(met1 zs x).Nodup:=by
 unfold met1;split
 ·exact h
 ·rename_i n
  rw[Zx];exact⟨h,by simp,λa ha b hb=>by rw[YE]at hb;subst hb;exact λe=>n (e▸ha)⟩
theorem HQ(f:Nat->Str):∀i,(met f i).Nodup
 |0=>.nil
 |i+1=>Tb (HQ f i) _
theorem Tc{zs:List Str}{x y:Str}:y∈met1 zs x↔y∈zs\/y=x:=by
 unfold met1;split
 ·rename_i h
  exact⟨.inl,λz=>z.elim id λe=>e▸h⟩
 ·simp
theorem HR{f:Nat->Str}{y:Str}:∀i,y∈met f i↔∃j,j<i/\f j=y
 |0=>by simp[met]
 |i+1=>by
  unfold met;rw[Tc,HR i];constructor
  ·rintro(⟨j,hj,e⟩|e)
   ·exact⟨j,by lia,e⟩
   ·exact⟨i,by lia,e.symm⟩
  ·rintro⟨j,hj,e⟩;by_cases z:j=i
   ·subst z;exact .inr e.symm
   ·exact .inl ⟨j,by lia,e⟩
theorem HS(f:Nat->Str):∀i,(met f i).length≤i
 |0=>Xh _
 |i+1=>by
  have:=HS f i;unfold met met1;split
  ·lia
  ·rw[Y5];simp;lia
section
variable{prog:Xl}{w:Xe}{A:Xq}{E:X0->X1->Prop}{s:X1}
noncomputable def WSet(prog:Xl)(w:Xe)(o:Obj)(zs:List Str):Prop:=
 o.ExactSet/\∃es ep t,o.data=.set es ep t/\ElemsOf (strKind prog w) es.toList/\(es.toList.map λe=>txt e.2).Perm zs/\es.size<scanBound/\t.fits es.size=true
  /\t.led=(!w.params.followText "set-order")/\(zs≠ []->t.plain=false)
theorem WSet.fresh:WSet prog w {cls:=.type "set",dict:=none,data:=.set #[] 0 (.fresh 0 0 (!w.params.followText "set-order"))} []:=
 ⟨⟨rfl,rfl,rfl⟩,#[],0,_,rfl,λe he=>by simp at he,by simp,by decide,by rfl,rfl,λh=>absurd rfl h⟩
theorem isT{k:Str}{v:X0}:(strKind prog w).is k v=true↔∃t,v=.str k t:=by
 constructor
 ·exact λh=>Value.isStrOf_shape h
 ·rintro⟨t,rfl⟩;exact strKind_is prog w k t
theorem WSet.mem{es:Array (Int×X0)}{zs:List Str}(he:ElemsOf (strKind prog w) es.toList)(hp:(es.toList.map λe=>txt e.2).Perm zs)(k:Str):
  k∈zs↔∃e∈es.toList,(strKind prog w).is k e.2=true:=by
 rw[<- hp.mem_iff,XI];constructor
 ·rintro⟨e,hm,q⟩;refine⟨e,hm,isT.mpr ?_⟩;obtain⟨⟨k',hk,_⟩,_⟩:=he e hm;obtain⟨t,ht⟩:=isT.mp hk;rw[ht]at q ⊢;exact⟨t,by rw[<- q];rfl⟩
 ·rintro⟨e,hm,q⟩;obtain⟨t,ht⟩:=isT.mp q;exact⟨e,hm,by rw[ht];rfl⟩
theorem HU{h:Heap}{a:Addr}{o:Obj}{es:Array (Int×X0)}{ep:Nat}{t:Yw}(ho:h.get? a=some o)(hd:o.data=.set es ep t)(es':Array (Int×X0))(t':Yw):
  (h.update a (Obj.putSet es' t')).get? a=some {o with data:=.set es' (ep+1) t'}:=by
 have z:=UO (Obj.putSet es' t') ho (by rw[putSet_of es' t' hd];rfl)
 rwa [putSet_of es' t' hd]at z
theorem HV{g:Bool->Sem Unit}(hg:∀(b:Bool) (s₁:X1) (Q':Unit->X1->Prop),Q' () s₁->X4 (X8 prog w) A (g b) Q' E s₁)
  {a:Addr} {o:Obj} {es:Array (Int×X0)} {ep:Nat} {t:Yw} (ho:s.heap.get? a=some o) (hex:o.ExactSet) (hd:o.data=.set es ep t)
  {es1:Array (Int×X0)} {t2:Yw} {zs:List Str} (hel:ElemsOf (strKind prog w) es1.toList) (hp:(es1.toList.map λe=>txt e.2).Perm zs) (hb:es1.size<scanBound)
  (hf:t2.fits es1.size=true) (hled:t2.led=(!w.params.followText "set-order")) (hpl:t2.plain=false) {was:Bool} {R:Option Bool->X1->Prop}
  (h:∀h' o',Um a s.heap h'->h'.get? a=some o'->WSet prog w o' zs->R (some true) {s with heap:=h'}):
  X4 (X8 prog w) A (do
    storeSet a es1 t2
    if(!was&&t2.tooFull)=true then do
      g (relayAll t2 es1 (UX es1.size)).2.2
      storeSet a (relayAll t2 es1 (UX es1.size)).1 (relayAll t2 es1 (UX es1.size)).2.1
      pure (some true)
     else pure (some true)) R E s:=by
 refine X3 (wpAny_storeSet_of ho hd ?_ (fits_of_scanBound hb));have ho1:=HU ho hd es1 t2;split
 ·have hp2:=relayAll_perm t2 es1 (UX es1.size);have hf2:=relayAll_fits t2 es1 (UX es1.size);have hm:=Mrk.relay t2 es1 (UX es1.size);generalize relayAll t2 es1 (UX es1.size)=Rl at hp2 hf2 hm ⊢;obtain⟨es2,t3,gv⟩:=Rl;dsimp only at hp2 hf2 hm ⊢;have hz:es2.size=es1.size:=by rw[<- XW,hp2.length_eq,XW]
  refine X3 (hg _ _ _ ?_);refine X3 (wpAny_storeSet_of ho1 rfl ?_ (fits_of_scanBound (by lia)))
  exact Xa (h _ _ ((U6 _ a _).trans (U6 _ a _)) (HU ho1 rfl es2 t3)
   ⟨hex,es2,_,t3,rfl,hel.perm hp2,(hp2.map _).trans hp,by lia,hf2,hm.led.trans hled,λ_=>hm.plain hpl⟩)
 ·exact Xa (h _ _ (U6 _ a _) ho1 ⟨hex,es1,_,t2,rfl,hel,hp,hb,hf,hled,λ_=>hpl⟩)
theorem Td{a:Addr}{o:Obj}{zs:List Str}{x:Str}{tk:Tok}{Q:Bool->X1->Prop}(ho:s.heap.get? a=some o)(hS:WSet prog w o zs)(hroom:zs.length+1<scanBound)
  (h:∀b h' o',Um a s.heap h'->h'.get? a=some o'->WSet prog w o' (met1 zs x)->Q b {s with heap:=h'}):
  X4 (X8 prog w) A (setAddHashed a (.str x tk) ((strKind prog w).hash x)) Q E s:=by
 obtain⟨hex,es,ep,t,hd,hel,hp,hb,hf,hled,hpl⟩:=id hS;have hkey:(strKind prog w).is x (.str x tk)=true:=strKind_is prog w x tk;have hlen:es.size=zs.length:=by rw[<- hp.length_eq,X2,XW]
 unfold setAddHashed setAddHashedIn;refine YI (X3 (VZ ho hd hf ?_));dsimp only;rw[byScan_of (x:=.str x tk) rfl hb hel];simp only[↓reduceIte];unfold setAddByScan;refine X3 (X3 (Uj (X3 (wpAny_setScan_of hkey ho hd hf hel ?_))));have hmem:=WSet.mem hel hp x;cases hr:List.findIdx? (λe=>(strKind prog w).is x e.2) es.toList with
 |some j=>
  dsimp only;obtain⟨hj,hpj,_⟩:=List.findIdx?_eq_some_iff_getElem.mp hr;have hx:x∈zs:=hmem.mpr ⟨_,XY hj,hpj⟩;refine Xa (Xa ?_);have:=h false s.heap o (Heap.SameBut.refl a s.heap) ho (by unfold met1;rw[if_pos hx];exact hS)
  cases s;exact this
 |none=>
  dsimp only;have hx:x∉zs:=λz=>by
   obtain⟨e,he,q⟩:=hmem.mp z;have:=List.findIdx?_eq_none_iff.mp hr e he;rw[q]at this;exact Bool.noConfusion this
  have hz:met1 zs x=zs++[x]:=by unfold met1;rw[if_neg hx]
  have hl:=layNew_perm t es ((strKind prog w).hash x) (.str x tk);have hlf:=layNew_fits t es ((strKind prog w).hash x) (.str x tk);have hm:=Mrk.lay t es ((strKind prog w).hash x) (.str x tk);generalize layNew t es ((strKind prog w).hash x) (.str x tk)=L at hl hlf hm ⊢;obtain⟨es1,t1,was,gave⟩:=L;dsimp only at hl hlf hm ⊢;rw[Array.toList_push]at hl;have hel1:ElemsOf (strKind prog w) es1.toList:=(hel.push hkey rfl).perm hl;have hp1:(es1.toList.map λe=>txt e.2).Perm (met1 zs x):=by
   rw[hz];refine(hl.map _).trans ?_;rw[Y4];exact hp.append (.refl _)
  have hb1:es1.size<scanBound:=by rw[<- XW,hl.length_eq,Y5,XW];simp;lia
  have gw:∀(b:Bool) (s₁:X1) (Q':Unit->X1->Prop),Q' () s₁->X4 (X8 prog w) A (match b with|true=>rule "set.scan.the-table-gave-way"|false=>pure ()) Q' E s₁:=
   λb s₁ Q' hq=>by cases b<;>first|exact Xa hq|exact Uj hq
  refine X3 (gw _ _ _ ?_);have fin:∀h' o',Um a s.heap h'->h'.get? a=some o'->WSet prog w o' (met1 zs x)->Q true {s with heap:=h'}:=λh' o' a1 a2 a3=>h true h' o' a1 a2 a3;split
  ·rw[hashByValue_scannable 8 (x:=.str x tk) rfl];refine X3 (Xa ?_);refine HV gw ho hex hd hel1 hp1 hb1 (t2:={t1 with plain:=false}) (SetTable.fits_plain_off hlf) (hm.led.trans hled) rfl ?_;intro h' o' a1 a2 a3;exact Xa (fin h' o' a1 a2 a3)
  ·rename_i np
   refine X3 (Xa ?_);simp only[↓reduceIte];refine HV gw ho hex hd hel1 hp1 hb1 hlf (hm.led.trans hled) (by simpa using np) ?_
   intro h' o' a1 a2 a3;exact Xa (fin h' o' a1 a2 a3)
theorem Te{R:Result->X1->Prop}{I:Addr}{fp wr:List Addr}{G:Array ZV->Array ZV->Prop}{n:Nat}{P:Nat->X0->Prop}{St:Nat->X1->Prop}
  (W:WalksS prog w A.in1 I fp wr G n P St) (S:Addr) (hSf:S∉fp) (f:Nat->Str) (hval:∀i v,P i v->∃t,v=.str (f i) t) (hb:n+1<scanBound):
  ∀(k i:Nat) (s:X1) (o:Obj),n - i=k->i≤n->St i s->s.heap.get? S=some o->WSet prog w o (met f i)->
   (∀s' o',Moved (S::wr) G s s'->s'.heap.get? S=some o'->WSet prog w o' (met f n)->R (.ok (.ret .none)) s')->
   Z6 (X8 prog w) A (.builtin "set.update.loop" ⟨[.ref S,.ref I],[]⟩) R s:=by
 have hSw:S∉wr:=λh=>hSf (W.sub _ h);have hsub:∀b∈wr,b∈S::wr:=λb hb=>Yb _ hb;intro k
 induction k with
 |zero=>
  intro i s o hk hi hst ho hS hR;have hin:i=n:=by lia
  subst hin;refine Z9 F.entry_set_update_loop ?_;rw[Zj F.plain_set_update_loop _];show X4 _ A.in1 (pyNext (.ref I)>>= _) _ _ s;refine X3 (W.done s _ _ hst λs' hm=>?_);exact Xa (hR s' o (hm.mono hsub) (hm.heap S _ hSw ho) hS)
 |succ k ih=>
  intro i s o hk hi hst ho hS hR;have hlt:i<n:=by lia
  refine Z9 F.entry_set_update_loop ?_;rw[Zj F.plain_set_update_loop _];show X4 _ A.in1 (pyNext (.ref I)>>= _) _ _ s;refine X3 (W.item i s _ _ hlt hst λv s' hP hst' hm=>?_);obtain⟨t,rfl⟩:=hval i v hP;have ho':=hm.heap S _ hSw ho;show X4 _ A.in1 (holding [XE (f i) t] (setAdd S (.str (f i) t))>>= _) _ _ s';refine X3 (YI ?_);unfold setAdd;refine YI (X3 ((strKind prog w).pyHash (k:=f i) (strKind_is prog w _ _) ?_));refine Td (s:={s' with toks:=s'.toks+1}) ho' hS (by have:=HS f i;lia) λb h' o' hsb ho2 hS2=>?_
  refine Xa ⟨Zg F.plain_set_update_loop _,ih (i+1) _ o' (by lia) hlt (W.frame _ s' _ _ hst' (Uo _) λb hb o e=>?_) ho2 hS2 λs'' o'' hm'' ho'' hS''=>?_⟩
  ·rw[hsb.2 b (λz:b=S=>hSf (by rw[<- z];exact hb))];exact e
  ·refine hR s'' o'' (Moved.trans W.gtrans ((hm.mono hsub).then_heap (Uo _) λb o hb e=>?_) hm'') ho'' hS'';rw[hsb.2 b (λz:b=S=>hb (by rw[z];exact Yh))];exact e
noncomputable def ZM(w:Xe):Obj:={cls:=.type "set",dict:=none,data:=.set #[] 0 (.fresh 0 0 (!w.params.followText "set-order"))}
theorem Tf(a:X0){Q₁:X0->X1->Prop}(h:Q₁ (.ref s.heap.objs.size) {s with heap:=s.heap.push (ZM w)}):
  Z6 (X8 prog w) A (.call (.builtin "set.__new__") ⟨[.type "set",a],[]⟩) (wants Q₁ E) s:=by
 refine codeAny_of_tree ?_;show X4 _ A.in1 (do checkBuiltinCall "set.__new__" ⟨[.type "set",a],[]⟩;again (.builtin "set.__new__" ⟨[.type "set",a],[]⟩)) _ _ s
 refine X3 (wpAny_of_eq (F.newCall_set_1 a) (Xa ⟨Zg F.plain_set_new _,Z9 F.entry_set_new ?_⟩));rw[Zj F.plain_set_new _];unfold Builtin.«set.__new__» Builtin.Frozenset.newClass;have hsub:=sub_set_self;obtain⟨hp,g,d,tk,os⟩:=s;dsimp only
 wp_walk
 refine W0 (Xa ?_);dsimp only;simp only[newObj];refine X3 (wpAny_alloc (Xa ?_));exact Xa h
theorem Tg{l:Addr}{items:Array X0}{f:Nat->Str}{Q:X0->X1->Prop}
  (hh:A.handled=none) (hl:s.heap.IsList l items) (hi:∀(i:Nat) (v:X0),items[i]?=some v->∃t,v=XE (f i) t) (hb:items.size+1<scanBound)
  (h:∀(h':Heap) (tk:Nat) (o:Obj),h'.get? s.heap.objs.size=some o->WSet prog w o (met f items.size)->
   (∀b o,b<s.heap.objs.size->s.heap.get? b=some o->h'.get? b=some o)->Q (.ref s.heap.objs.size) {s with heap:=h',toks:=tk}):
  X4 (X8 prog w) A (call (.type "set") [.ref l]) Q E s:=by
 obtain⟨c,tl,hmro⟩:=Ur.mro;have hmade:=Ur.made;have hsub:=Ur.sub;refine wpAny_call (codeAny_of_tree ?_);show X4 _ _ (callAny (.type "set") _) _ _ _;refine Xa ⟨Code.quiet_builtin _ (by decide+kernel),Z9 F.entry_type_call ?_⟩
 rw[Around.under_plain (weight_type_call_type "set" [.ref l] []) rfl];have h1:=Ur.notType;have h2:=Ur.canCreate;have hct:=F.typeCall_set_1 (.ref l)
 repeat (any_goals (first|assumption|wp_step))
 refine VW (Tf (.ref l) (E:=E) (Q₁:=λobj s₁=>obj=.ref s.heap.objs.size/\s₁={s with heap:=s.heap.push (ZM w)}) ⟨rfl,rfl⟩) λr s₁ hr=>?_;cases r with
 |error e=>exact hr
 |ok fl=>
  cases fl with
  |ret obj=>
   obtain⟨rfl,rfl⟩:=hr;have hS:(s.heap.push (ZM w)).get? s.heap.objs.size=some (ZM w):=XQ _ rfl;have hT:Wg {s with heap:=s.heap.push (ZM w)} (.ref s.heap.objs.size) "set":=⟨_,hS,rfl⟩;have hli:=Ur.init.lookup;have hbi:=Ur.init.bind (.ref s.heap.objs.size)
   repeat (any_goals (first|assumption|wp_step))
   refine VW (VY (R:=wants (λr s₂=>r=.none/\∃h' tk o,s₂={s with heap:=h',toks:=tk}/\
     h'.get? s.heap.objs.size=some o/\WSet prog w o (met f items.size)/\
     (∀b o,b<s.heap.objs.size->s.heap.get? b=some o->h'.get? b=some o)) E) Ur.init.plain F.entry_set_init (check_set_init_1 hT ?_)) λr₂ s₂ hr₂=>?_
   ·obtain⟨ol,hol,hcl,nl,hdl⟩:=hl;obtain⟨ocls,odict,odata,oslots⟩:=ol;simp only at hcl hdl;subst hcl;subst hdl;have hol':(s.heap.push (ZM w)).get? l=some {cls:=.type "list",dict:=odict,data:=.seq items nl,slots:=oslots}:=Xr _ hol;have hsls:=F.sub_list_set;have hslf:=F.sub_list_frozenset;have hne:(XD "list"==XD "dict")=false:=by decide
    have hl1:(s.heap.push (ZM w)).IsList l items:=⟨_,hol',rfl,nl,rfl⟩;unfold Builtin.«set.__init__» noKeywords Builtin.Frozenset.updateFrom;generalize hPI:pyIter=PI
    wp_walk
    subst hPI;refine Bp hl1 ?_;refine X3 (wpAny_runValue ?_);have hlS:l<s.heap.objs.size:=Xv hol;have hneI:l≠(s.heap.push (ZM w)).objs.size:=by
     rw[U4];exact XC (UR hlS)
    have hSf:s.heap.objs.size∉ [(s.heap.push (ZM w)).objs.size,l]:=by
     rw[U4];simp only[Xn,Y3,or_false,not_or];exact⟨XC (Dd _),US hlS⟩
    refine Te ((Walks.list (A:=A.in1.in1.in1) (by simp[hh]) _ l hneI items).toS) s.heap.objs.size
     hSf f hi hb (items.size - 0) 0 _ (ZM w) (by lia) (YL _)
     ⟨⟨_,XQ _ rfl,rfl,rfl⟩,(hl1.push _)⟩ (Xr _ hS) WSet.fresh ?_
    intro s' o' hm ho' hS';obtain⟨h',g',d',tk',os'⟩:=s';have eg:g'=s.gens:=hm.gens;have ed:d'=s.drawn:=hm.drawn;have eo:os'=s.os:=hm.os;subst eg;subst ed;subst eo;refine Xa (Xa ⟨rfl,h',tk',o',rfl,ho',hS',λb o hb e=>?_⟩);refine hm.heap b o ?_ (Xr _ (Xr _ e));simp only[Xn,Y3,or_false,not_or];exact⟨XC hb,by rw[U4];exact XC (UR hb)⟩
   ·cases r₂ with
    |error e=>exact hr₂
    |ok fl₂=>
     cases fl₂ with
     |ret r=>
      obtain⟨rfl,h',tk,o',rfl,ho',hS',hk'⟩:=hr₂
      repeat (any_goals (first|assumption|wp_step))
      exact h _ _ _ ho' hS' hk'
     |_=>exact hr₂.elim
  |_=>exact hr.elim
end
theorem slot_setiter_next:Slot "set_iterator" "__next__" "set_iterator.__next__":=
 .of (owner:="set_iterator") (n:="__next__") (by rw[Vd,Ve];kernel_rfl) (by decide+kernel) (by decide+kernel) (by decide+kernel)
  (by first|exact .inl (by decide+kernel)|exact .inr (by decide+kernel)) (by rw[isSubtype_type];kernel_rfl)
theorem HW:Slot "set_iterator" "__iter__" "set_iterator.__iter__":=
 .of (owner:="set_iterator") (n:="__iter__") (by rw[Vd,Ve];kernel_rfl) (by decide+kernel) (by decide+kernel) (by decide+kernel)
  (by first|exact .inl (by decide+kernel)|exact .inr (by decide+kernel)) (by rw[isSubtype_type];kernel_rfl)
theorem HX:entryFor table "set_iterator.__next__"=some Builtin.«set_iterator.__next__»:=entryFor_of_fast (by kernel_rfl)
theorem Th:entryFor table "set_iterator.__iter__"=some Builtin.«dict_keyiterator.__iter__»:=
 entryFor_alias (id':="dict_keyiterator.__iter__") (by kernel_rfl) rfl (by decide+kernel) (by kernel_rfl)
theorem Ti:entryFor table "set.__iter__"=some Builtin.«frozenset.__iter__»:=
 entryFor_alias (id':="frozenset.__iter__") (by kernel_rfl) rfl (by decide+kernel) (by kernel_rfl)
theorem HY(a:X0):argsOk "set_iterator.__next__" ⟨[a],[]⟩:=by unfold argsOk;kernel_rfl
theorem Tj(a:X0):argsOk "set_iterator.__iter__" ⟨[a],[]⟩:=by unfold argsOk;kernel_rfl
theorem ers{α:Type}:∀(l:List α) (i:Nat) (h:i<l.length),(l[i]::l.eraseIdx i).Perm l
 |[],_,h=>absurd h (by simp)
 |x::xs,0,_=>.refl _
 |x::xs,i+1,h=>(List.Perm.swap x _ _).trans ((ers xs i (by simpa using h)).cons x)
section
variable{prog:Xl}{w:Xe}{A:Xq}{E:X0->X1->Prop}{s:X1}
theorem Tk{M:Model}{src:Source}{n:Nat}{Q:Nat->X1->Prop}(hn:n≠0)(h:∀i d,i<n->Q i {s with drawn:=d}):X4 M A (choose src n) Q E s:=λΓ p hΓ=>by
 unfold choose;rw[Sem.wp_choose];exact⟨hn,by rw[Sem.wp_pure];exact h _ _ (Nat.mod_lt _ (Nat.pos_of_ne_zero hn))⟩
theorem Tl{M:Model}{α:Type}:∀(n:Nat) (xs:List α) (s:X1) (Q:List α->X1->Prop),xs.length=n->(∀ys d,ys.Perm xs->Q ys {s with drawn:=d})->X4 M A (drawOrder n xs) Q E s:=by
 intro n
 induction n with
 |zero=>
  intro xs s Q hl h;unfold drawOrder;have:xs=[]:=CS.mp hl;subst this;exact Xa (h [] s.drawn (.refl _))
 |succ n ih=>
  intro xs s Q hl h;cases xs with
  |nil=>simp at hl
  |cons x xs=>
   unfold drawOrder;refine X3 (Tk (by simp) λi d hi=>?_)
   rw[X6 hi];dsimp only;refine X3 (ih _ _ _ (by rw[G6 hi];lia) λys d' hp=>Xa ?_)
   have:(((x::xs)[i])::ys).Perm (x::xs):=((List.Perm.cons _ hp).trans (ers _ _ hi));exact h _ d' this
theorem Tn{α:Type}(next:Nat->Nat):∀(n k:Nat) (left:List α) (out:Array α),left.length=n->(pickOrder.go next n k left out).toList.Perm (out.toList++left):=by
 intro n
 induction n with
 |zero=>
  intro k left out hl;have:left=[]:=CS.mp hl;subst this;unfold pickOrder.go;simp
 |succ n ih=>
  intro k left out hl;unfold pickOrder.go;have hi:next k%left.length<left.length:=Nat.mod_lt _ (by lia)
  rw[X6 hi];dsimp only;refine(ih _ _ _ (by rw[G6 hi];lia)).trans ?_
  rw[Array.toList_push,W5];exact(List.Perm.refl _).append (by simpa using ers _ _ hi)
theorem To{α:Type}(next:Nat->Nat)(xs:Array α):(pickOrder next xs).toList.Perm xs.toList:=by
 unfold pickOrder
 simpa using Tn next xs.size 0 xs.toList #[] (by simp)
end
section
variable{prog:Xl}{w:Xe}{A:Xq}{E:X0->X1->Prop}{s:X1}
noncomputable def SIt(h:Heap)(it S:Addr)(first:X0)(i n ep:Nat):Prop:=
 ∃o,h.get? it=some o/\o.cls=.type "set_iterator"/\o.data=.fields #[first,.int i 0,.ref S,.int n 0,.int ep 0]
theorem SIt.typeIs{it S:Addr}{first:X0}{i n ep:Nat}(x:SIt s.heap it S first i n ep):s.TypeIs (.ref it) "set_iterator":=let⟨o,ho,hc,_⟩:=x;⟨o,ho,hc⟩
theorem C1{h:Heap}{it:Addr}{o:Obj}{vs:Array X0}(ho:h.get? it=some o)(hd:o.data=.fields vs)(j:Nat)(v:X0):
  ∃o',(h.update it (Dm (·.setIfInBounds j v))).get? it=some o'/\o'.cls=o.cls/\o'.data=.fields (vs.setIfInBounds j v):=
 ⟨_,UO _ ho (Dk (BS hd _)),Dl ..,BS hd _⟩
noncomputable def Nx(w:Xe)(S:Addr)(es:Array (Int×X0))(ep:Nat)(t:Yw)(slot i:Nat):Option (X0×Nat):=
 if w.params.followText "set-order"=true then(pickOrder (w.params.setOrder S ep) es)[i]?.map fun e=>(e.2,slot)
 else match es[BR t.place slot]?,t.place[BR t.place slot]? with
  |some (_,x),some j=>some (x,j+1)
  |_,_=>none
theorem Tp{S:Addr}{i ep slot:Nat}{o:Obj}{es:Array (Int×X0)}{t:Yw}{Q:Option (X0×Nat)->X1->Prop}
  (hoS:s.heap.get? S=some o) (hdS:o.data=.set es ep t) (hf:t.fits es.size=true) (hw:w.params.followText "set-order"=true\/(es.size≤1/\t.led=true))
  (h:Q (Nx w S es ep t slot i) s):X4 (X8 prog w) A (setNext S slot i ep) Q E s:=by
 unfold setNext;refine X3 (VZ hoS hdS hf ?_);refine X3 (m:=setsByText) (X3 (W0 (Xa ?_)));show X4 _ _ (if w.params.followText "set-order"=true then _ else _) _ _ _;unfold Nx at h;by_cases hb:w.params.followText "set-order"=true
 ·rw[if_pos hb];rw[if_pos hb]at h;simp only[bne_self_eq_false,Yt,if_false];refine X3 ?_;unfold setWalk;refine X3 (VZ hoS hdS hf ?_);refine X3 (m:=setsByText) (X3 (W0 (Xa ?_)));show X4 _ _ (if w.params.followText "set-order"=true then _ else _) _ _ _;rw[if_pos hb];refine X3 (W0 (Xa (Xa ?_)));exact h
 ·rw[if_neg hb];rw[if_neg hb]at h;obtain⟨h1,h2⟩:=hw.resolve_left hb;have hdr:(!t.plain&&decide (es.size>1))=false:=by
   rw[decide_eq_false (by lia),Dc]
  show X4 _ _ (if(!t.plain&&decide (es.size>1))=true then _ else _) _ _ _;rw[hdr,if_neg XB];refine X3 ?_;show X4 _ _ (if(!t.led&& !es.isEmpty)=true then _ else _) _ _ _;rw[h2];simp only[Wa,UP,Yt,if_false];exact Xa (Xa h)
theorem HZ{it:Addr}{Q:Option X0->X1->Prop}{h₁:Heap}(hh:A.handled=none)(hk:Bz it s.heap h₁)
  (hQ:∀h',Bz it s.heap h'->Q none {s with heap:=h'}):
  X4 (X8 prog w) A.in1 (do let x<- newExc (.type "StopIteration") [];(raiseNew x:Sem Fin)) (fun fin s'=>∃v,fin=Fin.done (Flow.ret v)/\X4 (X8 prog w) A (pure (some v)) Q E s')
   (fun e s'=>X4 (X8 prog w) A (do let b<- isInstance e (.type "StopIteration");if b=true then pure none else throw e) Q E s') {s with heap:=h₁}:=by
 refine X3 ?_;simp only[newExc,newTuple];refine X3 (ZX ?_ (by size_fits))
 refine X3 (m:=firstArgMember _ _) (wpAny_of_eq (a:=Xw) (by first|rfl|(simp only[firstArgMember];rfl)) ?_)
 refine ZX ?_ (by size_fits)
 simp only[raiseNew];refine X3 (wpAny_handled ?_);rw[show A.in1.handled=none from hh];refine X3 (Xa (wpAny_throw ?_));refine X3 (Ui (T:="StopIteration") (b:=true) ⟨_,XQ _ rfl,rfl⟩ isSubtype_stop ?_);exact Xa (hQ _ ((hk.push _).push _))
theorem I0{it S:Addr}{i n ep slot:Nat}{o:Obj}{es:Array (Int×X0)}{t:Yw}{Q:Option X0->X1->Prop}(hh:A.handled=none)
  (hit:SIt s.heap it S (.int slot 0) i n ep) (hoS:s.heap.get? S=some o) (hdS:o.data=.set es ep t) (hf:t.fits es.size=true) (hn:es.size=n)
  (hw:w.params.followText "set-order"=true\/(es.size≤1/\t.led=true))
  (h1:∀x nx,Nx w S es ep t slot i=some (x,nx)->∀h',SIt h' it S (.int nx 0) (i+1) n ep->Um it s.heap h'->Q (some x) {s with heap:=h'})
  (h2:Nx w S es ep t slot i=none->∀h',Bz it s.heap h'->Q none {s with heap:=h'}):
  X4 (X8 prog w) A (pyNext (.ref it)) Q E s:=by
 obtain⟨oi,hoi,hci,hdi⟩:=id hit;unfold pyNext;refine X3 (wpAny_attempt (Bl (name:=XS "__next__") hit.typeIs slot_setiter_next
  (Z8 slot_setiter_next hit.typeIs HX ?_ (HY _))))
 show X4 _ _ (fieldsOf (.ref it)>>= _) _ _ s;refine X3 (wpAny_fieldsOf hoi hdi ?_);show X4 _ _ (setEntries S >>= _) _ _ s;refine X3 (wpAny_setEntries_of hoS hdS hf ?_);simp only[hn,bne_self_eq_false,Yt,if_false];refine X3 (m:=setNext _ _ _ _) ?_;simp only[Up];refine Tp hoS hdS hf hw ?_;cases hx:Nx w S es ep t slot i with
 |none=>
  dsimp only;refine X3 (Vf hoi hdi (by simp) ?_)
  exact HZ hh (U6 ..).extBut (h2 hx)
 |some p=>
  obtain⟨x,nx⟩:=p;dsimp only;obtain⟨o1,ho1,hc1,hd1⟩:=C1 hoi hdi 0 (Y1 nx);refine X3 (Vf hoi hdi (by simp) ?_)
  refine X3 (Vf ho1 hd1 (by simp) ?_)
  obtain⟨o2,ho2,hc2,hd2⟩:=C1 ho1 hd1 1 (Y1 ((i:Int)+1));refine Xa ⟨x,rfl,Xa (h1 x nx hx _ ⟨o2,ho2,hc2.trans (hc1.trans hci),?_⟩ ((U6 ..).trans (U6 ..)))⟩;rw[hd2];simp[Y1]
theorem Ia{it S P:Addr}{i n ep:Nat}{o op:Obj}{es:Array (Int×X0)}{t:Yw}{ps:Array X0}{np:Nat}{Q:Option X0->X1->Prop}(hh:A.handled=none)
  (hit:SIt s.heap it S (.ref P) i n ep) (hoS:s.heap.get? S=some o) (hdS:o.data=.set es ep t) (hf:t.fits es.size=true) (hn:es.size=n)
  (hoP:s.heap.get? P=some op) (hdP:op.data=.seq ps np)
  (h1:∀v,ps[i]?=some v->∃(p:Nat) (e:Int×X0),v=.int p 0/\es[p]?=some e/\∀h',SIt h' it S (.ref P) (i+1) n ep->Um it s.heap h'->Q (some e.2) {s with heap:=h'})
  (h2:ps[i]?=none->∀h',Bz it s.heap h'->Q none {s with heap:=h'}):
  X4 (X8 prog w) A (pyNext (.ref it)) Q E s:=by
 obtain⟨oi,hoi,hci,hdi⟩:=id hit;unfold pyNext;refine X3 (wpAny_attempt (Bl (name:=XS "__next__") hit.typeIs slot_setiter_next
  (Z8 slot_setiter_next hit.typeIs HX ?_ (HY _))))
 show X4 _ _ (fieldsOf (.ref it)>>= _) _ _ s;refine X3 (wpAny_fieldsOf hoi hdi ?_);show X4 _ _ (setEntries S >>= _) _ _ s;refine X3 (wpAny_setEntries_of hoS hdS hf ?_);simp only[hn,bne_self_eq_false,Yt,if_false];refine X3 (m:=seqItems? _) (wpAny_seqItems hoP hdP ?_);simp only[Up];cases hx:ps[i]? with
 |none=>
  dsimp only;obtain⟨o1,ho1,hc1,hd1⟩:=C1 hoi hdi 0 (Y1 0);refine X3 (Vf hoi hdi (by simp) ?_)
  refine X3 (Vf ho1 hd1 (by simp) ?_)
  refine HZ (s:=s) (it:=it) hh ?_ (h2 hx);exact Heap.SameBut.extBut (Heap.SameBut.trans (U6 _ _ _) (U6 _ _ _))
 |some v=>
  obtain⟨p,e,rfl,he,hq⟩:=h1 v hx;dsimp only;refine X3 ?_;unfold setNextDrawn;refine X3 (VZ hoS hdS hf ?_);simp only[Up,bne_self_eq_false,Yt,if_false,he];obtain⟨k,x⟩:=e;refine Xa ?_;obtain⟨o1,ho1,hc1,hd1⟩:=C1 hoi hdi 1 (Y1 ((i:Int)+1));refine X3 (Vf hoi hdi (by simp) ?_)
  refine Xa ⟨x,rfl,Xa (hq _ ⟨o1,ho1,hc1.trans hci,?_⟩ (U6 ..))⟩;rw[hd1];simp[Y1]
end
section
variable{prog:Xl}{w:Xe}{A:Xq}{E:X0->X1->Prop}{s:X1}
theorem Ib{it S:Addr}{first:X0}{i n ep:Nat}{Q:X0->X1->Prop}(hit:SIt s.heap it S first i n ep)(h:Q (.ref it) s):
  X4 (X8 prog w) A (pyIter (.ref it)) Q E s:=by
 refine wpAny_pyIter_slot hit.typeIs HW (Z8 HW hit.typeIs Th ?_ (Tj _));show X4 _ _ (ret (.ref it)) _ _ s;exact Xa ⟨_,rfl,"set_iterator",_,hit.typeIs,slot_setiter_next.lookup,h⟩
theorem SIt.at{h h':Heap}{it S:Addr}{first:X0}{i n ep:Nat}(x:SIt h it S first i n ep)(e:∀o,h.get? it=some o->h'.get? it=some o):SIt h' it S first i n ep:=
 let⟨o,ho,r⟩:=x;⟨o,e _ ho,r⟩
theorem Tq(hh:A.handled=none){I S:Addr}{n ep:Nat}{o:Obj}{es:Array (Int×X0)}{t:Yw}{vs:List X0}{Good:Nat->Nat->Prop}(hne:S≠I)
  (hdS:o.data=.set es ep t) (hf:t.fits es.size=true) (hn:es.size=n) (hw:w.params.followText "set-order"=true\/(es.size≤1/\t.led=true))
  (hg:∀i sl,Good i sl->(i<n->∃x nx,Nx w S es ep t sl i=some (x,nx)/\vs[i]?=some x/\Good (i+1) nx)/\(i=n->Nx w S es ep t sl i=none)):
  Walks prog w A I [I,S] [I] n (λi v=>vs[i]?=some v) (λi h=>∃sl,Good i sl/\SIt h I S (.int (sl:Nat) 0) i n ep/\h.get? S=some o)where
 sub:=λb hb=>by simp at hb;simp[hb]
 frame:=λ_ _ _ st hk=>let⟨sl,g,st1,st2⟩:=st;⟨sl,g,st1.at λo e=>hk I (by simp) o e,hk S (by simp) _ st2⟩
 item:=λi s Q E hi st hQ=>by
  obtain⟨sl,g,st1,st2⟩:=st;obtain⟨x,nx,e1,e2,g2⟩:=(hg i sl g).1 hi;refine I0 hh st1 st2 hdS hf hn hw (λx' nx' q h' a1 a2=>?_) (λq=>by rw[e1]at q;simp at q)
  rw[e1]at q;simp only[BH,Prod.mk.injEq]at q;obtain⟨rfl,rfl⟩:=q;exact hQ _ h' s.toks e2 ⟨_,g2,a1,(a2.2 S hne).trans st2⟩ λb o hb e=>(a2.2 b (λz=>hb (by simp[z]))).trans e
 done:=λs Q E st hQ=>by
  obtain⟨sl,g,st1,st2⟩:=st;have e1:=(hg n sl g).2 rfl;refine I0 hh st1 st2 hdS hf hn hw (λx' nx' q h' a1 a2=>by rw[e1]at q;simp at q) (λ_ h' a=>hQ h' s.toks λb o hb e=>a b o (λz=>hb (by simp[z])) e)
 self:=λ_ _ _ _ st hQ=>let⟨_,_,st1,_⟩:=st;Ib st1 hQ
theorem Tr(hh:A.handled=none){I S P:Addr}{n ep np:Nat}{o op:Obj}{es:Array (Int×X0)}{t:Yw}{js:List Nat}{vs:List X0}(hne:S≠I)(hnp:P≠I)
  (hdS:o.data=.set es ep t) (hf:t.fits es.size=true) (hn:es.size=n) (hdP:op.data=.seq (js.map λi:Nat=>Y1 i).toArray np)
  (hl:js.length=n) (hj:∀(i:Nat) (j:Nat),js[i]?=some j->∃e,es[j]?=some e/\vs[i]?=some e.2):
  Walks prog w A I [I,S,P] [I] n (λi v=>vs[i]?=some v) (λi h=>SIt h I S (.ref P) i n ep/\h.get? S=some o/\h.get? P=some op)where
 sub:=λb hb=>by simp at hb;simp[hb]
 frame:=λ_ _ _ st hk=>⟨st.1.at λo e=>hk I (by simp) o e,hk S (by simp) _ st.2.1,hk P (by simp) _ st.2.2⟩
 item:=λi s Q E hi st hQ=>by
  refine Ia hh st.1 st.2.1 hdS hf hn st.2.2 hdP (λv hv=>?_) (λq=>?_)
  ·simp only[List.getElem?_toArray,Xg,Dq]at hv;obtain⟨j,hj1,rfl⟩:=hv;obtain⟨e,he,hv⟩:=hj i j hj1;exact⟨j,e,rfl,he,λh' a1 a2=>hQ _ h' s.toks hv ⟨a1,(a2.2 S hne).trans st.2.1,(a2.2 P hnp).trans st.2.2⟩ λb o hb e=>(a2.2 b (λz=>hb (by simp[z]))).trans e⟩
  ·simp at q;lia
 done:=λs Q E st hQ=>by
  refine Ia hh st.1 st.2.1 hdS hf hn st.2.2 hdP (λv hv=>?_) (λ_ h' a=>hQ h' s.toks λb o hb e=>a b o (λz=>hb (by simp[z])) e)
  simp only[List.getElem?_toArray,Xg,Dq]at hv;obtain⟨j,hj1,rfl⟩:=hv;rw[Zw (by lia)]at hj1
  simp at hj1
 self:=λ_ _ _ _ st hQ=>Ib st.1 hQ
theorem Ts{α:Type}(es:Array α){js:List Nat}(hp:js.Perm (XN es.size)):
  ∃ys:List α,ys.Perm es.toList/\ys.length=js.length/\∀(i:Nat) (j:Nat),js[i]?=some j->∃e,es[j]?=some e/\ys[i]?=some e:=by
 have hin:∀j∈js,j<es.size:=λj hj=>Bu.mp (hp.mem_iff.mp hj);refine⟨js.filterMap λj=>es[j]?,(hp.filterMap _).trans (by rw[filterMap_getElem?_range]),?_⟩
 clear hp
 induction js with
 |nil=>exact⟨rfl,λi j h=>by simp at h⟩
 |cons j js ih=>
  have hj:=hin j Yh;obtain⟨h1,h2⟩:=ih λk hk=>hin k (Yb _ hk);rw[List.filterMap_cons_some (b:=es[j]) (by simp[hj])]
  refine⟨by simp[h1],λi k h=>?_⟩
  cases i with
  |zero=>
   simp at h;subst h;exact⟨es[j],by simp[hj],rfl⟩
  |succ i=>
   simp at h;obtain⟨e,he,hy⟩:=h2 i k h;exact⟨e,he,by simpa using hy⟩
noncomputable def Tt(prog:Xl)(w:Xe)(zs:List Str)(s₀:Heap)(S I:Addr)(h':Heap):Prop:=
 ∃(fp:List Addr) (n:Nat) (vs:List X0) (St:Nat->Heap->Prop),
  (∀A':Xq,A'.handled=none->Walks prog w A' I fp [I] n (λi v=>vs[i]?=some v) St)/\St 0 h'/\vs.length=n/\(vs.map txt).Perm zs/\(∀v∈vs,∃t,v=XE (txt v) t)/\
  (∀b∈fp,b=S\/s₀.objs.size≤b)/\s₀.objs.size≤I
theorem Ic{p:Array Nat}(h:p.size=1)(j:Nat):BR p j=if p[0]'(by lia)<j then 1 else 0:=by
 obtain⟨l⟩:=p
 match l,h with
 |[a],_=>
  show(if 0<1 then(if(#[a]:Array Nat).getD ((0+1)/2) j<j then GN #[a] j 0 ((0+1)/2+1) 1 else GN #[a] j 0 0 ((0+1)/2))else 0)=if a<j then 1 else 0;rw[if_pos (by lia)]
  rfl
theorem Tu{S:Addr}{o:Obj}{zs:List Str}{Q:X0->X1->Prop}(ho:s.heap.get? S=some o)(hS:WSet prog w o zs)
  (hQ:∀(I:Addr) (h':Heap) d,Tt prog w zs s.heap S I h'->(∀b o,s.heap.get? b=some o->h'.get? b=some o)->Q (.ref I) {s with heap:=h',drawn:=d}):
  X4 (X8 prog w) A (pyIter (.ref S)) Q E s:=by
 obtain⟨hex,es,ep,t,hd,hel,hp,hb,hf,hled,hpl⟩:=id hS;have hT:s.TypeIs (.ref S) "set":=⟨o,ho,hex.1⟩;have hSl:S<s.heap.objs.size:=Xv ho;have hsz:es.size=zs.length:=by rw[<- hp.length_eq,X2,XW]
 have hst:∀e∈es.toList,∃t,e.2=XE (txt e.2) t:=λe he=>by
  obtain⟨⟨k,hk,_⟩,_⟩:=hel e he;obtain⟨t,ht⟩:=isT.mp hk;exact⟨t,by rw[ht];rfl⟩
 have hsl:sizeLine=16777216:=by decide
 have hsb:scanBound=4096:=rfl;refine wpAny_pyIter_slot hT F.slot_set_iter (Z8 F.slot_set_iter hT Ti ?_ (F.args_set_iter_1 _));show X4 _ _ (GH S >>= _) _ _ s;refine X3 (m:=GH S) (X3 (wpAny_setEntries_of ho hd hf (Xa ?_)));refine X3 (m:=setDrawn S) ?_;unfold setDrawn;refine X3 (VZ ho hd hf ?_);refine X3 (m:=setsByText) (X3 (W0 (Xa (Xa ?_))));show X4 _ _ (if(!w.params.followText "set-order"&&(!t.plain&&decide (es.size>1)))=true then _ else _) _ _ _;have rest:∀(first:X0) (s₁:X1) (R:Fin->X1->Prop),s₁.heap.get? S=some o->
   R (.done (.ret (.ref s₁.heap.objs.size))) {s₁ with heap:=s₁.heap.push {cls:=.type "set_iterator",data:=.fields #[first,.int 0 0,.ref S,.int (es.size:Nat) 0,.int ep 0]} }->
   X4 (X8 prog w) A.in1 (do let e<- setEpoch S;let v<- newFields "set_iterator" [first,Y1 0,.ref S,Y1 (es.size:Nat),Y1 e];ret v) R E s₁:=by
  intro first s₁ R ho₁ h
  refine X3 (wpAny_setEpoch_of ho₁ hd hf ?_);exact X3 (ZX (Xa h))
 have small:∀(Good:Nat->Nat->Prop) (vs:List X0),Good 0 0->vs.length=es.size->(vs.map txt).Perm zs->(∀v∈vs,∃t,v=XE (txt v) t)->
   (w.params.followText "set-order"=true\/(es.size≤1/\t.led=true))->
   (∀i sl,Good i sl->(i<es.size->∃x nx,Nx w S es ep t sl i=some (x,nx)/\vs[i]?=some x/\Good (i+1) nx)/\(i=es.size->Nx w S es ep t sl i=none))->
   ∀(s₁:X1),s₁=s->X4 (X8 prog w) A.in1 (do let e<- setEpoch S;let v<- newFields "set_iterator" [Y1 0,Y1 0,.ref S,Y1 (es.size:Nat),Y1 e];ret v)
    (fun fin s'=>∃v,fin=Fin.done (Flow.ret v)/\∃T' r,s'.TypeIs v T'/\Vb (.type T') "__next__"=pure (some r)/\Q v s') E s₁:=by
  intro Good vs g0 hlv hpv hsv hw hg s₁ e₁;subst e₁;refine rest _ _ _ ho ⟨_,rfl,"set_iterator",_,⟨_,XQ _ rfl,rfl⟩,slot_setiter_next.lookup,?_⟩;refine hQ _ _ s₁.drawn ⟨[s₁.heap.objs.size,S],es.size,vs,_,λA' hh=>Tq hh (XC hSl) hd hf rfl hw hg,⟨0,g0,⟨_,XQ _ rfl,rfl,rfl⟩,Xr _ ho⟩,hlv,hpv,hsv,λb hb=>?_,Xh _⟩ λb o e=>Xr _ e;simp only[Xn,Y3,or_false]at hb;rcases hb with rfl|rfl
  ·exact .inr (Xh _)
  ·exact .inl rfl
 by_cases hbt:w.params.followText "set-order"=true
 ·rw[hbt];simp only[Wa,UP,Yt,if_false];refine X3 (Xa ?_);have hpk:=To (w.params.setOrder S ep) es;refine small (λ_ _=>True) ((pickOrder (w.params.setOrder S ep) es).toList.map (·.2)) trivial ?_ ?_ ?_ (.inl hbt) ?_ s rfl
  ·rw[X2,hpk.length_eq,XW]
  ·rw[Y7];exact(hpk.map _).trans hp
  ·intro v hv;obtain⟨e,he,rfl⟩:=XI.mp hv;exact hst e (hpk.mem_iff.mp he)
  ·intro i sl _;have hps:(pickOrder (w.params.setOrder S ep) es).size=es.size:=by rw[<- XW,hpk.length_eq,XW]
   unfold Nx;rw[if_pos hbt];refine⟨λhi=>?_,λhi=>?_⟩
   ·rw[UU (by lia)]
    exact⟨_,_,rfl,by simp[hps,hi],trivial⟩
   ·rw[Dg (by lia)]
    rfl
 ·have hbf:w.params.followText "set-order"=false:=by simpa using hbt
  have hlt:t.led=true:=by rw[hled,hbf];rfl
  rw[hbf];simp only[BB,Bool.true_and];by_cases h1:es.size>1
  ·have hz:zs≠ []:=λz=>by rw[z,List.length_nil]at hsz;lia
   rw[hpl hz,decide_eq_true h1];simp only[BB,Bool.and_self,if_true];refine X3 (Tl _ _ _ _ (by simp) λjs d hj=>?_)
   obtain⟨ys,hy1,hy2,hy3⟩:=Ts es hj;have hjl:js.length=es.size:=by rw[hj.length_eq,Zy]
   refine X3 (wpAny_newTuple ?_ (by rw[X2];lia))
   refine rest _ _ _ (Xr _ ho) ⟨_,rfl,"set_iterator",_,⟨_,XQ _ rfl,rfl⟩,slot_setiter_next.lookup,?_⟩;have hPne:s.heap.objs.size≠(s.heap.push {cls:=.type "tuple",data:=.seq (js.map fun i:Nat=>Y1 i).toArray}).objs.size:=by rw[U4];lia
   have hSne:S≠(s.heap.push {cls:=.type "tuple",data:=.seq (js.map fun i:Nat=>Y1 i).toArray}).objs.size:=by rw[U4];exact XC (UR hSl)
   have hIle:s.heap.objs.size≤(s.heap.push {cls:=.type "tuple",data:=.seq (js.map fun i:Nat=>Y1 i).toArray}).objs.size:=by rw[U4];lia
   refine hQ _ _ d ⟨[_,S,s.heap.objs.size],es.size,ys.map (·.2),_,λA' hh=>Tr hh (S:=S) (P:=s.heap.objs.size) (o:=o) (js:=js)
    (op:={cls:=.type "tuple",data:=.seq (js.map fun i:Nat=>Y1 i).toArray}) hSne hPne hd hf rfl rfl hjl ?_,
    ⟨⟨_,XQ _ rfl,rfl,rfl⟩,Xr _ (Xr _ ho),Xr _ (XQ _ rfl)⟩,?_,?_,?_,λb hb=>?_,?_⟩
    λb o e=>Xr _ (Xr _ e)
   ·intro i j hij;obtain⟨e,he,hy⟩:=hy3 i j hij;exact⟨e,he,by rw[Xg,hy];rfl⟩
   ·rw[X2,hy2,hjl]
   ·rw[Y7];exact(hy1.map _).trans hp
   ·intro v hv;obtain⟨e,he,rfl⟩:=XI.mp hv;exact hst e (hy1.mem_iff.mp he)
   ·simp only[Xn,Y3,or_false]at hb;rcases hb with rfl|rfl|rfl
    ·exact .inr hIle
    ·exact .inl rfl
    ·exact .inr (Xh _)
   ·exact hIle
  ·rw[decide_eq_false h1];simp only[Dc,Yt,if_false];refine X3 (Xa ?_);have hfp:t.place.size=es.size:=by
    simp only[SetTable.fits,Yd,beq_iff_eq,decide_eq_true_eq]at hf;exact hf.1
   refine small (λi sl=>(i=0->sl=0)/\(i=1->∃h:0<t.place.size,sl=t.place[0]+1)) (es.toList.map (·.2)) ⟨λ_=>rfl,λz=>absurd z (by lia)⟩ (by simp) ?_ ?_ (.inr ⟨by lia,hlt⟩) ?_ s rfl
   ·rw[Y7];exact hp
   ·intro v hv;obtain⟨e,he,rfl⟩:=XI.mp hv;exact hst e he
   ·intro i sl ⟨g0,g1⟩;unfold Nx;rw[if_neg hbt];refine⟨λhi=>?_,λhi=>?_⟩
    ·have hs1:es.size=1:=by lia
     have hi0:i=0:=by lia
     subst hi0;have hpz:t.place.size=1:=by lia
     rw[g0 rfl,Ic hpz,if_neg (by lia),UU (by lia),UU (by lia)]
     refine⟨_,_,rfl,?_,λz=>absurd z (by lia),λ_=>⟨by lia,rfl⟩⟩
     simp[hs1]
    ·have hnone:es[BR t.place sl]?=none:=by
      by_cases h0:es.size=0
      ·exact Dg (by lia)
      ·have hs1:es.size=1:=by lia
       obtain⟨hq,e⟩:=g1 (by lia)
       rw[e,Ic (by lia),if_pos (by lia)]
       exact Dg (by lia)
     rw[hnone]
end
section
variable{prog:Xl}{w:Xe}{A:Xq}{E:X0->X1->Prop}{s:X1}
theorem Tv{S:Addr}{o:Obj}{zs:List Str}{Q:List X0->X1->Prop}(hh:A.handled=none)(ho:s.heap.get? S=some o)(hS:WSet prog w o zs)
  (hQ:∀(vs:List X0) (h':Heap) (d:Drawn) (g:Array ZV) tk,(vs.map txt).Perm zs->(∀v∈vs,∃t,v=XE (txt v) t)->(∀b o,s.heap.get? b=some o->h'.get? b=some o)->g=s.gens->s.heap.objs.size≤h'.objs.size->
   Q vs {s with heap:=h',drawn:=d,gens:=g,toks:=tk}):X4 (X8 prog w) A (collect (.ref S)) Q E s:=by
 obtain⟨hex,es,ep,t,hd,hel,hp,hb,hf,hled,hpl⟩:=id hS;have hSl:S<s.heap.objs.size:=Xv ho;have hsl:sizeLine=16777216:=by decide
 have hsb:scanBound=4096:=rfl;have hsz:es.size=zs.length:=by rw[<- hp.length_eq,X2,XW]
 unfold collect;refine X3 (wpAny_runValue (Z9 F.entry_proto_collect ?_));rw[Zj F.plain_proto_collect _];show X4 _ A.in1 (newList [] >>= fun l=>again (.builtin "list.__iadd__" ⟨[l,.ref S],[]⟩)) _ _ s;refine X3 (ZX ?_);refine Xa ⟨Zg F.plain_list_iadd _,Z9 F.entry_list_iadd ?_⟩;rw[Zj F.plain_list_iadd _];show X4 _ A.in1 (GD (.ref s.heap.objs.size) (.ref S) (.ref s.heap.objs.size)) _ _ _;have hne:s.heap.objs.size≠S:=(XC hSl).symm;generalize hL:s.heap.objs.size=L at*;have hgL:(s.heap.push {cls:=.type "list",data:=.seq ([]:List X0).toArray}).get? L=some {cls:=.type "list",data:=.seq ([]:List X0).toArray}:=by
  rw[<- hL];exact XQ _ rfl
 have hgS:(s.heap.push {cls:=.type "list",data:=.seq ([]:List X0).toArray}).get? S=some o:=Xr _ ho;have hbig:(s.heap.push {cls:=.type "list",data:=.seq ([]:List X0).toArray}).objs.size=L+1:=by rw[U4,hL]
 have hold:∀b u,s.heap.get? b=some u->b≠L/\(s.heap.push {cls:=.type "list",data:=.seq ([]:List X0).toArray}).get? b=some u:=fun b u e=>
  ⟨by rw[<- hL];exact XC (Xv e),Xr _ e⟩
 generalize s.heap.push {cls:=.type "list",data:=.seq ([]:List X0).toArray}=h₁ at*;have hT:Wg {s with heap:=h₁} (.ref S) "set":=⟨o,hgS,hex.1⟩;unfold GD;refine X3 (Zt hT ?_);have e1:GE (.ref L) (.ref S)=false:=by simp[GE,hne]
 have e2:(XD "set"==XD "list")=false:=by decide
 have e3:(XD "set"==XD "tuple")=false:=by decide
 simp only[e1,e2,e3,Bool.or_false,Yt,if_false];refine X3 (Tu (s:={s with heap:=h₁}) hgS hS λI h₂ d hW hk=>?_);obtain⟨fp,n,vs,St,hWk,hst,hvn,hvp,hvs,hfp,hI⟩:=hW;have hk':∀b u,h₁.get? b=some u->h₂.get? b=some u:=hk;have hT2:Wg {s with heap:=h₂,drawn:=d} (.ref S) "set":=⟨o,hk' _ _ hgS,hex.1⟩;refine X3 (YI ?_);unfold Builtin.List.listLengthHint;refine X3 (wpAny_specialOf hT2 F.slot_set_len.lookup ?_);have hsp:splitId "set.__len__"=some ("set","__len__"):=by decide+kernel
 extract_lets j1 j2
 dsimp -zeta only;rw[hsp];dsimp -zeta only;refine X3 (Ui hT2 sub_set_self ?_);simp only[Wa,Yt,if_false];show X4 _ _ (ite (_=true) _ _) _ _ _;split
 case isFalse hs=>exact absurd (by rfl) hs
 refine X3 (Zt hT2 ?_);refine Xa ?_;split
 case isFalse hs=>exact absurd (by rfl) hs
 refine X3 (Uj ?_);refine X3 ?_;have hS₁:h₂.get? L=some {cls:=.type "list",data:=.seq ([]:List X0).toArray}:=hk' _ _ hgL;show X4 _ A.in1 (updateSeq L (·.push .none)>>= λ_=>updateSeq L (·.pop)) _ _ _;refine X3 (wpAny_updateSeq hS₁ rfl ?_);have hS₂:=UO (U8 (·.push Xw)) hS₁ rfl;refine wpAny_updateSeq hS₂ rfl ?_;have hS₃:=UO (U8 (·.pop)) hS₂ rfl;have oth:∀b o,b≠L->h₂.get? b=some o->((h₂.update L (U8 (·.push Xw))).update L (U8 (·.pop))).get? b=some o:=
  λb o hb e=>(Vk _ _ (Za hb)).trans ((Vk _ _ (Za hb)).trans e)
 have hLf:L∉fp:=λz=>by
  rcases hfp L z with e|e
  ·exact hne e
  ·have:L+1≤L:=hbig▸e;lia
 have hin:A.in1.handled=none:=by simp[hh]
 have W:=(hWk A.in1 hin).toS;have hn:n≤sizeLine:=by
  have:n=zs.length:=by rw[<- hvn,<- hvp.length_eq,X2]
  lia
 refine Xa ⟨Zg F.plain_extend_loop _,codeAny_extend_loopS W hn L hLf _ n 0 _ _ _ rfl (YL _)
  (W.frame 0 ({s with heap:=h₂,drawn:=d}:X1) _ s.toks hst (Xh _) λb hb o e=>oth b o (λz=>hLf (z▸hb)) e) hS₃ (ItemsOf.nil _) λs' acc' c' hm hS' hacc=>?_⟩
 show X4 _ A (load L >>= _) _ _ s';refine X3 (Va hS' ?_);have hav:acc'.toList=vs:=by
  refine W6 λi=>?_;by_cases hi:i<acc'.size
  ·have e:=hacc.2 i acc'[i] (by simp[hi])
   rw[e];simp[hi]
  ·rw[Zw (by simp;lia),Zw (by have:=hacc.1;lia)]
 obtain⟨h',g',d',tk',os'⟩:=s';have eg:g'=s.gens:=hm.gens;have ed:d'=d:=hm.drawn;have eo:os'=s.os:=hm.os;subst ed;subst eo;refine Xa ?_;show Q acc'.toList _;rw[hav];refine hQ vs h' _ g' tk' hvp hvs (λb u e=>?_) eg (BE (Xv hS'));have hbL:=hold b u e;refine hm.heap b u ?_ (oth b u hbL.1 (hk' b u hbL.2));simp only[Xn,Y3,or_false,not_or];refine⟨hbL.1,λz=>?_⟩;have h1:L+1≤I:=XV (Wb hbig.symm) hI;have h2:b<L:=by rw[<- hL];exact Xv e
 rw[z]at h2;exact absurd h1 (Nat.not_le_of_lt (UR h2))
theorem Tw{S:Addr}{o:Obj}{zs:List Str}{Q:X0->X1->Prop}(hh:A.handled=none)(ho:s.heap.get? S=some o)(hS:WSet prog w o zs)(h64:zs.length<64)
  (h:∀(p:Addr) (h':Heap) (d:Drawn) tk (out:List X0) (ss:List Str) (e:Nat),s.heap.objs.size≤p->(∀b o,s.heap.get? b=some o->h'.get? b=some o)->h'.get? p=some (seqObj "list" out.toArray e)->
   StrsAre out ss->ss.Perm zs->sortedS ss=true->Q (.ref p) {s with heap:=h',drawn:=d,toks:=tk}):
  X4 (X8 prog w) A (call (.builtin "sorted") [.ref S]) Q E s:=by
 refine Calls.call_function_entry kind_sorted plain_sorted entry_sorted (args_sorted1 _) ?_;unfold Builtin.«sorted»;refine X3 (m:=checkCount "sorted" 1 1 _) (Xa ?_);have hsl:sizeLine=16777216:=by decide
 refine X3 (Tv (by simp[hh]) ho hS λvs h₁ d g tk hp hv hk hg hle=>?_)
 subst hg;have hl:vs.length=zs.length:=by rw[<- hp.length_eq,X2]
 refine X3 (wpAny_newList ?_ (by lia))
 have hoL:(h₁.push (seqObj "list" vs.toArray 0)).get? h₁.objs.size=some (seqObj "list" vs.toArray 0):=XQ _ rfl;have hS':StrsAre vs (vs.map strOf):=strsAre_map vs λv hm=>by obtain⟨t,e⟩:=hv v hm;exact⟨_,t,e⟩
 have hto:vs.map strOf=vs.map txt:=List.map_congr_left λv hm=>by obtain⟨t,e⟩:=hv v hm;rw[e];rfl
 show X4 _ _ _ _ _ {s with heap:=h₁.push (seqObj "list" vs.toArray 0),drawn:=d,toks:=tk};refine X3 (YI (Z8 slot_list_sort ⟨_,hoL,rfl⟩ entry_list_sort (list_sort_treeK strKind_oneLt hoL hS'.keysOf (λv₁ v₂ rest e=>keyKind_strs (by rw[<- e];exact hS')) (by lia) λst' a1 a2=>⟨_,rfl,?_⟩) (args_list_sort _)))
 obtain⟨ss',z1,z2,z3⟩:=sorted_out_str hS' a1 a2;refine Xa ⟨_,rfl,?_⟩;obtain⟨e,he⟩:=sortedHeap_at (out:=(arrOf st').map (·.2)) hoL;refine h h₁.objs.size _ d tk ((arrOf st').map (·.2)).toList ss' e hle (λb o hb=>?_) (by rw[Array.toArray_toList];exact he) z1 (by rw[hto]at z2;exact z2.trans hp) z3
 have hb1:=hk b o hb;have hlt:b<h₁.objs.size:=Xv hb1;rw[sortedHeap_old (XC hlt) (by rw[size_push'];exact UR hlt)]
 exact Xr _ hb1
end
theorem Inv.drew{X:Cx}{pins:List (Addr×Obj)}{σ:St}{H:Hp}{s:X1}(I:Inv X pins σ H s)(d:Drawn):Inv X pins σ H {s with drawn:=d}:=
 ⟨I.ok,I.os,I.bare,I.base,I.loc,I.cell,I.free,I.freeC,I.pin,I.hok,I.len⟩
theorem few{zs:List Str}(nd:zs.Nodup):∀(N:List Str),(∀z∈zs,z∈N)->zs.length≤N.length:=by
 induction zs with
 |nil=>intro N _;exact YL _
 |cons z zs ih=>
  intro N h;rw[YF]at nd;have hz:=h z Yh;have hp:=List.perm_cons_erase hz;have:=ih nd.2 (N.erase z) λy hy=>by
   have:=hp.mem_iff.mp (h y (Yb _ hy));rcases Xn.mp this with e|e
   ·exact absurd (e▸hy) nd.1
   ·exact e
  have hl:=hp.length_eq;simp only[YJ]at hl ⊢;lia
theorem Id:∀{vs:List X0} {ss:List Str},StrsAre vs ss->Vals (ss.map V.str) vs
 |_,_,.nil=>.nil
 |_,_,.cons x t h=>.cons ⟨t,rfl⟩ (Id h)
noncomputable def Wr(X:Cx)(f g:X0)(r:V->Hp->VK->Prop):Prop:=
 ∀(pins:List (Addr×Obj)) (s:X1) (σ:St) (H:Hp) (x:V) (u:X0) (Q:VK),Inv X pins σ H s->RelV x u->r x H Q->
  X4 (X8 X.prog X.w) X.A (call g [u]) (λv s1=>X4 (X8 X.prog X.w) X.A (call f [v]) (EP X pins σ Q) X.xe s1) X.xe s
section
variable{X:Cx}
theorem DH{x y:Str}{id T:String}{r:V->Hp->VK->Prop}{e:Expr}{t:TE}{p p' pos pos':Pos}(hc:Wr X (.builtin id) (.type T) r)
  (hg:Gl X x) (hm:X.mg x=none) (hv:YD x=some (.builtin id)) (hg':Gl X y) (hm':X.mg y=none) (hv':YD y=some (.type T)) (ha:PE X e t)
  (hn:x≠"__name__") (hdb:(x==("__debug__":Str))=false) (hn':y≠"__name__") (hdb':(y==("__debug__":Str))=false)
  (he:XG [e] X.env=(false,eval e X.env)::XG [] X.env):
  PE X (.Call (.Name x p) [.Call (.Name y p') [e] [] pos'] [] pos) (λσ H Q=>t σ H λv H1=>r v H1 Q):=by
 intro pins s σ H Q I h;refine UH (ZK I hg hm hv ?_ hn hdb);refine Ge ?_ rfl rfl;show X4 _ _ (spliced ((false,eval (.Call (.Name y p') [e] [] pos') X.env)::Yq pos (XG [] X.env))) _ _ s;refine We ?_;refine UH (ZK I hg' hm' hv' ?_ hn' hdb');refine UW ?_ he rfl;rw[he];show X4 _ _ (spliced ((false,eval e X.env)::Yq pos' (XG [] X.env))) _ _ s;refine We (thn (ha pins s σ H _ I h) λu s1 ⟨v,H1,I1,r1,q1⟩=>?_);refine Wf ?_;exact thn (hc pins s1 σ H1 v u Q I1 r1 q1) λu2 s2 q2=>Wf q2
theorem Tx(hcalm:X.calm=true):Wr X (.builtin "sorted") (.type "set") (fun x H Q=>∃(a:Addr) (xs N:List Str),x=.ref a/\SqL X.K H a (xs.map V.str)/\xs.length+1<scanBound/\(∀z∈xs,z∈N)/\N.length<64/\
  ∀p (ys:List Str),H p=none->ys.Nodup->(∀y,y∈ys↔y∈xs)->sortedS ys=true->Q (.ref p) (upd H p (.lst (ys.map V.str)))):=by
 intro pins s σ H x u Q I rx h;obtain⟨a,xs,N,rfl,ha,hlen,hN,hN64,q⟩:=h;cases rx;obtain⟨its,rv,p,hz⟩:=I.list ha;have hh:=I.ok.hd hcalm;have hil:its.length=xs.length:=by rw[<- rv.length,X2]
 have hsz:its.toArray.size=xs.length:=by simp[hil]
 have hi:∀(i:Nat) (v:X0),its.toArray[i]?=some v->∃t,v=XE (xs.getD i ⟨#[]⟩) t:=λi v hv=>by
  have hv':its[i]?=some v:=by simpa using hv
  have hlt:i<xs.length:=by rw[<- hil];exact(Xx.mp hv').1
  obtain⟨u,hu,ru⟩:=rv.get (i:=i) (x:=V.str xs[i]) (by simp[hlt])
  rw[hv']at hu;cases hu;obtain⟨t,rfl⟩:=ru;exact⟨t,by simp[W9,hlt]⟩
 have hmem:∀y,y∈met (λi=>xs.getD i ⟨#[]⟩) xs.length↔y∈xs:=λy=>by
  rw[HR,List.mem_iff_getElem];constructor
  ·rintro⟨j,hj,rfl⟩;exact⟨j,hj,by simp[W9,hj]⟩
  ·rintro⟨j,hj,rfl⟩;exact⟨j,hj,by simp[W9,hj]⟩
 refine Tg (f:=λi=>xs.getD i ⟨#[]⟩) hh p.isList hi (by rw[hsz];exact hlen) λh1 tk1 o ho hS hk=>?_
 rw[hsz]at hS;have I1:Inv X pins σ H {s with heap:=h1,toks:=tk1}:=I.kept λb u e=>hk b u (Xv e) e;have nd:=HQ (λi=>xs.getD i ⟨#[]⟩) xs.length;refine Tw (s:={s with heap:=h1,toks:=tk1}) hh ho hS (Nat.lt_of_le_of_lt (few nd N λz hz=>hN z ((hmem z).mp hz)) hN64) λp2 h2 d tk2 out ss e hp hk2 hp2 ho2 hperm hsort=>?_;have hlen2:ss.length≤sizeLine:=by
  have hsl:sizeLine=16777216:=by decide
  have:=few nd N λz hz=>hN z ((hmem z).mp hz);rw[hperm.length_eq];lia
 have I2:=(I1.laid (a:=p2) (t':=tk2) (h':=h2) (o:=.lst (ss.map V.str)) (λb u e=>hk2 b u e) hp
  ⟨by rw[X2];exact hlen2,out,e,Id ho2,hp2⟩).drew d
 exact⟨.ref p2,_,I2,rfl,q p2 ss (I1.hok.fresh hp) (hperm.nodup_iff.mpr nd) (λy=>(hperm.mem_iff).trans (hmem y)) hsort⟩
end
theorem Ty:Vb (.type "list") "keys"=pure none:=by rw[Vd,Ve];kernel_rfl
theorem Tz:Vb (.type "list") "__getattr__"=pure none:=by rw[Vd,Ve];kernel_rfl
theorem VB:isSubtype (.type "AttributeError") (.type "AttributeError")=pure true:=by rw[isSubtype_type];kernel_rfl
section
variable{prog:Xl}{w:Xe}{A:Xq}{E:X0->X1->Prop}{h:Heap}{g:Array ZV}{d:Drawn}{t:Nat}{os:OsState}{a:Addr}{its:Array X0}{n:Nat}
theorem TB{tk:Tok}{Q:Fin->X1->Prop}(hx:h.get? a=some (seqObj "list" its n))(hh:A.handled=none)
  (hE:∀e h' t',(∀b o,h.get? b=some o->h'.get? b=some o)->(∃o,h'.get? e=some o/\o.cls=.type "AttributeError")->E (.ref e) ⟨h',g,d,t',os⟩):
  X4 (X8 prog w) A (Builtin.«object.__getattribute__» ⟨[.ref a,.str "keys" tk],[]⟩) Q E ⟨h,g,d,t,os⟩:=by
 have hT:(⟨h,g,d,t,os⟩:X1).TypeIs (.ref a) "list":=⟨_,hx,rfl⟩;have f4:=Ty;unfold Builtin.«object.__getattribute__»
 repeat (any_goals (first|assumption|wp_step))
 have hmsg:¬(XS (toString "'"++toString ((Vt "list").elim "list" fun x=>x.tpName)++toString "' object has no attribute '")++XS "keys"++XS "'").length>sizeLine:=by decide+kernel
 generalize(XS (toString "'"++toString ((Vt "list").elim "list" fun x=>x.tpName)++toString "' object has no attribute '")++XS "keys"++XS "'")=msg at hmsg ⊢;unfold raiseAttrError;refine X3 ?_;unfold mkStr;rw[if_neg hmsg]
 repeat (any_goals (first|assumption|wp_step))
 show X4 _ _ (isSubtype (.type "AttributeError") (.type "AttributeError")) _ _ _;rw[VB];generalize(if((Vt "AttributeError").elim false fun t=>t.mro.contains "StopIteration"||t.mro.contains "SystemExit")=true then [XE msg t].headD Xw else Xw)=fm;refine Xa ?_;simp only[Wa,Yt,if_false];have hoE:((h.push {cls:=XD "tuple",data:=Z1 #[XE msg t]}).push {cls:=XD "AttributeError",data:=ZH (#[Xy h.objs.size,Xw,Xw,Xw,Yj false,fm]++YO (XD "AttributeError") [XE msg t])}).get? (h.push {cls:=XD "tuple",data:=Z1 #[XE msg t]}).objs.size=some {cls:=XD "AttributeError",data:=ZH (#[Xy h.objs.size,Xw,Xw,Xw,Yj false,fm]++YO (XD "AttributeError") [XE msg t])}:=XQ _ rfl;have e6:(#[Xy h.objs.size,Xw,Xw,Xw,Yj false,fm]++YO (XD "AttributeError") [XE msg t])[6]?=some (.int 0 0):=rfl;have e7:(#[Xy h.objs.size,Xw,Xw,Xw,Yj false,fm]++YO (XD "AttributeError") [XE msg t])[7]?=some (.int 0 0):=rfl;have old:∀b o,h.get? b=some o->((h.push {cls:=XD "tuple",data:=Z1 #[XE msg t]}).push {cls:=XD "AttributeError",data:=ZH (#[Xy h.objs.size,Xw,Xw,Xw,Yj false,fm]++YO (XD "AttributeError") [XE msg t])}).get? b=some o/\b<(h.push {cls:=XD "tuple",data:=Z1 #[XE msg t]}).objs.size:=fun b o e=>
  ⟨Xr _ (Xr _ e),by rw[U4];exact UR (Xv e)⟩
 generalize(h.push {cls:=XD "tuple",data:=Z1 #[XE msg t]}).objs.size=ea at*;generalize((h.push {cls:=XD "tuple",data:=Z1 #[XE msg t]}).push {cls:=XD "AttributeError",data:=ZH (#[Xy h.objs.size,Xw,Xw,Xw,Yj false,fm]++YO (XD "AttributeError") [XE msg t])})=h2 at*;generalize hvs:#[Xy h.objs.size,Xw,Xw,Xw,Yj false,fm]++YO (XD "AttributeError") [XE msg t]=vs at*;refine X3 (Va hoE ?_);dsimp only;rw[e6,e7];simp only[Vl,Yt,if_false];rw[if_neg (by decide)]
 refine Xa ?_;simp only[if_true];have hT2:(⟨h2,g,d,t+1+1,os⟩:X1).TypeIs (.ref ea) "AttributeError":=⟨_,hoE,rfl⟩;refine X3 (Uj ?_);refine X3 (Zt hT2 ?_);dsimp only;unfold layMembers;refine X3 (Va hoE ?_);dsimp only;refine wpAny_update hoE ?_;unfold raiseNew;refine X3 (wpAny_handled ?_);rw[hh];show X4 _ _ (throw (Xy ea)) _ _ _;have hup:=UO (Dm fun vs=>vs.extract 0 6++#[XE (XS "keys") (t+1),Xy a]) hoE (Dk (BS rfl _));refine wpAny_throw (hE ea _ _ (λb o e=>?_) ⟨_,hup,Dl ..⟩);have:=old b o e;exact(Vk _ _ (US this.2)).trans this.1
theorem TC{tk:Tok}{Q:X0->X1->Prop}(hx:h.get? a=some (seqObj "list" its n))(hh:A.handled=none)
  (hE:∀e h' t',(∀b o,h.get? b=some o->h'.get? b=some o)->(∃o,h'.get? e=some o/\o.cls=.type "AttributeError")->E (.ref e) ⟨h',g,d,t',os⟩):
  X4 (X8 prog w) A (getAttrBy (.ref a) (.str "keys" tk) false) Q E ⟨h,g,d,t,os⟩:=by
 have hT:(⟨h,g,d,t,os⟩:X1).TypeIs (.ref a) "list":=⟨_,hx,rfl⟩;have f2:=BQ.lookup;have f3:=BQ.bind (.ref a)
 repeat (any_goals (first|assumption|wp_step))
 refine VY BQ.plain F.entry_list_ga (BQ.check _ _ _ _ _ _ _ _ hT (F.args_list_getattribute_2 _ _) (TB hx (by simp[hh]) λe h' t' k ho=>?_))
 have hTe:(⟨h',g,d,t',os⟩:X1).TypeIs (.ref e) "AttributeError":=ho;show X4 _ _ (Bq _ _ _ _ _ _ _) _ _ _;unfold Bq;refine X3 (Ui hTe VB ?_);simp only[if_true];unfold hookBehind onTheHeap;simp only[Yt,if_false];rw[Tz];refine X3 (Xa ?_);unfold hookOrError attributeErrorLeaves;simp only[BB,if_true];exact X3 (wpAny_throw (hE e h' t' k ho))
theorem TD{Q:Option X0->X1->Prop}{s:X1}(hx:s.heap.get? a=some (seqObj "list" its n))(hh:A.handled=none)
  (hQ:∀h' t',(∀b o,s.heap.get? b=some o->h'.get? b=some o)->Q none {s with heap:=h',toks:=t'}):X4 (X8 prog w) A (getAttr? (.ref a) "keys") Q E s:=by
 obtain⟨h,g,d,t,os⟩:=s;unfold getAttr? getAttrBy? mkText;refine X3 (X3 (wpAny_fresh (Xa ?_)));refine X3 (wpAny_attempt (TC hx hh λe h' t' k ho=>?_));have hTe:(⟨h',g,d,t',os⟩:X1).TypeIs (.ref e) "AttributeError":=ho;refine X3 (Ui hTe VB ?_);simp only[if_true];exact Xa (hQ h' t' k)
end
theorem Ie:entryFor table "dict.update.loop"=some Builtin.«dict.update.loop»:=entryFor_of_tree (by kernel_rfl)
theorem Ws:plainId "dict.update.loop"=true:=by decide+kernel
section
variable{prog:Xl}{w:Xe}{A:Xq}{E:X0->X1->Prop}{s:X1}{K:Type} [DecidableEq K] {knd:KeyKind prog w K}
noncomputable def stTo(ks:Nat->K)(vs:Nat->X0):Nat->List (K×X0)
 |0=>[]
 |i+1=>stored (stTo ks vs i) (ks i) (vs i)
theorem TF(kvs:List (K×X0))(k:K)(v:X0):(stored kvs k v).length≤kvs.length+1:=by
 unfold stored;split<;>simp
theorem C2(ks:Nat->K)(vs:Nat->X0):∀i,(stTo ks vs i).length≤i
 |0=>Xh _
 |i+1=>XV (TF _ _ _) (Nat.succ_le_succ (C2 ks vs i))
theorem Ig{R:Result->X1->Prop}{I:Addr}{fp wr:List Addr}{G:Array ZV->Array ZV->Prop}{n:Nat}{P:Nat->X0->Prop}{St:Nat->X1->Prop}
  (W:WalksS prog w A.in1 I fp wr G n P St) (D:Addr) (hDf:D∉fp) (ks:Nat->K) (vs:Nat->X0) (hb:n≤sizeLine):
  ∀(k i:Nat) (s:X1),n - i=k->i≤n->St i s->s.heap.DictOf knd D (stTo ks vs i)->
   (∀j v,P j v->∃q uk np oq,v=.ref q/\q≠D/\q∉wr/\s.heap.get? q=some oq/\oq.cls=.type "tuple"/\oq.data=.seq #[uk,vs j] np/\knd.is (ks j) uk=true)->
   (∀s',Moved (D::wr) G s s'->s'.heap.DictOf knd D (stTo ks vs n)->R (.ok (.ret .none)) s')->
   Z6 (X8 prog w) A (.builtin "dict.update.loop" ⟨[.ref D,.ref I,Y1 (i:Nat),.none],[]⟩) R s:=by
 have hDw:D∉wr:=λh=>hDf (W.sub _ h);have hsub:∀b∈wr,b∈D::wr:=λb hb=>Yb _ hb;intro k
 induction k with
 |zero=>
  intro i s hk hi hst hd ht hR;have hin:i=n:=by lia
  subst hin;refine Z9 Ie ?_;rw[Zj Ws _];show X4 _ A.in1 (pyNext (.ref I)>>= _) _ _ s;refine X3 (W.done s _ _ hst λs' hm=>?_);refine X3 (m:=Builtin.Dict.addKeywords D []) (Xa ?_);refine Xa (hR s' (hm.mono hsub) ?_);obtain⟨o,es,ep,ho,r⟩:=hd;exact⟨o,es,ep,hm.heap D _ hDw ho,r⟩
 |succ k ih=>
  intro i s hk hi hst hd ht hR;have hlt:i<n:=by lia
  refine Z9 Ie ?_;rw[Zj Ws _];show X4 _ A.in1 (pyNext (.ref I)>>= _) _ _ s;refine X3 (W.item i s _ _ hlt hst λv s' hP hst' hm=>?_);obtain⟨q,uk,np,oq,rfl,hqD,hqw,hq,hqc,hqd,hkey⟩:=ht i v hP;have hq':=hm.heap q _ hqw hq;have hd':s'.heap.DictOf knd D (stTo ks vs i):=by
   obtain⟨o,es,ep,ho,r⟩:=hd;exact⟨o,es,ep,hm.heap D _ hDw ho,r⟩
  have hT:s'.TypeIs (.ref q) "tuple":=⟨_,hq',hqc⟩;show X4 _ A.in1 (holding [Xy q] _ >>= _) _ _ s';refine X3 (YI ?_);refine X3 (wpAny_tryCatch ?_);unfold Builtin.Dict.pairItems;refine X3 (Zt hT ?_);have e2:(XD "tuple"==XD "tuple")=true:=rfl;rw[e2,BD,if_pos rfl];refine X3 (wpAny_seqItems hq' hqd (Xa ?_));show X4 _ A.in1 (holding [uk,vs i] (dictSet D uk (vs i))) _ _ s';refine YI ?_;have hl:=C2 ks vs i;refine wpAny_dictSet_pairs (knd:=knd) hkey hd' (λh' hd2 hsb=>?_) (by lia)
  refine Xa ⟨Zg Ws _,?_⟩;have:=ih (i+1) {s' with heap:=h',toks:=s'.toks+1} (by lia) hlt (W.frame _ s' _ _ hst' (Uo _) λb hb o e=>?_) hd2 (λj v hPj=>?_) λs'' hm'' hd''=>?_
  ·exact this
  ·rw[hsb.2 b (λz:b=D=>hDf (by rw[<- z];exact hb))];exact e
  ·obtain⟨q,uk,np,oq,rfl,a1,a2,a3,a4⟩:=ht j v hPj;exact⟨q,uk,np,oq,rfl,a1,a2,(hsb.2 q a1).trans (hm.heap q _ a2 a3),a4⟩
  ·refine hR s'' (Moved.trans W.gtrans ((hm.mono hsub).then_heap (Uo _) λb o hb e=>?_) hm'') hd'';rw[hsb.2 b (λz:b=D=>hb (by rw[z];exact Yh))];exact e
theorem TH{l:Addr}{items:Array X0}{nl:Nat}{ks:Nat->K}{vs:Nat->X0}{Q:X0->X1->Prop}(hh:A.handled=none)(hl:s.heap.get? l=some (seqObj "list" items nl))(hn:items.size≤sizeLine)
  (ht:∀(j:Nat) v,items[j]?=some v->∃q uk np oq,v=.ref q/\s.heap.get? q=some oq/\oq.cls=.type "tuple"/\oq.data=.seq #[uk,vs j] np/\knd.is (ks j) uk=true)
  (h:∀h' tk,h'.DictOf knd s.heap.objs.size (stTo ks vs items.size)->(∀b o,b<s.heap.objs.size->s.heap.get? b=some o->h'.get? b=some o)->Q (.ref s.heap.objs.size) {s with heap:=h',toks:=tk}):
  X4 (X8 prog w) A (call (.type "dict") [.ref l]) Q E s:=by
 refine callType_codes (Q₁:=fun obj s₁=>obj=.ref s.heap.objs.size/\s₁={s with heap:=s.heap.push {cls:=.type "dict",data:=.dict #[]} }) F.kt_called_dict (F.kt_typeCall_dict_1 _) F.entry_dict_init (kt_code_dict_new _ ⟨rfl,rfl⟩) ?_;rintro obj s₁ ⟨rfl,rfl⟩;have hnew:(s.heap.push {cls:=.type "dict",data:=.dict #[]}).DictOf knd s.heap.objs.size []:=Dt s.heap;have hl':(s.heap.push {cls:=.type "dict",data:=.dict #[]}).get? l=some (seqObj "list" items nl):=Xr _ hl;have hT:Wg {s with heap:=s.heap.push {cls:=.type "dict",data:=.dict #[]} } (.ref l) "list":=⟨_,hl',rfl⟩;refine⟨hnew.typeIs,F.args_dict_init_2 _ _,?_⟩;unfold Builtin.«dict.__init__»;refine X3 ?_;unfold Gk;refine X3 (Bo hnew.typeIs ?_);show X4 _ _ (pure (s.heap.objs.size,[Xy l])) _ _ _;refine Xa ?_;show X4 _ _ (BO "dict.__init__" s.heap.objs.size (.ref l) [] .none) _ _ _;unfold BO;refine X3 (Zt hT ?_);rw[if_pos (by decide)]
 refine X3 (TD (s:={s with heap:=s.heap.push {cls:=.type "dict",data:=.dict #[]} }) hl' (by simp[hh]) fun h1 t1 hk1=>?_)
 simp only[Option.isNone_none,if_true];refine X3 (Uj ?_);have hl1:h1.get? l=some (seqObj "list" items nl):=hk1 _ _ hl';have hL1:h1.IsList l items:=⟨_,hl1,rfl,nl,rfl⟩;have hlS:l<s.heap.objs.size:=Xv hl;have hbig:s.heap.objs.size<h1.objs.size:=by
  obtain⟨o,es,ep,ho,_⟩:=hnew;exact Xv (hk1 _ _ ho)
 refine X3 (Bp (s:={s with heap:=h1,toks:=t1}) hL1 ?_);have hneI:l≠h1.objs.size:=XC (UT hlS hbig);refine Xa ⟨Zg Ws _,?_⟩;refine Ig (knd:=knd) (n:=items.size) ((Walks.list (A:=A.in1.in1) (by simp[hh]) h1.objs.size l hneI items).toS) s.heap.objs.size ?_ ks vs hn items.size 0 _ rfl (YL _)
  ⟨⟨_,XQ _ rfl,rfl,rfl⟩,hL1.push _⟩ ?_ ?_ ?_
 ·simp only[Xn,Y3,or_false,not_or];exact⟨XC hbig,US hlS⟩
 ·obtain⟨o,es,ep,ho,r⟩:=hnew;exact⟨o,es,ep,Xr _ (hk1 _ _ ho),r⟩
 ·intro j v hv;obtain⟨q,uk,np,oq,rfl,a1,a2⟩:=ht j v hv;have hqS:q<s.heap.objs.size:=Xv a1;refine⟨q,uk,np,oq,rfl,XC hqS,?_,Xr _ (hk1 _ _ (Xr _ a1)),a2⟩;simp only[YE];exact XC (UT hqS hbig)
 ·intro s' hm hd;obtain⟨h',g',d',tk',os'⟩:=s';have eg:g'=s.gens:=hm.gens;have ed:d'=s.drawn:=hm.drawn;have eo:os'=s.os:=hm.os;subst eg;subst ed;subst eo;refine⟨rfl,h h' tk' hd λb o hb e=>?_⟩;refine hm.heap b o ?_ (Xr _ (hk1 _ _ (Xr _ e)));simp only[Xn,Y3,or_false,not_or];exact⟨XC hb,XC (UT hb hbig)⟩
end
noncomputable def DI(H:Hp):List (Key×V)->List V->Prop:=Paired fun(p:Key×V) (v:V)=>∃q,v=.ref q/\H q=some (.tup [kV p.1,p.2])
noncomputable def ZN(ps:List (Key×V)):List (Key×V):=ps.foldl (λc z=>putK c z.1 z.2) []
theorem Paired.at{α β:Type}{R:α->β->Prop}:∀{xs:List α} {ys:List β},Paired R xs ys->∀(i:Nat) (y:β),ys[i]?=some y->∃x,xs[i]?=some x/\R x y
 |_,_,.nil,i,y,h=>by simp at h
 |_,_,.cons r _,0,y,h=>by simp at h;subst h;exact⟨_,rfl,r⟩
 |_,_,.cons _ t,i+1,y,h=>by simp at h;obtain⟨x,hx,r⟩:=Paired.at t i y h;exact⟨x,by simpa using hx,r⟩
section
variable{X:Cx}
theorem TJ(hcalm:X.calm=true):CallR X (.type "dict") (fun xs H Q=>∃(a:Addr) (ps:List (Key×V)) (qs:List V),xs=[.ref a]/\H a=some (.lst qs)/\DI H ps qs/\∀p,H p=none->Q (.ref p) (upd H p (.dK (ZN ps)))):=by
 intro pins s σ H xs us Q I r h;obtain⟨a,ps,qs,rfl,ha,hp,q⟩:=h;obtain⟨u,rfl,ru⟩:=YM r;cases ru;obtain⟨hz,its,nl,rv,hl⟩:=(show ObjOk X.prog X.w H s.heap a (.lst qs)from I.hok a _ ha);have hh:=I.ok.hd hcalm;have hlen:its.length=ps.length:=by rw[<- rv.length,hp.length]
 have hpair:∀(j:Nat) v,its.toArray[j]?=some v->∃q uk uv np oq,v=.ref q/\s.heap.get? q=some oq/\oq.cls=.type "tuple"/\oq.data=.seq #[uk,uv] np/\∃p,ps[j]?=some p/\RelV (kV p.1) uk/\RelV p.2 uv:=fun j v hv=>by
  have hv':its[j]?=some v:=by simpa using hv
  obtain⟨y,hy,ry⟩:=Paired.at rv j v hv';obtain⟨p,hpj,q,rfl,hq⟩:=Paired.at hp j y hy;cases ry;obtain⟨_,ts,rt,ht⟩:=(show ObjOk X.prog X.w H s.heap q (.tup [kV p.1,p.2])from I.hok q _ hq);obtain⟨uk,uv,rfl,r1,r2⟩:=Vx rt;obtain⟨oq,ho,hc,n,hd⟩:=ht.1;exact⟨q,uk,uv,n,oq,rfl,ho,hc,hd,p,hpj,r1,r2⟩
 obtain⟨vs,hvs⟩:∃vs:Nat->X0,∀(j:Nat) v,its.toArray[j]?=some v->∃q uk np oq,v=.ref q/\s.heap.get? q=some oq/\oq.cls=.type "tuple"/\oq.data=.seq #[uk,vs j] np/\∃p,ps[j]?=some p/\RelV (kV p.1) uk/\RelV p.2 (vs j):=by
  refine⟨λj=>if h:j<its.length then(hpair j its[j] (by simp[h])).choose_spec.choose_spec.choose else .none,λj v hv=>?_⟩
  have hv':its[j]?=some v:=by simpa using hv
  obtain⟨hj,rfl⟩:=Xx.mp hv';dsimp only;rw[dif_pos hj];have z:=(hpair j its[j] (by simp[hj]))
  exact⟨z.choose,z.choose_spec.choose,z.choose_spec.choose_spec.choose_spec⟩
 refine TH (knd:=Yz X.prog X.w) (ks:=λj=>(ps.getD j (.inl 0,.non)).1) (vs:=vs) hh hl (by simpa [<- rv.length]using hz) (λj v hv=>?_) λh' tk hd hk=>?_
 ·obtain⟨q,uk,np,oq,e1,e2,e3,e4,p,hpj,r1,r2⟩:=hvs j v hv;refine⟨q,uk,np,oq,e1,e2,e3,e4,V0 ?_⟩;rw[Y2,hpj];exact r1
 have kv:∀i,i≤ps.length->KV ((ps.take i).foldl (λc z=>putK c z.1 z.2) []) (stTo (λj=>(ps.getD j (.inl 0,.non)).1) vs i):=by
  intro i
  induction i with
  |zero=>intro _;exact .nil
  |succ i ih=>
   intro hi;have hlt:i<its.length:=by lia
   obtain⟨q,uk,np,oq,e1,e2,e3,e4,p,hpj,r1,r2⟩:=hvs i its[i] (by simp[hlt])
   rw[ZZ,hpj,Dr,CW];show KV (putK _ p.1 p.2) (stored _ (ps.getD i (.inl 0,.non)).1 _);have ek:(ps.getD i (.inl 0,.non)).1=p.1:=by rw[Y2,hpj];rfl
   rw[ek];exact(ih (by lia)).put p.1 r2
 have kvn:=kv ps.length (Xh _);rw[W7]at kvn;have hsz:its.toArray.size=ps.length:=by simp[hlen]
 rw[hsz]at hd;have hpl:ps.length≤sizeLine:=by rw[hp.length];exact hz
 have zl:(ZN ps).length≤sizeLine:=by
  have:=kvn.length;have l2:=C2 (λj=>(ps.getD j (.inl 0,.non)).1) vs ps.length;unfold ZN;lia
 exact⟨.ref s.heap.objs.size,_,I.laid (a:=s.heap.objs.size) (o:=.dK (ZN ps)) (t':=tk) (λb u e=>hk b u (Xv e) e) (Xh _) (BZ zl (beq_eq_false_iff_ne.mpr (Za (XC I.big))) kvn hd),rfl,q _ (I.hok.fresh (Xh _))⟩
end
section
variable{X:Cx}
theorem TK:∀(bs:List Bool),((XN bs.length).all λi=>bs.getD i true)=bs.all id:=by
 intro bs;have e:(XN bs.length).map (λi=>bs.getD i true)=bs:=by
  refine List.ext_getElem (by simp) λi h1 h2=>?_
  simp[W9,h2]
 conv=>rhs;rw[<- e]
 rw[List.all_map]
 rfl
theorem TL(hcalm:X.calm=true):CallR X (.builtin "all") (fun xs H Q=>∃(a:Addr) (bs:List Bool),xs=[.ref a]/\SqL X.K H a (bs.map V.bl)/\Q (.bl (bs.all id)) H):=by
 intro pins s σ H xs us Q I r h;obtain⟨a,bs,rfl,ha,q⟩:=h;obtain⟨u,rfl,ru⟩:=YM r;cases ru;obtain⟨its,rv,p,hz⟩:=I.list ha;have hh:=I.ok.hd hcalm;have hil:its.length=bs.length:=by rw[<- rv.length,X2]
 have hit:∀(i:Nat) (v:X0),its.toArray[i]?=some v->v=.bool (bs.getD i true):=λi v hv=>by
  have hv':its[i]?=some v:=by simpa using hv
  have hlt:i<bs.length:=by rw[<- hil];exact(Xx.mp hv').1
  obtain⟨u,hu,ru⟩:=rv.get (i:=i) (x:=V.bl bs[i]) (by simp[hlt])
  rw[hv']at hu;cases hu;rw[show v=.bool bs[i]from ru];simp[W9,hlt]
 have hlS:a<s.heap.objs.size:=by obtain⟨o,n,e,_⟩:=p;exact Xv e
 refine PySem.call_all_walk (Bp p.isList ⟨_,_,_,_,_,_,λi=>bs.getD i true,rfl,Walks.list (by simp[hh]) _ a (XC hlS) its.toArray,⟨⟨_,XQ _ rfl,rfl,rfl⟩,p.isList.push _⟩,?_,λh' tk hk=>?_⟩)
 ·intro i v s Q E hP hQ;rw[hit i v hP];exact Zq hQ
 ·have hsz:its.toArray.size=bs.length:=by simp[hil]
  rw[hsz,TK];refine⟨.bl _,H,I.kept (t':=tk) λb o e=>?_,rfl,q⟩;exact hk b o (by simp only[YE];exact XC (Xv e)) (Xr _ e)
end
noncomputable def Its(x:Str):It:=⟨λi _=>i<x.cps.size,λi H v H'=>H'=H/\∃c,x.cps[i]?=some c/\v=.str ⟨#[c]⟩,λi _=>x.cps.size≤i⟩
theorem TM{P:Xl}{w:Xe}{K:X5}{tg:Expr}(it:Addr)(x:Str)(t:Tok):Turn P w K tg (Its x) [it] it (fun i h=>h.IsStrIter it "str_ascii_iterator" x t i)where
 mem:=by simp
 obj:=λi h st b hb=>by
  have e:b=it:=by simpa using hb
  subst e;obtain⟨o,e,c,d⟩:=st;exact⟨o,e,λv z=>by rw[d]at z;cases z⟩
 keep:=λi h h' st k=>by
  obtain⟨o,e,c,d⟩:=st;exact⟨o,k it (by simp) o e,c,d⟩
 item:=by
  intro X hP hw hK hc i pins s σ H E I hf st hg;subst hP hw hK;have hg:i<x.cps.size:=hg;obtain⟨f0,f1,f2,f3,f4,f5⟩:=hf it (by simp)
  refine wpAny_pyNext_ascii_item st (c:=x.cps[i]) (by simp[hg]) λh' st' sb=>?_
  have I1:Inv X pins σ H {s with heap:=h',toks:=s.toks+1}:=I.turned (λb o hb e=>(sb.2 b hb).trans e) f0 f1 f3 f4 f5;obtain⟨o,e,c,d⟩:=id st';exact⟨_,rfl,UZ (s:={s with heap:=h',toks:=s.toks+1}) e c d (by decide) ⟨.str ⟨#[x.cps[i]]⟩,H,I1,⟨_,rfl⟩,⟨rfl,_,by simp[hg],rfl⟩,st',λb hb=>(hf b hb).1⟩⟩
 done:=by
  intro X hP hw hK hc i pins s σ H E I hf st hg;subst hP hw hK;have hg:x.cps.size≤i:=hg;obtain⟨f0,f1,f2,f3,f4,f5⟩:=hf it (by simp)
  exact wpAny_pyNext_ascii_end (I.ok.hd hc) st (by simp[hg]) λh' eb=>⟨rfl,I.turned (t':=s.toks) (λb o hb e=>eb b o hb e) f0 f1 f3 f4 f5⟩
 self:=λ_ _ _ _ _ st h=>wpAny_pyIter_striter_ascii st h
theorem TN{P:Xl}{w:Xe}{K:X5}{tg:Expr}(it:Addr)(x:Str)(t:Tok):Turn P w K tg (Its x) [it] it (fun i h=>h.IsStrIter it "str_iterator" x t i)where
 mem:=by simp
 obj:=λi h st b hb=>by
  have e:b=it:=by simpa using hb
  subst e;obtain⟨o,e,c,d⟩:=st;exact⟨o,e,λv z=>by rw[d]at z;cases z⟩
 keep:=λi h h' st k=>by
  obtain⟨o,e,c,d⟩:=st;exact⟨o,k it (by simp) o e,c,d⟩
 item:=by
  intro X hP hw hK hc i pins s σ H E I hf st hg;subst hP hw hK;have hg:i<x.cps.size:=hg;obtain⟨f0,f1,f2,f3,f4,f5⟩:=hf it (by simp)
  refine wpAny_pyNext_wide_item st (c:=x.cps[i]) (by simp[hg]) λh' st' sb=>?_
  have I1:Inv X pins σ H {s with heap:=h',toks:=s.toks+1}:=I.turned (λb o hb e=>(sb.2 b hb).trans e) f0 f1 f3 f4 f5;obtain⟨o,e,c,d⟩:=id st';exact⟨_,rfl,UZ (s:={s with heap:=h',toks:=s.toks+1}) e c d (by decide) ⟨.str ⟨#[x.cps[i]]⟩,H,I1,⟨_,rfl⟩,⟨rfl,_,by simp[hg],rfl⟩,st',λb hb=>(hf b hb).1⟩⟩
 done:=by
  intro X hP hw hK hc i pins s σ H E I hf st hg;subst hP hw hK;have hg:x.cps.size≤i:=hg;obtain⟨f0,f1,f2,f3,f4,f5⟩:=hf it (by simp)
  exact wpAny_pyNext_wide_end (I.ok.hd hc) st (by simp[hg]) λh' eb=>⟨rfl,I.turned (t':=s.toks) (λb o hb e=>eb b o hb e) f0 f1 f3 f4 f5⟩
 self:=λ_ _ _ _ _ st h=>wpAny_pyIter_striter_wide st h
section
variable{X:Cx}{pins:List (Addr×Obj)}{σ:St}{H:Hp}{s:X1}
theorem TQ{tg:Expr}{R:It->Hp->Prop}{E:X0->X1->Prop}{x:Str}{t:Tok}(I:Inv X pins σ H s)(q:R (Its x) H):X4 (X8 X.prog X.w) X.A (pyIter (.str x t)) (PIE X pins σ tg R) E s:=by
 have fp:∀b∈ [s.heap.objs.size],FpOk X pins H b:=λb hb=>by
  have e:b=s.heap.objs.size:=by simpa using hb
  subst e;exact I.fpOk (Xh _) (I.hok.fresh (Xh _))
 cases ha:x.cps.all (·<128)
 ·exact wpAny_pyIter_wide ha ⟨s.heap.objs.size,[s.heap.objs.size],_,_,H,rfl,I.kept (t':=s.toks) λb o e=>Xr _ e,TN _ x t,⟨_,XQ _ rfl,rfl,rfl⟩,fp,q⟩
 ·exact wpAny_pyIter_ascii ha ⟨s.heap.objs.size,[s.heap.objs.size],_,_,H,rfl,I.kept (t':=s.toks) λb o e=>Xr _ e,TM _ x t,⟨_,XQ _ rfl,rfl,rfl⟩,fp,q⟩
noncomputable def TR(X:Cx)(tl:TE):TI:=λσ H R=>tl σ H λx H1=>(∃a,x=.ref a/\((∃xs,SqL X.K H1 a xs/\R (Itl X.K a) H1)\/(∃xs,SqT X.K H1 a xs/\R (Itt X.K a) H1)\/∃kvs,H1 a=some (.dK kvs)/\∀o,(∀o' u',X.H₀ a≠some (.frz o' u'))->R (Itd a o) (upd H1 a (.frz o (.dK kvs)))))\/
 ∃z,x=.str z/\R (Its z) H1
theorem TU{tg l:Expr}{tl:TE}(hl:PE X l tl):PI X tg l (TR X tl):=by
 intro pins s σ H R I h;refine thn (hl pins s σ H _ I h) λv s1 ⟨x,H1,I1,r1,q1⟩=>?_;rcases q1 with⟨a,e,q⟩|⟨z,e,q⟩
 ·subst e;cases r1;rcases q with⟨xs,hq,q⟩|⟨xs,hq,q⟩|⟨kvs,hq,q⟩
  ·obtain⟨its,rv,p,hz⟩:=I1.list hq;refine Bp p.isList ?_;refine⟨s1.heap.objs.size,[s1.heap.objs.size],_,_,H1,rfl,I1.kept (t':=s1.toks) λb o e=>Xr _ e,R9 a _,⟨_,XQ _ rfl,rfl,rfl⟩,λb hb=>?_,q⟩;have e:b=s1.heap.objs.size:=by simpa using hb
   subst e;exact I1.fpOk (Xh _) (I1.hok.fresh (Xh _))
  ·obtain⟨its,rv,p,hz⟩:=I1.tuple hq;refine wpAny_pyIter_tuple (show s1.heap.IsTuple a its.toArray from p) ?_;refine⟨s1.heap.objs.size,[s1.heap.objs.size],_,_,H1,rfl,I1.kept (t':=s1.toks) λb o e=>Xr _ e,Ra a _,⟨_,XQ _ rfl,rfl,rfl⟩,λb hb=>?_,q⟩;have e:b=s1.heap.objs.size:=by simpa using hb
   subst e;exact I1.fpOk (Xh _) (I1.hok.fresh (Xh _))
  ·exact Ta I1 hq q
 ·subst e;obtain⟨t,rfl⟩:=r1;exact TQ I1 q
theorem TV{M:Model}{A:Xq}{E:X0->X1->Prop}{s:X1}{Q:X0->X1->Prop}{v:X0}{b:Bool}(hv:∀i,v≠.builtin i)(h:Q (.bool (v==.bool b)) s):X4 M A (XU .Is v (.bool b)) Q E s:=by
 cases v<;>first|exact Xa h|exact absurd rfl (hv _)
theorem TW{M:Model}{A:Xq}{E:X0->X1->Prop}{s:X1}{Q:X0->X1->Prop}{v:X0}{b:Bool}(hv:∀i,v≠.builtin i)(h:Q (.bool (!(v==.bool b))) s):X4 M A (XU .IsNot v (.bool b)) Q E s:=by
 cases v<;>first|exact Xa h|exact absurd rfl (hv _)
theorem Ih{x:V}{v:X0}(r:RelV x v):∀i,v≠.builtin i:=λi e=>by
 subst e;cases x<;>first|(cases r;done)|(obtain⟨t,e⟩:=r;cases e)
theorem Ii{x:V}{v:X0}{b:Bool}(r:RelV x v):decide (x=.bl b)=(v==Yj b):=by
 cases x<;>first
  |(cases r;rename_i c;cases b<;>cases c<;>rfl)
  |(cases r;rfl)
  |(obtain⟨t,rfl⟩:=r;rfl)
theorem TX:OpR X (XU .Is) (λx y H Q=>∃b,y=.bl b/\Q (.bl (decide (x=.bl b))) H):=by
 intro pins s σ H x y v u Q I rx ry h;obtain⟨b,rfl,q⟩:=h;cases ry;exact TV (Ih rx) (XF I q (Ii rx))
theorem TY:OpR X (XU .IsNot) (λx y H Q=>∃b,y=.bl b/\Q (.bl (!decide (x=.bl b))) H):=by
 intro pins s σ H x y v u Q I rx ry h;obtain⟨b,rfl,q⟩:=h;cases ry;exact TW (Ih rx) (XF I q (by rw[Ii rx]))
theorem TZ{A:Xq}{E:X0->X1->Prop}{Q:X0->X1->Prop}{x:V}{u t c d:X0}{b b':Bool}{tp:Addr}{dd:Option Addr}{n:Nat}{sl:Array (Option X0)}(I:Inv X pins σ H s)(rx:RelV x u)(ty:TyOf X.K H x t)(e:UN X.K t c=some b)(e':UN X.K t d=some b')
  (htp:s.heap.get? tp=some ⟨.type "tuple",dd,.seq [c,d].toArray n,sl⟩) (h:∀tk,Q (.bool (b||b')) {s with toks:=tk}):X4 (X8 X.prog X.w) A (call (.builtin "isinstance") [u,.ref tp]) Q E s:=by
 have ea:By X.K t [c,d]=some (b||b'):=by
  unfold By;rw[e];cases b with
  |true=>rfl
  |false=>
   show By X.K t [d]=some b';unfold By;rw[e'];cases b'<;>rfl
 cases ty with
 |non=>cases(show u=Xw from rx);exact Zi PySem.W.kitx_none I.kIn YR htp ea (λz=>nomatch z) h
 |bl y=>cases(show u=Yj y from rx);exact Zi PySem.W.kitx_bool I.kIn YR htp ea (λz=>nomatch z) h
 |int i=>obtain⟨t,q⟩:=(show∃t,u=Wc i t from rx);cases q;exact Zi PySem.W.kitx_int I.kIn YR htp ea (λz=>nomatch z) h
 |str y=>obtain⟨t,q⟩:=(show∃t,u=XE y t from rx);cases q;exact Zi PySem.W.kitx_str I.kIn YR htp ea (λz=>nomatch z) h
 |flt y=>obtain⟨t,q⟩:=(show∃t,u=Value.float y t from rx);cases q;exact Zi PySem.W.kitx_float I.kIn YR htp ea (λz=>nomatch z) h
 | @lst a xs ea'=>
  cases(show u=Xy a from rx);obtain⟨_,_,n,_,h1⟩:=(show ObjOk X.prog X.w H s.heap a (.lst xs)from I.hok a _ ea');exact Zi Bw I.kIn ⟨_,h1,rfl⟩ htp ea (λz=>nomatch z) h
 | @frz a ob xs ea'=>
  cases(show u=Xy a from rx);obtain⟨_,_,_,n,_,h1⟩:=(show ObjOk X.prog X.w H s.heap a (.frz ob (.lst xs))from I.hok a _ ea');exact Zi Bw I.kIn ⟨_,h1,rfl⟩ htp ea (λz=>nomatch z) h
 | @tup a xs ea'=>
  cases(show u=Xy a from rx);obtain⟨_,_,_,p⟩:=(show ObjOk X.prog X.w H s.heap a (.tup xs)from I.hok a _ ea');obtain⟨o,h1,h2,_⟩:=p.1;exact Zi PySem.W.kitx_tuple I.kIn ⟨o,h1,h2⟩ htp ea (λz=>nomatch z) h
 | @dK a kvs ea'=>
  cases(show u=Xy a from rx);obtain⟨_,_,vs,_,p⟩:=(show ObjOk X.prog X.w H s.heap a (.dK kvs)from I.hok a _ ea');obtain⟨o,es,ep,h1,h2,_⟩:=p;exact Zi Bx I.kIn ⟨o,h1,h2.1⟩ htp ea (λz=>nomatch z) h
 | @dT a kvs ea'=>
  cases(show u=Xy a from rx);obtain⟨_,_,xs,_,o,es,ep,h1,h2,_⟩:=(show ObjOk X.prog X.w H s.heap a (.dT kvs)from I.hok a _ ea');exact Zi Bx I.kIn ⟨o,h1,h2.1⟩ htp ea (λz=>nomatch z) h
 | @ins a C dx fs ea' cl ha hn htk hm=>
  cases(show u=Xy a from rx);obtain⟨mA,O,_⟩:=Hh I.hok ea';obtain⟨od,J,_⟩:=O.look;exact Zi (PySem.W.kitx_own (cl.get _) cl.hd ha hn htk hm) I.kIn J htp ea (λz=>nomatch z) h
theorem ZdO:CallR X (.builtin "isinstance") (fun xs H Q=>∃x a c d t b b',xs=[x,.ref a]/\H a=some (.tup [.ty c,.ty d])/\TyOf X.K H x t/\UN X.K t (.type c)=some b/\UN X.K t (.type d)=some b'/\Q (.bl (b||b')) H):=by
 intro pins s σ H xs us Q I r h;obtain⟨x,a,c,d,t,b,b',rfl,ha,ty,e,e',q⟩:=h;obtain⟨u,w',rfl,ru,rw'⟩:=Vx r;cases rw';obtain⟨its,rv,p,_⟩:=I.tuple (SqT.of (K:=X.K) ha);obtain⟨⟨cls,dd,data,sl⟩,ho,hc,n,hd⟩:=id p;simp only at hc hd;subst hc hd;cases rv with
 |cons r1 r2=>
  cases r2 with
  |cons r3 r4=>
   cases r4;cases r1;cases r3;exact TZ I ru ty e e' ho λtk=>⟨.bl (b||b'),H,I.tok tk,rfl,q⟩
end
section
variable{X:Cx}
end
theorem Zcg:Vb (.type "tuple") "keys"=pure none:=by rw[Vd,Ve];kernel_rfl
theorem Zch:Vb (.type "tuple") "__getattr__"=pure none:=by rw[Vd,Ve];kernel_rfl
section
variable{prog:Xl}{w:Xe}{A:Xq}{E:X0->X1->Prop}{h:Heap}{g:Array ZV}{d:Drawn}{t:Nat}{os:OsState}{a:Addr}{its:Array X0}{n:Nat}{sl:Array (Option X0)}
theorem Zet{tk:Tok}{Q:Fin->X1->Prop}(hx:h.get? a=some (⟨.type "tuple",none,.seq its n,sl⟩))(hh:A.handled=none)
  (hE:∀e h' t',(∀b o,h.get? b=some o->h'.get? b=some o)->(∃o,h'.get? e=some o/\o.cls=.type "AttributeError")->E (.ref e) ⟨h',g,d,t',os⟩):
  X4 (X8 prog w) A (Builtin.«object.__getattribute__» ⟨[.ref a,.str "keys" tk],[]⟩) Q E ⟨h,g,d,t,os⟩:=by
 have hT:(⟨h,g,d,t,os⟩:X1).TypeIs (.ref a) "tuple":=⟨_,hx,rfl⟩;have f4:=Zcg;unfold Builtin.«object.__getattribute__»
 repeat (any_goals (first|assumption|wp_step))
 have hmsg:¬(XS (toString "'"++toString ((Vt "tuple").elim "tuple" fun x=>x.tpName)++toString "' object has no attribute '")++XS "keys"++XS "'").length>sizeLine:=by decide+kernel
 generalize(XS (toString "'"++toString ((Vt "tuple").elim "tuple" fun x=>x.tpName)++toString "' object has no attribute '")++XS "keys"++XS "'")=msg at hmsg ⊢;unfold raiseAttrError;refine X3 ?_;unfold mkStr;rw[if_neg hmsg]
 repeat (any_goals (first|assumption|wp_step))
 show X4 _ _ (isSubtype (.type "AttributeError") (.type "AttributeError")) _ _ _;rw[VB];generalize(if((Vt "AttributeError").elim false fun t=>t.mro.contains "StopIteration"||t.mro.contains "SystemExit")=true then [XE msg t].headD Xw else Xw)=fm;refine Xa ?_;simp only[Wa,Yt,if_false];have hoE:((h.push {cls:=XD "tuple",data:=Z1 #[XE msg t]}).push {cls:=XD "AttributeError",data:=ZH (#[Xy h.objs.size,Xw,Xw,Xw,Yj false,fm]++YO (XD "AttributeError") [XE msg t])}).get? (h.push {cls:=XD "tuple",data:=Z1 #[XE msg t]}).objs.size=some {cls:=XD "AttributeError",data:=ZH (#[Xy h.objs.size,Xw,Xw,Xw,Yj false,fm]++YO (XD "AttributeError") [XE msg t])}:=XQ _ rfl;have e6:(#[Xy h.objs.size,Xw,Xw,Xw,Yj false,fm]++YO (XD "AttributeError") [XE msg t])[6]?=some (.int 0 0):=rfl;have e7:(#[Xy h.objs.size,Xw,Xw,Xw,Yj false,fm]++YO (XD "AttributeError") [XE msg t])[7]?=some (.int 0 0):=rfl;have old:∀b o,h.get? b=some o->((h.push {cls:=XD "tuple",data:=Z1 #[XE msg t]}).push {cls:=XD "AttributeError",data:=ZH (#[Xy h.objs.size,Xw,Xw,Xw,Yj false,fm]++YO (XD "AttributeError") [XE msg t])}).get? b=some o/\b<(h.push {cls:=XD "tuple",data:=Z1 #[XE msg t]}).objs.size:=fun b o e=>
  ⟨Xr _ (Xr _ e),by rw[U4];exact UR (Xv e)⟩
 generalize(h.push {cls:=XD "tuple",data:=Z1 #[XE msg t]}).objs.size=ea at*;generalize((h.push {cls:=XD "tuple",data:=Z1 #[XE msg t]}).push {cls:=XD "AttributeError",data:=ZH (#[Xy h.objs.size,Xw,Xw,Xw,Yj false,fm]++YO (XD "AttributeError") [XE msg t])})=h2 at*;generalize hvs:#[Xy h.objs.size,Xw,Xw,Xw,Yj false,fm]++YO (XD "AttributeError") [XE msg t]=vs at*;refine X3 (Va hoE ?_);dsimp only;rw[e6,e7];simp only[Vl,Yt,if_false];rw[if_neg (by decide)]
 refine Xa ?_;simp only[if_true];have hT2:(⟨h2,g,d,t+1+1,os⟩:X1).TypeIs (.ref ea) "AttributeError":=⟨_,hoE,rfl⟩;refine X3 (Uj ?_);refine X3 (Zt hT2 ?_);dsimp only;unfold layMembers;refine X3 (Va hoE ?_);dsimp only;refine wpAny_update hoE ?_;unfold raiseNew;refine X3 (wpAny_handled ?_);rw[hh];show X4 _ _ (throw (Xy ea)) _ _ _;have hup:=UO (Dm fun vs=>vs.extract 0 6++#[XE (XS "keys") (t+1),Xy a]) hoE (Dk (BS rfl _));refine wpAny_throw (hE ea _ _ (λb o e=>?_) ⟨_,hup,Dl ..⟩);have:=old b o e;exact(Vk _ _ (US this.2)).trans this.1
theorem Zjn{tk:Tok}{Q:X0->X1->Prop}(hx:h.get? a=some (⟨.type "tuple",none,.seq its n,sl⟩))(hh:A.handled=none)
  (hE:∀e h' t',(∀b o,h.get? b=some o->h'.get? b=some o)->(∃o,h'.get? e=some o/\o.cls=.type "AttributeError")->E (.ref e) ⟨h',g,d,t',os⟩):
  X4 (X8 prog w) A (getAttrBy (.ref a) (.str "keys" tk) false) Q E ⟨h,g,d,t,os⟩:=by
 have hT:(⟨h,g,d,t,os⟩:X1).TypeIs (.ref a) "tuple":=⟨_,hx,rfl⟩;have f2:=BP.lookup;have f3:=BP.bind (.ref a)
 repeat (any_goals (first|assumption|wp_step))
 refine VY BP.plain F.entry_tuple_ga (BP.check _ _ _ _ _ _ _ _ hT (F.args_tuple_getattribute_2 _ _) (Zet hx (by simp[hh]) λe h' t' k ho=>?_))
 have hTe:(⟨h',g,d,t',os⟩:X1).TypeIs (.ref e) "AttributeError":=ho;show X4 _ _ (Bq _ _ _ _ _ _ _) _ _ _;unfold Bq;refine X3 (Ui hTe VB ?_);simp only[if_true];unfold hookBehind onTheHeap;simp only[Yt,if_false];rw[Zch];refine X3 (Xa ?_);unfold hookOrError attributeErrorLeaves;simp only[BB,if_true];exact X3 (wpAny_throw (hE e h' t' k ho))
theorem Zg0{Q:Option X0->X1->Prop}{s:X1}(hx:s.heap.get? a=some (⟨.type "tuple",none,.seq its n,sl⟩))(hh:A.handled=none)
  (hQ:∀h' t',(∀b o,s.heap.get? b=some o->h'.get? b=some o)->Q none {s with heap:=h',toks:=t'}):X4 (X8 prog w) A (getAttr? (.ref a) "keys") Q E s:=by
 obtain⟨h,g,d,t,os⟩:=s;unfold getAttr? getAttrBy? mkText;refine X3 (X3 (wpAny_fresh (Xa ?_)));refine X3 (wpAny_attempt (Zjn hx hh λe h' t' k ho=>?_));have hTe:(⟨h',g,d,t',os⟩:X1).TypeIs (.ref e) "AttributeError":=ho;refine X3 (Ui hTe VB ?_);simp only[if_true];exact Xa (hQ h' t' k)
end
section
variable{prog:Xl}{w:Xe}{A:Xq}{E:X0->X1->Prop}{s:X1}{K:Type} [DecidableEq K] {knd:KeyKind prog w K}
theorem Zgk{l:Addr}{items:Array X0}{nl:Nat}{sl:Array (Option X0)}{ks:Nat->K}{vs:Nat->X0}{Q:X0->X1->Prop}(hh:A.handled=none)(hl:s.heap.get? l=some (⟨.type "tuple",none,.seq items nl,sl⟩))(hn:items.size≤sizeLine)
  (ht:∀(j:Nat) v,items[j]?=some v->∃q uk np oq,v=.ref q/\s.heap.get? q=some oq/\oq.cls=.type "tuple"/\oq.data=.seq #[uk,vs j] np/\knd.is (ks j) uk=true)
  (h:∀h' tk,h'.DictOf knd s.heap.objs.size (stTo ks vs items.size)->(∀b o,b<s.heap.objs.size->s.heap.get? b=some o->h'.get? b=some o)->Q (.ref s.heap.objs.size) {s with heap:=h',toks:=tk}):
  X4 (X8 prog w) A (call (.type "dict") [.ref l]) Q E s:=by
 refine callType_codes (Q₁:=fun obj s₁=>obj=.ref s.heap.objs.size/\s₁={s with heap:=s.heap.push {cls:=.type "dict",data:=.dict #[]} }) F.kt_called_dict (F.kt_typeCall_dict_1 _) F.entry_dict_init (kt_code_dict_new _ ⟨rfl,rfl⟩) ?_;rintro obj s₁ ⟨rfl,rfl⟩;have hnew:(s.heap.push {cls:=.type "dict",data:=.dict #[]}).DictOf knd s.heap.objs.size []:=Dt s.heap;have hl':(s.heap.push {cls:=.type "dict",data:=.dict #[]}).get? l=some (⟨.type "tuple",none,.seq items nl,sl⟩):=Xr _ hl;have hT:Wg {s with heap:=s.heap.push {cls:=.type "dict",data:=.dict #[]} } (.ref l) "tuple":=⟨_,hl',rfl⟩;refine⟨hnew.typeIs,F.args_dict_init_2 _ _,?_⟩;unfold Builtin.«dict.__init__»;refine X3 ?_;unfold Gk;refine X3 (Bo hnew.typeIs ?_);show X4 _ _ (pure (s.heap.objs.size,[Xy l])) _ _ _;refine Xa ?_;show X4 _ _ (BO "dict.__init__" s.heap.objs.size (.ref l) [] .none) _ _ _;unfold BO;refine X3 (Zt hT ?_);rw[if_pos (by decide)]
 refine X3 (Zg0 (s:={s with heap:=s.heap.push {cls:=.type "dict",data:=.dict #[]} }) hl' (by simp[hh]) fun h1 t1 hk1=>?_)
 simp only[Option.isNone_none,if_true];refine X3 (Uj ?_);have hl1:h1.get? l=some (⟨.type "tuple",none,.seq items nl,sl⟩):=hk1 _ _ hl';have hL1:h1.IsTuple l items:=⟨_,hl1,rfl,nl,rfl⟩;have hlS:l<s.heap.objs.size:=Xv hl;have hbig:s.heap.objs.size<h1.objs.size:=by
  obtain⟨o,es,ep,ho,_⟩:=hnew;exact Xv (hk1 _ _ ho)
 refine X3 (wpAny_pyIter_tuple (s:={s with heap:=h1,toks:=t1}) hL1 ?_);have hneI:l≠h1.objs.size:=XC (UT hlS hbig);refine Xa ⟨Zg Ws _,?_⟩;refine Ig (knd:=knd) (n:=items.size) ((Walks.tuple (A:=A.in1.in1) (by simp[hh]) h1.objs.size l hneI items).toS) s.heap.objs.size ?_ ks vs hn items.size 0 _ rfl (YL _)
  ⟨⟨_,XQ _ rfl,rfl,rfl⟩,hL1.push _⟩ ?_ ?_ ?_
 ·simp only[Xn,Y3,or_false,not_or];exact⟨XC hbig,US hlS⟩
 ·obtain⟨o,es,ep,ho,r⟩:=hnew;exact⟨o,es,ep,Xr _ (hk1 _ _ ho),r⟩
 ·intro j v hv;obtain⟨q,uk,np,oq,rfl,a1,a2⟩:=ht j v hv;have hqS:q<s.heap.objs.size:=Xv a1;refine⟨q,uk,np,oq,rfl,XC hqS,?_,Xr _ (hk1 _ _ (Xr _ a1)),a2⟩;simp only[YE];exact XC (UT hqS hbig)
 ·intro s' hm hd;obtain⟨h',g',d',tk',os'⟩:=s';have eg:g'=s.gens:=hm.gens;have ed:d'=s.drawn:=hm.drawn;have eo:os'=s.os:=hm.os;subst eg;subst ed;subst eo;refine⟨rfl,h h' tk' hd λb o hb e=>?_⟩;refine hm.heap b o ?_ (Xr _ (hk1 _ _ (Xr _ e)));simp only[Xn,Y3,or_false,not_or];exact⟨XC hb,XC (UT hb hbig)⟩
end
section
variable{X:Cx}
theorem ZeU(hcalm:X.calm=true):CallR X (.type "dict") (fun xs H Q=>∃(a:Addr) (ps:List (Key×V)) (qs:List V),xs=[.ref a]/\H a=some (.tup qs)/\DI H ps qs/\∀p,H p=none->Q (.ref p) (upd H p (.dK (ZN ps)))):=by
 intro pins s σ H xs us Q I r h;obtain⟨a,ps,qs,rfl,ha,hp,q⟩:=h;obtain⟨u,rfl,ru⟩:=YM r;cases ru;obtain⟨hz,its,rv,⟨ol,hl,hlc,nl,hld⟩,ol2,hl2,hdn⟩:=(show ObjOk X.prog X.w H s.heap a (.tup qs)from I.hok a _ ha);have hh:=I.ok.hd hcalm;rw[hl]at hl2;cases hl2;obtain⟨lc,ldc,ld,lsl⟩:=ol;cases hlc;cases hld;cases hdn;have hlen:its.length=ps.length:=by rw[<- rv.length,hp.length]
 have hpair:∀(j:Nat) v,its.toArray[j]?=some v->∃q uk uv np oq,v=.ref q/\s.heap.get? q=some oq/\oq.cls=.type "tuple"/\oq.data=.seq #[uk,uv] np/\∃p,ps[j]?=some p/\RelV (kV p.1) uk/\RelV p.2 uv:=fun j v hv=>by
  have hv':its[j]?=some v:=by simpa using hv
  obtain⟨y,hy,ry⟩:=Paired.at rv j v hv';obtain⟨p,hpj,q,rfl,hq⟩:=Paired.at hp j y hy;cases ry;obtain⟨_,ts,rt,ht⟩:=(show ObjOk X.prog X.w H s.heap q (.tup [kV p.1,p.2])from I.hok q _ hq);obtain⟨uk,uv,rfl,r1,r2⟩:=Vx rt;obtain⟨oq,ho,hc,n,hd⟩:=ht.1;exact⟨q,uk,uv,n,oq,rfl,ho,hc,hd,p,hpj,r1,r2⟩
 obtain⟨vs,hvs⟩:∃vs:Nat->X0,∀(j:Nat) v,its.toArray[j]?=some v->∃q uk np oq,v=.ref q/\s.heap.get? q=some oq/\oq.cls=.type "tuple"/\oq.data=.seq #[uk,vs j] np/\∃p,ps[j]?=some p/\RelV (kV p.1) uk/\RelV p.2 (vs j):=by
  refine⟨λj=>if h:j<its.length then(hpair j its[j] (by simp[h])).choose_spec.choose_spec.choose else .none,λj v hv=>?_⟩
  have hv':its[j]?=some v:=by simpa using hv
  obtain⟨hj,rfl⟩:=Xx.mp hv';dsimp only;rw[dif_pos hj];have z:=(hpair j its[j] (by simp[hj]))
  exact⟨z.choose,z.choose_spec.choose,z.choose_spec.choose_spec.choose_spec⟩
 refine Zgk (knd:=Yz X.prog X.w) (ks:=λj=>(ps.getD j (.inl 0,.non)).1) (vs:=vs) hh hl (by simpa [<- rv.length]using hz) (λj v hv=>?_) λh' tk hd hk=>?_
 ·obtain⟨q,uk,np,oq,e1,e2,e3,e4,p,hpj,r1,r2⟩:=hvs j v hv;refine⟨q,uk,np,oq,e1,e2,e3,e4,V0 ?_⟩;rw[Y2,hpj];exact r1
 have kv:∀i,i≤ps.length->KV ((ps.take i).foldl (λc z=>putK c z.1 z.2) []) (stTo (λj=>(ps.getD j (.inl 0,.non)).1) vs i):=by
  intro i
  induction i with
  |zero=>intro _;exact .nil
  |succ i ih=>
   intro hi;have hlt:i<its.length:=by lia
   obtain⟨q,uk,np,oq,e1,e2,e3,e4,p,hpj,r1,r2⟩:=hvs i its[i] (by simp[hlt])
   rw[ZZ,hpj,Dr,CW];show KV (putK _ p.1 p.2) (stored _ (ps.getD i (.inl 0,.non)).1 _);have ek:(ps.getD i (.inl 0,.non)).1=p.1:=by rw[Y2,hpj];rfl
   rw[ek];exact(ih (by lia)).put p.1 r2
 have kvn:=kv ps.length (Xh _);rw[W7]at kvn;have hsz:its.toArray.size=ps.length:=by simp[hlen]
 rw[hsz]at hd;have hpl:ps.length≤sizeLine:=by rw[hp.length];exact hz
 have zl:(ZN ps).length≤sizeLine:=by
  have:=kvn.length;have l2:=C2 (λj=>(ps.getD j (.inl 0,.non)).1) vs ps.length;unfold ZN;lia
 exact⟨.ref s.heap.objs.size,_,I.laid (a:=s.heap.objs.size) (o:=.dK (ZN ps)) (t':=tk) (λb u e=>hk b u (Xv e) e) (Xh _) (BZ zl (beq_eq_false_iff_ne.mpr (Za (XC I.big))) kvn hd),rfl,q _ (I.hok.fresh (Xh _))⟩
end
noncomputable def cutS(x:Str)(lo hi:Option Int):Str:=⟨((x.cps.toList.drop (HT.sIx x.cps.toList.length 0 lo)).take (HT.sIx x.cps.toList.length x.cps.toList.length hi - HT.sIx x.cps.toList.length 0 lo)).toArray⟩
theorem ZjE(x:Str)(lo hi:Option Int):(cutS x lo hi).length≤x.length:=by
 unfold cutS BG;simp only[XO,XL,Uk,XW];lia
theorem Ze7(x:Str)(lo hi:Option Int):((BJ lo hi 1 x.length).filterMap (x.cps[·]?)).toArray=(cutS x lo hi).cps:=by
 obtain⟨h1,h2,h3⟩:=Dz lo hi x.length;have e:BJ lo hi 1 x.length=sliceRange (YX lo hi none x.length).1 (YX lo hi none x.length).2.1 (YX lo hi none x.length).2.2:=rfl;have el:x.cps.toList.length=x.length:=by simp[BG]
 rw[e,h1,h2,h3,sliceRange_one,pick_run];unfold cutS;rw[el]
theorem Zga{x:Str}{lo hi:Option Int}(h:(BJ lo hi 1 x.length).length=x.length):cutS x lo hi=x:=by
 obtain⟨h1,h2,h3⟩:=Dz lo hi x.length;have e:BJ lo hi 1 x.length=sliceRange (YX lo hi none x.length).1 (YX lo hi none x.length).2.1 (YX lo hi none x.length).2.2:=rfl;have el:x.cps.toList.length=x.length:=by simp[BG]
 rw[e,h1,h2,h3,sliceRange_one,X2,Zy]at h;unfold cutS;rw[el];have hb:HT.sIx x.length x.length hi≤x.length:=by
  unfold HT.sIx;cases hi with
  |none=>exact Xh _
  |some i=>dsimp only;split<;>lia
 obtain⟨cps⟩:=x;congr 1;have e0:∀(n a b:Nat),b≤n->b - a=n->n=0\/a=0:=by lia
 rcases e0 _ _ _ hb h with z|z
 ·have:cps.toList=[]:=by
   rw[<- CS];rw[XW];exact z
  simp[this];have:cps=#[]:=by apply Array.toList_inj.mp;simpa using this
  rw[this]
 ·rw[h,z,D4,YQ (by rw[XW];exact Xh _)]
section
variable{X:Cx}
noncomputable def rSlS:V->Option Int->Option Int->Hp->VK->Prop:=λx lo hi H Q=>∃z:Str,x=.str z/\z.length≤sizeLine/\Q (.str (cutS z lo hi)) H
theorem Ij{v:X0}{o:Option Int}(h:IsPart v o):∃l:Option (Int×Tok),v=partValue l/\l.map (·.1)=o:=by
 cases h with
 |none=>exact⟨none,rfl,rfl⟩
 |int i t=>exact⟨some (i,t),rfl,rfl⟩
theorem ZmV:SlR X rSlS:=by
 intro pins s σ H x v vl vu lo hi sl Q I rx hs pl pu h;obtain⟨z,rfl,hz,q⟩:=h;obtain⟨t,rfl⟩:=rx;obtain⟨l,rfl,rfl⟩:=Ij pl;obtain⟨u,rfl,rfl⟩:=Ij pu;refine⟨"str",_,slot_str_getitem.lookup,typeIs_str s z t,?_⟩;refine wpAny_getItem_str_slice (l:=l) (u:=u) (st:=none) hs rfl ?_;unfold sliceMade;by_cases hc:(((none:Option (Int×Tok)).map (·.1)).getD 1==1&&(slicePicked z l u none).length==z.length)=true
 ·rw[if_pos hc];have e:cutS z (l.map (·.1)) (u.map (·.1))=z:=by
   refine Zga ?_;rw[Yd]at hc;exact eq_of_beq hc.2
  rw[e]at q;exact⟨.str z,H,I,⟨_,rfl⟩,q⟩
 ·rw[if_neg hc];have e:(⟨((slicePicked z l u none).filterMap (z.cps[·]?)).toArray⟩:Str)=cutS z (l.map (·.1)) (u.map (·.1)):=by
   have:=Ze7 z (l.map (·.1)) (u.map (·.1));unfold slicePicked;rw[show((none:Option (Int×Tok)).map (·.1)).getD 1=(1:Int)from rfl,this]
  rw[e];exact⟨XV (ZjE _ _ _) hz,.str _,H,I.tok _,⟨_,rfl⟩,q⟩
end
theorem Ik:∀{xs:List V} {vs:List X0},xs.length=vs.length->(∀(j:Nat) x v,xs[j]?=some x->vs[j]?=some v->RelV x v)->Vals xs vs
 |[],[],_,_=>.nil
 |[],_::_,h,_=>by cases h
 |_::_,[],h,_=>by cases h
 |x::xs,v::vs,h,r=>.cons (r 0 x v rfl rfl) (Ik (by simpa using h) λj a b ha hb=>r (j+1) a b (by simpa using ha) (by simpa using hb))
theorem Zez{acc:Array X0}{n:Nat}(h:ItemsOf (λi v=>∃t,v=.int (0+i*1) t) acc n):Vals ((XN n).map λi=>V.int (i:Nat)) acc.toList:=by
 refine Ik (by rw[X2,Zy,XW];exact h.1.symm) λj x v hx hv=>?_
 obtain⟨t,rfl⟩:=h.2 j v (by simpa using hv)
 rw[Xg]at hx;cases e:(XN n)[j]? with
 |none=>rw[e]at hx;cases hx
 |some k=>
  rw[e]at hx;have hk:k=j:=by
   have:=Xx.mp e;obtain⟨_,z⟩:=this
   simpa using z.symm
  subst hk;cases hx;exact⟨t,by rw[Int.zero_add,Int.mul_one]⟩
section
variable{X:Cx}{tg:Expr}
theorem Zil(hcalm:X.calm=true):Wr X (.type "list") (.type "range") (fun x H Q=>∃n:Nat,x=.int n/\n≤1000000/\∀p,H p=none->Q (.ref p) (upd H p (.lst ((XN n).map fun i=>V.int (i:Nat))))):=by
 intro pins s σ H x u Q I rx h;obtain⟨n,rfl,hn,q⟩:=h;obtain⟨t,rfl⟩:=rx;refine call_range_1 ?_;have hl:((XN n).map λi=>V.int (i:Nat)).length≤sizeLine:=by rw[X2,Zy];exact XV hn (by decide)
 have hh:=I.ok.hd hcalm;refine call_list_range (n:=n) hh (Du ..) ?_ ?_ (by lia) λh' tk acc' c' kp e it=>?_
 ·exact small_one (by decide) (by decide) (by lia) (by lia)
 ·rw[rangeSize_one];split<;>lia
 have I1:=I.kept (h':=s.heap.push {cls:=.type "range",data:=.fields #[.int 0 s.toks,.int (n:Int) t,.int 1 (s.toks+1)]}) (t':=s.toks+1+1) fun b o e=>Xr _ e;exact⟨.ref _,_,I1.laid (t':=tk) kp (Xh _) (show ObjOk X.prog X.w _ h' _ (.lst ((XN n).map λi=>V.int (i:Nat)))from⟨hl,acc'.toList,c',Zez it,by simpa using e⟩),rfl,q _ (I1.hok.fresh (Xh _))⟩
theorem Zha{x y:Str}{id T:String}{r:V->Hp->VK->Prop}{e:Expr}{t:TE}{p p' pos pos':Pos}(hc:Wr X (.type id) (.type T) r)
  (hg:Gl X x) (hm:X.mg x=none) (hv:YD x=some (.type id)) (hg':Gl X y) (hm':X.mg y=none) (hv':YD y=some (.type T)) (ha:PE X e t)
  (hn:x≠"__name__") (hdb:(x==("__debug__":Str))=false) (hn':y≠"__name__") (hdb':(y==("__debug__":Str))=false)
  (he:XG [e] X.env=(false,eval e X.env)::XG [] X.env):
  PE X (.Call (.Name x p) [.Call (.Name y p') [e] [] pos'] [] pos) (λσ H Q=>t σ H λv H1=>r v H1 Q):=by
 intro pins s σ H Q I h;refine UH (ZK I hg hm hv ?_ hn hdb);refine UW ?_ rfl rfl;show X4 _ _ (spliced ((false,eval (.Call (.Name y p') [e] [] pos') X.env)::Yq pos (XG [] X.env))) _ _ s;refine We ?_;refine UH (ZK I hg' hm' hv' ?_ hn' hdb');refine UW ?_ he rfl;rw[he];show X4 _ _ (spliced ((false,eval e X.env)::Yq pos' (XG [] X.env))) _ _ s;refine We (thn (ha pins s σ H _ I h) λu s1 ⟨v,H1,I1,r1,q1⟩=>?_);refine Wf ?_;exact thn (hc pins s1 σ H1 v u Q I1 r1 q1) λu2 s2 q2=>Wf q2
noncomputable def Itrs(lo st:Int)(n:Nat):It:=⟨λi _=>i<n,λi H x H'=>H'=H/\x=.int (lo+i*st),λi _=>n≤i⟩
theorem Ze5{P:Xl}{w:Xe}{K:X5}{tg:Expr}(it:Addr)(lo sp:Int)(n:Nat):Turn P w K tg (Itrs lo sp n) [it] it (λi h=>IsRangeIter h it (lo+(i:Nat)*sp) ((n:Int) - (i:Nat)) sp)where
 mem:=by simp
 obj:=λi h st b hb=>by
  have e:b=it:=by simpa using hb
  subst e;exact⟨_,st,λv z=>by
   have z':ZH _=Data.cell v:=z;cases z'⟩
 keep:=λi h h' st k=>k it (by simp) _ st
 item:=by
  intro X hP hw hK hc i pins s σ H E I hf st hg;subst hP hw hK;obtain⟨f0,f1,f2,f3,f4,f5⟩:=hf it (by simp)
  have W:=Walks.range (prog:=X.prog) (w:=X.w) (I.ok.hd hc) it lo sp n;refine W.item i s _ _ hg st λv h' tk hv st' kk=>?_;obtain⟨t,rfl⟩:=hv;have I1:Inv X pins σ H {s with heap:=h',toks:=tk}:=I.turned (λb o hb e=>kk b o (by simpa using hb) e) f0 f1 f3 f4 f5
  exact⟨_,rfl,UZ (s:={s with heap:=h',toks:=tk}) (n:="range_iterator") st' rfl rfl (by decide) ⟨.int (lo+i*sp),H,I1,⟨t,rfl⟩,⟨rfl,rfl⟩,st',fun b hb=>(hf b hb).1⟩⟩
 done:=by
  intro X hP hw hK hc i pins s σ H E I hf st hg;subst hP hw hK;obtain⟨f0,f1,f2,f3,f4,f5⟩:=hf it (by simp)
  exact wpAny_pyNext_range_end (I.ok.hd hc) st (by have:n≤i:=hg;lia) λh' eb=>⟨rfl,I.turned (t':=s.toks) (λb o hb e=>eb b o hb e) f0 f1 f3 f4 f5⟩
 self:=λ_ _ _ _ _ st h=>wpAny_pyIter_rangeiter st h
noncomputable def len2(lo hi:Int):Nat:=(Vp lo hi 2).toNat
theorem ZoM(lo hi:Int):((len2 lo hi:Nat):Int)=Vp lo hi 2:=by
 unfold len2 Vp;simp only[show(2:Int)>0 by decide,if_true]
 split<;>lia
theorem ZgJ{a b:Int}(ha:0≤a)(ha':a<2^60)(hb:0≤b)(hb':b<2^60):Gg a b 2=true:=by
 unfold Gg Vp;simp only[Builtin.Range.rangeFitsLong,Yd,Bool.or_eq_true,decide_eq_true_eq,beq_iff_eq,show(2:Int)>0 by decide,if_true]
 split<;>lia
theorem ZgW{pins:List (Addr×Obj)}{σ:St}{H:Hp}{s:X1}{R:It->Hp->Prop}{E:X0->X1->Prop}{lo hi:Int}{t u v:Tok}{tk:Nat}(I:Inv X pins σ H s)(h1:0≤lo)(h2:lo<2^60)(h3:0≤hi)(h4:hi<2^60)
  (q:R (Itrs lo 2 (len2 lo hi)) H):X4 (X8 X.prog X.w) X.A (pyIter (.ref s.heap.objs.size)) (PIE X pins σ tg R) E {s with heap:=s.heap.push {cls:=.type "range",data:=.fields #[.int lo t,.int hi u,.int 2 v]},toks:=tk}:=by
 refine wpAny_pyIter_range (Du ..) (ZgJ h1 h2 h3 h4) ?_;have I1:Inv X pins σ H {s with heap:=s.heap.push {cls:=.type "range",data:=.fields #[.int lo t,.int hi u,.int 2 v]},toks:=tk}:=I.kept fun b o e=>Xr _ e;refine⟨(s.heap.push {cls:=.type "range",data:=.fields #[.int lo t,.int hi u,.int 2 v]}).objs.size,[(s.heap.push {cls:=.type "range",data:=.fields #[.int lo t,.int hi u,.int 2 v]}).objs.size],_,_,H,rfl,
  I1.kept (t':=tk) λb o e=>Xr _ e,Ze5 _ lo 2 (len2 lo hi),?_,λb hb=>?_,q⟩
 ·have e1:lo+((0:Nat):Int)*2=lo:=by simp
  have e2:((len2 lo hi:Nat):Int) - ((0:Nat):Int)=Vp lo hi 2:=by rw[ZoM];simp
  show IsRangeIter _ _ (lo+((0:Nat):Int)*2) (((len2 lo hi:Nat):Int) - ((0:Nat):Int)) 2;rw[e1,e2];exact XQ _ rfl
 ·have e:b=(s.heap.push {cls:=.type "range",data:=.fields #[.int lo t,.int hi u,.int 2 v]}).objs.size:=by simpa using hb
  subst e;exact I1.fpOk (Xh _) (I1.hok.fresh (Xh _))
noncomputable def ZpV(ta:TA):TI:=λσ H R=>ta σ H λvs H1=>∃i j:Int,vs=[.int i,.int j,.int 2]/\(0≤i/\i<2^60/\0≤j/\j<2^60)/\R (Itrs i 2 (len2 i j)) H1
theorem Zh5{a b c:Expr}{ta:TA}{p pos:Pos}(hg:Gl X "range")(hm:X.mg "range"=none)(ha:PA X [a,b,c] ta)(hs:XG [a,b,c] X.env=[(false,eval a X.env),(false,eval b X.env),(false,eval c X.env)]:=by rfl)(hs2:XG [b,c] X.env=[(false,eval b X.env),(false,eval c X.env)]:=by rfl):
  PI X tg (.Call (.Name "range" p) [a,b,c] [] pos) (ZpV ta):=by
 intro pins s σ H R I h;refine Call_ (ZK I hg hm boot_range (UW (thn (ha pos pins s σ H _ I h) λus s1 ⟨vs,H1,I1,r1,q1⟩=>?_) (by rw[hs,hs2]) (by rw[hs2];rfl)))
 obtain⟨i,j,e,⟨q1,q2,q3,q4⟩,q⟩:=q1;subst e;cases r1 with
 |cons r rr=>
  cases rr with
  |cons r' rr=>
   cases rr with
   |cons r'' rr=>
    cases rr;obtain⟨t,rfl⟩:=r;obtain⟨t',rfl⟩:=r';obtain⟨t'',rfl⟩:=r'';exact call_range_3 (by decide) (ZgW (tk:=s1.toks) I1 q1 q2 q3 q4 q) (.inl (PyProof.noPylong_small (by decide)))
end
section
variable{prog:Xl}{w:Xe}{A:Xq}{R:Result->X1->Prop}{I:Addr}{fp wr:List Addr}{n:Nat}{P:Nat->X0->Prop}{St:Nat->Heap->Prop}
end
section
variable{prog:Xl}{w:Xe}{A:Xq}{E:X0->X1->Prop}{s:X1}
end
section
variable{X:Cx}{x k:Str}{p pos kp:Pos}{e e0:Expr}{te:TE}
end
end L2
namespace HT
open PySem PySem.Spec PyProof.Rows
section
variable{prog:Xl}{w:Xe}{A:Xq}{E:X0->X1->Prop}{s:X1}
theorem tup_whole{t sl:Addr}{items:Array X0}{vl vu:X0}{lo hi:Option Int}{Q:X0->X1->Prop}(ht:IsTup s.heap t items)(hs:s.heap.IsSliceOf sl vl vu .none)(pl:IsPart vl lo)(pu:IsPart vu hi)
  (h0:sIx items.size 0 lo=0) (h1:sIx items.size items.size hi=items.size) (h:Q (.ref t) s):X4 (X8 prog w) A (getItem (.ref t) (.ref sl)) Q E s:=by
 obtain⟨os,hos,hcs,hds⟩:=id hs;have hTs:s.TypeIs (.ref sl) "slice":=⟨os,hos,hcs⟩;have hT:=ht.typeIs;unfold getItem
 try with_reducible refine YI ?_
 first|refine X3 (Xa ?_)|skip
 refine X3 (wpAny_sequenceKey hT (by decide) ?_)
 refine X3 (Bl (name:=XS "__getitem__") hT Vo (Z8 Vo hT entry_tuple_getitem ?_ (args_tuple_getitem _ _)));show X4 _ _ (Gh (.ref t)>>= _) _ _ s;refine X3 (tupleItemsOf_ ht ?_);refine X3 (Zt hTs ?_);rw[if_pos (by decide)]
 refine X3 (Hq hs pl pu ?_);rw[h0,h1];show X4 _ _ (if(((0:Nat):Int)==0&&(1:Int)==1&&(items.size - 0)==items.size)=true then _ else _) _ _ s;rw[if_pos (by simp)]
 refine X3 ?_;show X4 _ _ (Gi (.ref t)) _ _ s;unfold Gi;refine X3 (Zt hT (Xa ?_));rw[if_pos (by decide)]
 exact X3 (Uj (Xa ⟨_,rfl,Xa h⟩))
end
end HT
namespace L2
open PySem PySem.Spec PyProof.Rows
section
variable{X:Cx}
noncomputable def rSlW(K:X5):V->Option Int->Option Int->Hp->VK->Prop:=λx lo hi H Q=>∃a xs,x=.ref a/\SqT K H a xs/\HT.sIx xs.length 0 lo=0/\HT.sIx xs.length xs.length hi=xs.length/\Q (.ref a) H
theorem ZkV:SlR X (rSlW X.K):=by
 intro pins s σ H x v vl vu lo hi sl Q I rx hs pl pu h;obtain⟨a,xs,rfl,hx,h0,h1,q⟩:=h;cases rx;obtain⟨its,r,ht,hz⟩:=I.tuple hx;have hlen:its.toArray.size=xs.length:=by rw[XO];exact r.length.symm
 refine⟨"tuple",_,Vo.lookup,ht.typeIs,?_⟩;exact HT.tup_whole ht hs pl pu (by rw[hlen];exact h0) (by rw[hlen];exact h1) ⟨.ref a,H,I,rfl,q⟩
end
noncomputable def st3{α:Type}(xs:List α):List α:=(XN ((xs.length+2)/3)).filterMap λk=>xs[3*k]?
section
variable{X:Cx}{e e3:Expr}{te:TE}{p2 pos:Pos}
end
section
variable{X:Cx}
end
inductive Ty7 where|int|bool|str|list|tuple|dict|none
  deriving DecidableEq
noncomputable def Ty7.name:Ty7->String
 |.int=>"int"|.bool=>"bool"|.str=>"str"|.list=>"list"|.tuple=>"tuple"|.dict=>"dict"|.none=>"NoneType"
inductive MV where
 |non|bl (b:Bool)|int (i:Int)|str (x:Str)|tup (xs:List MV)|frl (xs:List MV)|ref (a:Addr)|ty (n:Ty7)
noncomputable def Il:HO->Bool
 |.tup _=>true
 |.frz _ (.lst _)=>true
 |_=>false
noncomputable def Kp(H H':Hp):Prop:=∀a o,H a=some o->Il o=true->H' a=some o
theorem Kp.refl(H:Hp):Kp H H:=λ_ _ h _=>h
theorem Kp.trans{H H1 H2:Hp}(a:Kp H H1)(b:Kp H1 H2):Kp H H2:=λc o h f=>b c o (a c o h f) f
theorem Kp.new{H:Hp}{p:Addr}(h:H p=none)(o:HO):Kp H (upd H p o):=λa u e _=>by rw[XJ (UY e h)];exact e
theorem Kp.upd{H:Hp}{p:Addr}{o:HO}(h:H p=some o)(f:Il o=false)(o':HO):Kp H (upd H p o'):=λa u e g=>by
 rw[XJ (GP e h (by intro z;rw[z,f]at g;cases g))];exact e
noncomputable def FrL(K:X5)(H:Hp)(a:Addr)(vs:List V):Prop:=(∃o,H a=some (.frz o (.lst vs)))\/
 ∃(o:Obj) (its:Array X0) (n:Nat),K.lookup a=some o/\o.cls=.type "list"/\o.dict=none/\o.data=.seq its n/\its.size≤sizeLine/\Vals vs its.toList
theorem FrL.sq{K:X5}{H:Hp}{a:Addr}{vs:List V}(h:FrL K H a vs):SqL K H a vs:=by
 rcases h with⟨o,h⟩|h
 ·exact .inl (.inr ⟨o,h⟩)
 ·exact .inr h
mutual
inductive RM (K:X5) (H:Hp):MV->V->Prop
 |non:RM K H .non .non
 |bl (b:Bool):RM K H (.bl b) (.bl b)
 |int (i:Int):RM K H (.int i) (.int i)
 |str (x:Str):RM K H (.str x) (.str x)
 |ref (a:Addr):RM K H (.ref a) (.ref a)
 |ty (n:Ty7):RM K H (.ty n) (.ty n.name)
 |tup {a:Addr} {xs:List MV} {vs:List V}:H a=some (.tup vs)->RMs K H xs vs->RM K H (.tup xs) (.ref a)
 |frl {a:Addr} {xs:List MV} {vs:List V}:FrL K H a vs->RMs K H xs vs->RM K H (.frl xs) (.ref a)
inductive RMs (K:X5) (H:Hp):List MV->List V->Prop
 |nil:RMs K H [] []
 |cons {x:MV} {v:V} {xs:List MV} {vs:List V}:RM K H x v->RMs K H xs vs->RMs K H (x::xs) (v::vs)
end
mutual
theorem RM.mono{K:X5}{H H':Hp}(k:Kp H H'):∀{m:MV} {v:V},RM K H m v->RM K H' m v
 |_,_,.non=>.non
 |_,_,.bl b=>.bl b
 |_,_,.int i=>.int i
 |_,_,.str x=>.str x
 |_,_,.ref a=>.ref a
 |_,_,.ty n=>.ty n
 |_,_,.tup h r=>.tup (k _ _ h rfl) (RMs.mono k r)
 |_,_,.frl h r=>.frl (by
   rcases h with⟨o,h⟩|h
   ·exact .inl ⟨o,k _ _ h rfl⟩
   ·exact .inr h) (RMs.mono k r)
theorem RMs.mono{K:X5}{H H':Hp}(k:Kp H H'):∀{m:List MV} {v:List V},RMs K H m v->RMs K H' m v
 |_,_,.nil=>.nil
 |_,_,.cons a b=>.cons (RM.mono k a) (RMs.mono k b)
end
theorem RMs.length{K:X5}{H:Hp}:∀{m:List MV} {v:List V},RMs K H m v->m.length=v.length
 |_,_,.nil=>rfl
 |_,_,.cons _ b=>by rw[YJ,YJ,b.length]
theorem RMs.get{K:X5}{H:Hp}:∀{m:List MV} {v:List V} {i:Nat} {x:MV},RMs K H m v->m[i]?=some x->∃u,v[i]?=some u/\RM K H x u
 |_,_,_,_,.nil,e=>by simp at e
 |_,_,0,_,.cons r _,e=>by simp at e;subst e;exact⟨_,rfl,r⟩
 |_,_,i+1,x,.cons _ t,e=>by
  obtain⟨u,h1,h2⟩:=RMs.get (i:=i) (x:=x) t (by simpa using e)
  exact⟨u,by simpa using h1,h2⟩
theorem RMs.get'{K:X5}{H:Hp}:∀{m:List MV} {v:List V} {i:Nat} {u:V},RMs K H m v->v[i]?=some u->∃x,m[i]?=some x/\RM K H x u
 |_,_,_,_,.nil,e=>by simp at e
 |_,_,0,_,.cons r _,e=>by simp at e;subst e;exact⟨_,rfl,r⟩
 |_,_,i+1,x,.cons _ t,e=>by
  obtain⟨u,h1,h2⟩:=RMs.get' (i:=i) (u:=x) t (by simpa using e)
  exact⟨u,by simpa using h1,h2⟩
theorem RMs.append{K:X5}{H:Hp}:∀{m m':List MV} {v v':List V},RMs K H m v->RMs K H m' v'->RMs K H (m++m') (v++v')
 |_,_,_,_,.nil,s=>s
 |_,_,_,_,.cons r t,s=>.cons r (t.append s)
theorem RMs.take{K:X5}{H:Hp}:∀{m:List MV} {v:List V} (n:Nat),RMs K H m v->RMs K H (m.take n) (v.take n)
 |_,_,0,_=>.nil
 |_,_,_+1,.nil=>.nil
 |_,_,n+1,.cons r t=>.cons r (t.take n)
theorem RMs.drop{K:X5}{H:Hp}:∀{m:List MV} {v:List V} (n:Nat),RMs K H m v->RMs K H (m.drop n) (v.drop n)
 |_,_,0,r=>r
 |_,_,_+1,.nil=>.nil
 |_,_,n+1,.cons _ t=>t.drop n
theorem RMs.set{K:X5}{H:Hp}{x:MV}{u:V}(r:RM K H x u):∀{m:List MV} {v:List V} (i:Nat),RMs K H m v->RMs K H (m.set i x) (v.set i u)
 |_,_,_,.nil=>.nil
 |_,_,0,.cons _ t=>.cons r t
 |_,_,i+1,.cons q t=>.cons q (t.set r i)
theorem RMs.ints{K:X5}{H:Hp}:∀ns:List Int,RMs K H (ns.map MV.int) (ns.map V.int)
 |[]=>.nil
 |n::r=>.cons (.int n) (RMs.ints r)
theorem RMs.ints_of{K:X5}{H:Hp}:∀{ns:List Int} {vs:List V},RMs K H (ns.map MV.int) vs->vs=ns.map V.int
 |[],_,.nil=>rfl
 |n::r,_,.cons (.int _) t=>by rw[t.ints_of];rfl
inductive MO where
 |lst (xs:List MV)|dic (kvs:List (Key×MV))|ins (c:Str) (fs:List (Str×MV))
 |fdic (o:Obj) (kvs:List (Key×MV))
noncomputable abbrev MH:=Addr->Option MO
noncomputable def updM(M:MH)(a:Addr)(o:MO):MH:=λb=>if b=a then some o else M b
theorem Xb{M:MH}{a:Addr}{o:MO}:updM M a o a=some o:=by unfold updM;rw[if_pos rfl]
theorem X9{M:MH}{a b:Addr}{o:MO}(h:b≠a):updM M a o b=M b:=by unfold updM;rw[if_neg h]
theorem C3{M:MH}{a:Addr}{o u:MO}:updM (updM M a o) a u=updM M a u:=by funext b;unfold updM;split<;>rfl
inductive RKs {κ:Type} (K:X5) (H:Hp):List (κ×MV)->List (κ×V)->Prop
 |nil:RKs K H [] []
 |cons {k:κ} {x:MV} {v:V} {xs:List (κ×MV)} {vs:List (κ×V)}:RM K H x v->RKs K H xs vs->RKs K H ((k,x)::xs) ((k,v)::vs)
theorem RKs.mono{κ:Type}{K:X5}{H H':Hp}(k:Kp H H'):∀{m:List (κ×MV)} {v:List (κ×V)},RKs K H m v->RKs K H' m v
 |_,_,.nil=>.nil
 |_,_,.cons a b=>.cons (a.mono k) (b.mono k)
theorem RKs.length{κ:Type}{K:X5}{H:Hp}:∀{m:List (κ×MV)} {v:List (κ×V)},RKs K H m v->m.length=v.length
 |_,_,.nil=>rfl
 |_,_,.cons _ b=>by rw[YJ,YJ,b.length]
section
variable{κ:Type} [DecidableEq κ]
noncomputable def valM(kvs:List (κ×MV))(k:κ):Option MV:=match kvs with
 |[]=>none
 |(j,v)::r=>if j=k then some v else valM r k
noncomputable def putM(kvs:List (κ×MV))(k:κ)(v:MV):List (κ×MV):=match kvs with
 |[]=>[(k,v)]
 |(j,u)::r=>if j=k then(j,v)::r else(j,u)::putM r k v
end
noncomputable def RO(K:X5)(H:Hp):MO->HO->Prop
 |.lst xs,.lst vs=>RMs K H xs vs
 |.dic kvs,.dK vs=>RKs K H kvs vs/\(kvs.map (·.1)).Nodup
 |.ins c fs,.ins C _ vs=>XM K XA c=some (some (.ref C))/\RKs K H fs vs
 |.fdic o kvs,.frz o' (.dK vs)=>o=o'/\RKs K H kvs vs/\(kvs.map (·.1)).Nodup
 |_,_=>False
theorem RO.mono{K:X5}{H H':Hp}(k:Kp H H'){o:MO}{u:HO}(h:RO K H o u):RO K H' o u:=by
 cases o with
 |lst xs=>cases u<;>first|exact RMs.mono k h|exact h.elim
 |dic kvs=>cases u<;>first|exact⟨h.1.mono k,h.2⟩|exact h.elim
 |ins c fs=>cases u<;>first|exact⟨h.1,h.2.mono k⟩|exact h.elim
 |fdic ob kvs=>
  cases u with
  |frz o' u=>cases u<;>first|exact⟨h.1,h.2.1.mono k,h.2.2⟩|exact h.elim
  |_=>exact h.elim
noncomputable def RH(K:X5)(M:MH)(H:Hp):Prop:=∀a o,M a=some o->∃u,H a=some u/\RO K H o u
theorem RH.free{K:X5}{M:MH}{H:Hp}(r:RH K M H){p:Addr}(h:H p=none):M p=none:=by
 cases e:M p with
 |none=>rfl
 |some o=>obtain⟨u,hu,_⟩:=r p o e;rw[hu]at h;cases h
theorem RH.lst{K:X5}{M:MH}{H:Hp}(r:RH K M H){p:Addr}{xs:List MV}(h:M p=some (.lst xs)):∃vs,H p=some (.lst vs)/\RMs K H xs vs:=by
 obtain⟨u,hu,ro⟩:=r p _ h;cases u<;>try exact ro.elim
 exact⟨_,hu,ro⟩
theorem RH.dic{K:X5}{M:MH}{H:Hp}(r:RH K M H){p:Addr}{xs:List (Key×MV)}(h:M p=some (.dic xs)):∃vs,H p=some (.dK vs)/\RKs K H xs vs/\(xs.map (·.1)).Nodup:=by
 obtain⟨u,hu,ro⟩:=r p _ h;cases u<;>try exact ro.elim
 exact⟨_,hu,ro.1,ro.2⟩
theorem RH.fdic{K:X5}{M:MH}{H:Hp}(r:RH K M H){p:Addr}{o:Obj}{xs:List (Key×MV)}(h:M p=some (.fdic o xs)):∃vs,H p=some (.frz o (.dK vs))/\RKs K H xs vs/\(xs.map (·.1)).Nodup:=by
 obtain⟨u,hu,ro⟩:=r p _ h;cases u with
 |frz o' u=>
  cases u<;>try exact ro.elim
  obtain⟨rfl,r1,r2⟩:=ro;exact⟨_,hu,r1,r2⟩
 |_=>exact ro.elim
theorem RH.put{K:X5}{M:MH}{H:Hp}(r:RH K M H){p:Addr}{u:HO}{o:MO}(k:Kp H (upd H p u))(ro:RO K (upd H p u) o u):RH K (updM M p o) (upd H p u):=by
 intro a o' e;by_cases h:a=p
 ·subst h;rw[Xb]at e;cases e;exact⟨u,ZJ,ro⟩
 ·rw[X9 h]at e;obtain⟨v,hv,rv⟩:=r a o' e;exact⟨v,by rw[XJ h];exact hv,rv.mono k⟩
theorem RH.kept{K:X5}{M:MH}{H:Hp}(r:RH K M H){p:Addr}(hp:H p=none)(u:HO):RH K M (upd H p u):=by
 intro a o' e;obtain⟨v,hv,rv⟩:=r a o' e;exact⟨v,by rw[XJ (UY hv hp)];exact hv,rv.mono (Kp.new hp u)⟩
noncomputable abbrev Sm:=List (Option MV)
noncomputable abbrev QM:=MV->MH->Prop
noncomputable abbrev TEm:=Sm->MH->QM->Prop
noncomputable abbrev TAm:=Sm->MH->(List MV->MH->Prop)->Prop
noncomputable def RS(K:X5)(H:Hp)(σm:Sm)(σ:St):Prop:=σm.length=σ.length/\∀(i:Nat) (m:MV),σm[i]?=some (some m)->∃v,σ[i]?=some (some v)/\RM K H m v
theorem RS.mono{K:X5}{H H':Hp}(k:Kp H H'){σm:Sm}{σ:St}(h:RS K H σm σ):RS K H' σm σ:=⟨h.1,λi m e=>by
 obtain⟨v,hv,r⟩:=h.2 i m e;exact⟨v,hv,r.mono k⟩⟩
theorem RS.set{K:X5}{H:Hp}{σm:Sm}{σ:St}(h:RS K H σm σ){m:MV}{v:V}(r:RM K H m v)(i:Nat):RS K H (σm.set i (some m)) (σ.set i (some v)):=by
 refine⟨by simp[h.1],λj x e=>?_⟩
 rw[UI]at e;by_cases hij:i=j
 ·subst hij;rw[if_pos rfl]at e;split at e
  ·cases e;exact⟨v,by rw[UI,if_pos rfl,if_pos (by rw[<- h.1];assumption)],r⟩
  ·cases e
 ·rw[if_neg hij]at e;obtain⟨u,hu,ru⟩:=h.2 j x e;exact⟨u,by rw[UI,if_neg hij];exact hu,ru⟩
noncomputable def Dn(K:X5)(H:Hp)(Q:VK):QM:=λm M=>∀v H',Kp H H'->RM K H' m v->RH K M H'->Q v H'
theorem Dn.on{K:X5}{H H1:Hp}{Q:VK}(k:Kp H H1){m:MV}{M:MH}(h:Dn K H Q m M):Dn K H1 Q m M:=λv H' k' r rh=>h v H' (k.trans k') r rh
noncomputable def liE(K:X5)(t:TEm):TE:=λσ H Q=>∃σm M,RS K H σm σ/\RH K M H/\t σm M (Dn K H Q)
noncomputable def liA(K:X5)(t:TAm):TA:=λσ H Q=>∃σm M,RS K H σm σ/\RH K M H/\t σm M (λms M'=>∀vs H',Kp H H'->RMs K H' ms vs->RH K M' H'->Q vs H')
noncomputable def MonE(t:TEm):Prop:=∀{σ M} {Q Q':QM},(∀m M',Q m M'->Q' m M')->t σ M Q->t σ M Q'
noncomputable def MonA(t:TAm):Prop:=∀{σ M} {Q Q':List MV->MH->Prop},(∀m M',Q m M'->Q' m M')->t σ M Q->t σ M Q'
noncomputable abbrev W1:=MV->MH->QM->Prop
noncomputable abbrev W2:=MV->MV->MH->QM->Prop
noncomputable abbrev WA:=List MV->MH->QM->Prop
noncomputable def Mon1(w:W1):Prop:=∀{x M} {Q Q':QM},(∀m M',Q m M'->Q' m M')->w x M Q->w x M Q'
noncomputable def Mon2(w:W2):Prop:=∀{x y M} {Q Q':QM},(∀m M',Q m M'->Q' m M')->w x y M Q->w x y M Q'
noncomputable def MonW(w:WA):Prop:=∀{xs M} {Q Q':QM},(∀m M',Q m M'->Q' m M')->w xs M Q->w xs M Q'
noncomputable def li1(K:X5)(w:W1):V->Hp->VK->Prop:=λx H Q=>∃mx M,RM K H mx x/\RH K M H/\w mx M (Dn K H Q)
noncomputable def li2(K:X5)(w:W2):R2:=λx y H Q=>∃mx my M,RM K H mx x/\RM K H my y/\RH K M H/\w mx my M (Dn K H Q)
noncomputable def liW(K:X5)(w:WA):List V->Hp->VK->Prop:=λxs H Q=>∃ms M,RMs K H ms xs/\RH K M H/\w ms M (Dn K H Q)
section
variable{K:X5}
theorem DJ{ta tb:TEm}{w:W2}(ma:MonE ta)(mb:MonE tb)(mw:Mon2 w){σ:St}{H:Hp}{Q:VK}
  (h:liE K (λσ M Q=>ta σ M λx M1=>tb σ M1 λy M2=>w x y M2 Q) σ H Q):tOp (li2 K w) (liE K ta) (liE K tb) σ H Q:=by
 obtain⟨σm,M,rs,rh,h⟩:=h;refine⟨σm,M,rs,rh,ma (λx M1 h1=>?_) h⟩;intro v H1 k1 r1 rh1;refine⟨σm,M1,rs.mono k1,rh1,mb (λy M2 h2=>?_) h1⟩;intro u H2 k2 r2 rh2;exact⟨x,y,M2,r1.mono k2,r2,rh2,mw (λm M' hq=>hq.on (k1.trans k2)) h2⟩
end
theorem PE.weak{X:Cx}{e:Expr}{t t':TE}(h:PE X e t)(i:∀σ H Q,t' σ H Q->t σ H Q):PE X e t':=λpins s σ H Q I q=>h pins s σ H Q I (i _ _ _ q)
theorem PT.weak{X:Cx}{e:Expr}{t t':TT}(h:PT X e t)(i:∀σ H Q,t' σ H Q->t σ H Q):PT X e t':=λpins s σ H Q I q=>h pins s σ H Q I (i _ _ _ q)
theorem PW.weak{X:Cx}{e:Expr}{t t':TT}(h:PW X e t)(i:∀σ H Q,t' σ H Q->t σ H Q):PW X e t':=λwh pins s σ H Q I q=>h wh pins s σ H Q I (i _ _ _ q)
theorem PA.weak{X:Cx}{e:List Expr}{t t':TA}(h:PA X e t)(i:∀σ H Q,t' σ H Q->t σ H Q):PA X e t':=λpos pins s σ H Q I q=>h pos pins s σ H Q I (i _ _ _ q)
theorem PS.weak{X:Cx}{e:Stmt}{t t':TS}(h:PS X e t)(i:∀D σ H,t' D σ H->t D σ H):PS X e t':=λpins s σ H D I q=>h pins s σ H D I (i _ _ _ q)
theorem PSs.weak{X:Cx}{e:List Stmt}{t t':TS}(h:PSs X e t)(i:∀D σ H,t' D σ H->t D σ H):PSs X e t':=λpins s σ H D I q=>h pins s σ H D I (i _ _ _ q)
noncomputable def wBin(op:ZW)(x y:MV)(M:MH)(Q:QM):Prop:=match op,x,y with
 |.Add,.int i,.int j=>Q (.int (i+j)) M
 |.Sub,.int i,.int j=>Q (.int (i - j)) M
 |.Mult,.int i,.int j=>CMul i j/\Q (.int (i*j)) M
 |.FloorDiv,.int i,.int j=>Wn i j/\Q (.int (i/j)) M
 |.Mod,.int i,.int j=>0<j/\Q (.int (i%j)) M
 |.LShift,.int i,.int j=>CPow i j/\Q (.int (i*2^j.toNat)) M
 |.Add,.str i,.str j=>i.length+j.length≤sizeLine/\Q (.str (i++j)) M
 |.Mult,.str z,.int i=>z.length≤16/\ -1000≤i/\i≤1000/\Q (.str (Txt.mul z i)) M
 |.Add,.tup xs,.tup ys=>xs≠ []/\xs.length+ys.length≤sizeLine/\Q (.tup (xs++ys)) M
 |_,_,_=>False
theorem Im(op:ZW):Mon2 (wBin op):=by
 intro x y M Q Q' hq h;unfold wBin at h ⊢;split at h
 all_goals first
  |exact hq _ _ h
  |exact h.elim
  |exact⟨h.1,hq _ _ h.2⟩
  |exact⟨h.1,h.2.1,hq _ _ h.2.2⟩
  |exact⟨h.1,h.2.1,h.2.2.1,hq _ _ h.2.2.2⟩
  |(obtain⟨xs,ys,h1,h2,h3,h4⟩:=h
    exact⟨xs,ys,h1,h2,h3,λp hp=>hq _ _ (h4 p hp)⟩)
  |(obtain⟨ys,h2,h3,h4⟩:=h
    exact⟨ys,h2,h3,λp hp=>hq _ _ (h4 p hp)⟩)
  |(obtain⟨ys,h2,h3,h4,h5,h6⟩:=h
    exact⟨ys,h2,h3,h4,h5,λp hp=>hq _ _ (h6 p hp)⟩)
section
variable{X:Cx}
theorem ZnS(op:ZW):OpR X (Z5 op) (li2 X.K (wBin op)):=by
 intro pins s σ H x y v u Q I rx ry h;obtain⟨mx,my,M,r1,r2,rh,h⟩:=h;unfold wBin at h;split at h
 ·cases r1;cases r2;exact Rk pins s σ H _ _ v u Q I rx ry ⟨_,_,rfl,rfl,h _ _ (Kp.refl _) (.int _) rh⟩
 ·cases r1;cases r2;exact Rm pins s σ H _ _ v u Q I rx ry ⟨_,_,rfl,rfl,h _ _ (Kp.refl _) (.int _) rh⟩
 ·cases r1;cases r2;exact Rn pins s σ H _ _ v u Q I rx ry ⟨_,_,rfl,rfl,h.1,h.2 _ _ (Kp.refl _) (.int _) rh⟩
 ·cases r1;cases r2;exact SI pins s σ H _ _ v u Q I rx ry ⟨_,_,rfl,rfl,h.1,h.2 _ _ (Kp.refl _) (.int _) rh⟩
 ·cases r1;cases r2;exact Ro pins s σ H _ _ v u Q I rx ry ⟨_,_,rfl,rfl,h.1,h.2 _ _ (Kp.refl _) (.int _) rh⟩
 ·cases r1;cases r2;exact Rp pins s σ H _ _ v u Q I rx ry ⟨_,_,rfl,rfl,h.1,h.2 _ _ (Kp.refl _) (.int _) rh⟩
 ·cases r1;cases r2;exact RC pins s σ H _ _ v u Q I rx ry ⟨_,_,rfl,rfl,h.1,h.2 _ _ (Kp.refl _) (.str _) rh⟩
 ·cases r1;cases r2;exact ST pins s σ H _ _ v u Q I rx ry ⟨_,_,rfl,rfl,h.1,h.2.1,h.2.2.1,h.2.2.2 _ _ (Kp.refl _) (.str _) rh⟩
 ·rename_i xs ys
  cases r1 with
  |tup h1 q1=>
   rename_i a vs
   cases r2 with
   |tup h2 q2=>
    rename_i b us
    obtain⟨h3,h4,h5⟩:=h;refine S7 pins s σ H _ _ v u Q I rx ry ⟨_,_,vs,us,rfl,rfl,SqT.of h1,SqT.of h2,λz=>h3 ?_,by rw[<- q1.length,<- q2.length];exact h4,λz=>?_,λz p hp=>?_⟩
    ·subst z;cases q1;rfl
    ·subst z;cases q2;rw[Vg]at h5;exact h5 _ _ (Kp.refl _) (.tup h1 q1) rh
    ·have k:=Kp.new hp (.tup (vs++us));exact h5 _ _ k (.tup ZJ ((q1.append q2).mono k)) (rh.kept hp _)
 ·exact h.elim
end
mutual
inductive DM (M:MH):MV->Yr->Prop
 |non:DM M .non .none
 |bl (b:Bool):DM M (.bl b) (.bool b)
 |int (i:Int):DM M (.int i) (.int i)
 |str (x:Str):DM M (.str x) (.str x)
 |lst {a:Addr} {xs:List MV} {ds:List Yr}:M a=some (.lst xs)->DMs M xs ds->DM M (.ref a) (.list ds)
 |frl {xs:List MV} {ds:List Yr}:DMs M xs ds->DM M (.frl xs) (.list ds)
 |tup {xs:List MV} {ds:List Yr}:DMs M xs ds->DM M (.tup xs) (.tuple ds)
inductive DMs (M:MH):List MV->List Yr->Prop
 |nil:DMs M [] []
 |cons {x:MV} {xs:List MV} {d:Yr} {ds:List Yr}:DM M x d->DMs M xs ds->DMs M (x::xs) (d::ds)
end
mutual
theorem DM.dp{K:X5}{M:MH}{H:Hp}(rh:RH K M H):∀{m:MV} {d:Yr} {v:V},DM M m d->RM K H m v->Dp K H v d
 |_,_,_,.non,.non=>.non
 |_,_,_,.bl b,.bl _=>.bl b
 |_,_,_,.int i,.int _=>.int i
 |_,_,_,.str x,.str _=>.str x
 |_,_,_,.lst h q,r=>by
  cases r;obtain⟨vs,e,r⟩:=rh.lst h;exact .lst (SqL.of e) (DMs.dp rh q r)
 |_,_,_,.frl q,.frl h r=>.lst h.sq (DMs.dp rh q r)
 |_,_,_,.tup q,.tup h r=>.tup (SqT.of h) (DMs.dp rh q r)
theorem DMs.dp{K:X5}{M:MH}{H:Hp}(rh:RH K M H):∀{m:List MV} {d:List Yr} {v:List V},DMs M m d->RMs K H m v->DpAll K H v d
 |_,_,_,.nil,.nil=>.nil
 |_,_,_,.cons a b,.cons c d=>.cons (DM.dp rh a c) (DMs.dp rh b d)
end
noncomputable def eqS:MV->MV->Option Bool
 |.int i,.int j=>some (decide (i=j))
 |.str i,.str j=>some (decide (i=j))
 |.bl i,.bl j=>some (decide (i=j))
 |.non,.non=>some true
 |.non,.int _=>some false|.int _,.non=>some false|.non,.bl _=>some false|.bl _,.non=>some false|.non,.str _=>some false|.str _,.non=>some false
 |.int _,.str _=>some false|.str _,.int _=>some false|.bl _,.str _=>some false|.str _,.bl _=>some false
 |_,_=>none
theorem Io{K:X5}{H:Hp}{x y:MV}{u v:V}{b:Bool}(h:eqS x y=some b)(r:RM K H x u)(q:RM K H y v):scal u v=true/\decide (u=v)=b:=by
 unfold eqS at h;split at h<;>cases h<;>cases r<;>cases q<;>refine⟨rfl,?_⟩
 ·rw[decide_eq_decide];exact⟨V.int.inj,λe=>by rw[e]⟩
 ·rw[decide_eq_decide];exact⟨V.str.inj,λe=>by rw[e]⟩
 ·rw[decide_eq_decide];exact⟨V.bl.inj,λe=>by rw[e]⟩
 all_goals rfl
noncomputable def LstM(M:MH)(x:MV)(xs:List MV):Prop:=x=.frl xs\/∃a,x=.ref a/\M a=some (.lst xs)
noncomputable def Yv:MV->Bool
 |.non=>true|.bl _=>true|.int _=>true|.str _=>true|_=>false
noncomputable def Alike(M:MH):Nat->MV->MV->Prop
 |0,x,y=>Yv x=true/\x=y
 |n+1,x,y=>(Yv x=true/\x=y)\/(∃xs ys,x=.tup xs/\y=.tup ys/\xs.length=ys.length/\∀(i:Nat) u v,xs[i]?=some u->ys[i]?=some v->Alike M n u v)\/
  (∃xs ys,LstM M x xs/\LstM M y ys/\xs.length=ys.length/\∀(i:Nat) u v,xs[i]?=some u->ys[i]?=some v->Alike M n u v)\/
  ∃a b ka kb,x=.ref a/\y=.ref b/\M a=some (.dic ka)/\M b=some (.dic kb)/\ka.length=kb.length/\∀k u,(k,u)∈ka->∃v,valM kb k=some v/\Alike M n u v
noncomputable def wEq(x y:MV)(M:MH)(k:Bool->Prop):Prop:=match eqS x y with
 |some b=>k b
 |none=>(∃n≤60,Alike M n x y/\k true)\/(∃a b xs,x=.ref a/\y=.ref b/\M a=some (.lst xs)/\M b=some (.lst [])/\k xs.isEmpty)\/(∃d e,DM M x d/\DM M y e/\ZG d=true/\ZG e=true/\k (U7 d e))\/
  False
noncomputable def toV:MV->V
 |.non=>.non|.bl b=>.bl b|.int i=>.int i|.str x=>.str x|_=>.non
theorem Ua{K:X5}{H:Hp}{m:MV}{v:V}(f:Yv m=true)(r:RM K H m v):v=toV m/\ZL v=true:=by
 cases r<;>first|exact⟨rfl,rfl⟩|cases f
theorem V2{K:X5}{H:Hp}:∀{m:List MV} {v:List V},m.all Yv=true->RMs K H m v->v=m.map toV/\v.all ZL=true
 |_,_,_,.nil=>⟨rfl,rfl⟩
 |_,_,f,.cons r t=>by
  rw[UL,Yd]at f;obtain⟨e,g⟩:=Ua f.1 r;obtain⟨e2,g2⟩:=V2 f.2 t;subst e e2;exact⟨rfl,by rw[UL,g,g2];rfl⟩
noncomputable def keyM:MV->Option Key
 |.int i=>some (.inl i)
 |.str x=>some (.inr x)
 |_=>none
theorem Wt{K:X5}{H:Hp}{m:MV}{v:V}{k:Key}(e:keyM m=some k)(r:RM K H m v):v=kV k:=by
 cases r<;>cases e<;>rfl
theorem VC{K:X5}{H:Hp}{k:Key}:∀{m:List (Key×MV)} {v:List (Key×V)},RKs K H m v->(valM m k=none/\valV v k=none)\/∃x u,valM m k=some x/\valV v k=some u/\RM K H x u
 |_,_,.nil=>.inl ⟨rfl,rfl⟩
 |_,_,.cons (k:=j) (x:=x) (v:=u) r t=>by
  by_cases e:j=k
  ·refine .inr ⟨x,u,?_,BX (p:=(j,u)) e,r⟩;unfold valM;rw[if_pos e]
  ·have:=VC (k:=k) t;unfold valM;rw[if_neg e,BY (p:=(j,u)) e];exact this
theorem Ip{K:X5}{H:Hp}{k:Key}:∀{m:List (Key×MV)} {v:List (Key×V)},RKs K H m v->(v.any λkv=>decide (kv.1=k))=(m.any λkv=>decide (kv.1=k))
 |_,_,.nil=>rfl
 |_,_,.cons r t=>by rw[ZC,ZC,Ip t]
theorem DK{K:X5}{H:Hp}{k:Key}{x:MV}{u:V}(r:RM K H x u):∀{m:List (Key×MV)} {v:List (Key×V)},RKs K H m v->
  RKs K H (m.map λkv=>if kv.1=k then(kv.1,x)else kv) (v.map λkv=>if kv.1=k then(kv.1,u)else kv)
 |_,_,.nil=>.nil
 |_,_,.cons (k:=j) q t=>by
  rw[Xz,Xz];by_cases e:j=k
  ·rw[if_pos e,if_pos e];exact .cons r (DK r t)
  ·rw[if_neg e,if_neg e];exact .cons q (DK r t)
theorem Iq{κ:Type}{K:X5}{H:Hp}:∀{m m':List (κ×MV)} {v v':List (κ×V)},RKs K H m v->RKs K H m' v'->RKs K H (m++m') (v++v')
 |_,_,_,_,.nil,s=>s
 |_,_,_,_,.cons r t,s=>.cons r (Iq t s)
theorem Ir{κ:Type} [DecidableEq κ] {k:κ}{x:MV}:∀{m:List (κ×MV)},¬k∈m.map (·.1)->(m.map λkv=>if kv.1=k then(kv.1,x)else kv)=m
 |[],_=>rfl
 |(j,y)::r,h=>by
  rw[Xz,if_neg (λe=>h (by simp[show j=k from e])),Ir (λe=>h (by simp[e]))]
theorem Iu{κ:Type} [DecidableEq κ] {k:κ}{x:MV}:∀{m:List (κ×MV)},(m.map (·.1)).Nodup->putM m k x=if(m.any λkv=>decide (kv.1=k))=true then m.map (λkv=>if kv.1=k then(kv.1,x)else kv)else m++[(k,x)]
 |[],_=>rfl
 |(j,y)::r,h=>by
  rw[Xz,YF]at h;unfold putM;rw[ZC];by_cases e:j=k
  ·subst e;rw[if_pos rfl,if_pos (by simp),Xz,if_pos rfl,Ir h.1]
  ·rw[if_neg e,Iu h.2,show decide ((j,y).1=k)=false from decide_eq_false e,Bool.false_or,Xz,if_neg (show¬(j,y).1=k from e)];split<;>rfl
theorem Iv{κ:Type} [DecidableEq κ] {k:κ}{x:MV}:∀(m:List (κ×MV)),((putM m k x).map (·.1))=if k∈m.map (·.1)then m.map (·.1)else m.map (·.1)++[k]
 |[]=>rfl
 |(j,y)::r=>by
  unfold putM;by_cases e:j=k
  ·subst e;simp
  ·rw[if_neg e,Xz,Iv r,Xz];have e':k≠j:=λz=>e z.symm;by_cases m:k∈r.map (·.1)
   ·rw[if_pos m,if_pos (Xn.mpr (.inr m))]
   ·rw[if_neg m,if_neg (λz=>(Xn.mp z).elim e' m)];rfl
theorem Iw{K:X5}{H:Hp}{k:Key}{x:MV}{u:V}(r:RM K H x u){m:List (Key×MV)}{v:List (Key×V)}(nd:(m.map (·.1)).Nodup)(h:RKs K H m v):
  RKs K H (putM m k x) (putK v k u)/\((putM m k x).map (·.1)).Nodup:=by
 refine⟨?_,?_⟩
 ·rw[Iu nd];unfold putK;rw[Ip h];split
  ·exact DK r h
  ·exact Iq h (.cons r .nil)
 ·rw[Iv];split
  ·exact nd
  ·exact HI nd (by assumption)
noncomputable def wIn(x y:MV)(M:MH)(k:Bool->Prop):Prop:=match y with
 |.tup xs=>Yv x=true/\xs.all Yv=true/\k (inV (toV x) (xs.map toV))
 |.frl xs=>Yv x=true/\xs.all Yv=true/\k (inV (toV x) (xs.map toV))
 |.ref a=>(∃xs,M a=some (.lst xs)/\Yv x=true/\xs.all Yv=true/\k (inV (toV x) (xs.map toV)))\/∃kvs kk,M a=some (.dic kvs)/\keyM x=some kk/\k (valM kvs kk).isSome
 |_=>False
noncomputable def VD:MV->Bool
 |.non=>true|_=>false
noncomputable def isBl(b:Bool):MV->Bool
 |.bl c=>decide (c=b)
 |_=>false
noncomputable def wCmp(op:CmpOp)(x y:MV)(M:MH)(Q:QM):Prop:=match op with
 |.Lt=>∃i j,x=.int i/\y=.int j/\Q (.bl (decide (i<j))) M
 |.LtE=>(∃i j,x=.int i/\y=.int j/\Q (.bl (decide (i≤j))) M)\/∃i j,x=.str i/\y=.str j/\Q (.bl (!decide (j.cps.toList<i.cps.toList))) M
 |.Gt=>∃i j,x=.int i/\y=.int j/\Q (.bl (decide (j<i))) M
 |.GtE=>∃i j,x=.int i/\y=.int j/\Q (.bl (decide (j≤i))) M
 |.Eq=>wEq x y M λb=>Q (.bl b) M
 |.NotEq=>wEq x y M λb=>Q (.bl (!b)) M
 |.In=>wIn x y M λb=>Q (.bl b) M
 |.NotIn=>wIn x y M λb=>Q (.bl (!b)) M
 |.Is=>(y=.non/\Q (.bl (VD x)) M)\/∃b,y=.bl b/\Q (.bl (isBl b x)) M
 |.IsNot=>(y=.non/\Q (.bl (!VD x)) M)\/∃b,y=.bl b/\Q (.bl (!isBl b x)) M
theorem Ix{x y:MV}{M:MH}{k k':Bool->Prop}(hk:∀b,k b->k' b)(h:wEq x y M k):wEq x y M k':=by
 unfold wEq at h ⊢;split
 ·rename_i b e;rw[e]at h;exact hk _ h
 ·rename_i e;rw[e]at h;rcases h with⟨n,h1,h2,h3⟩|⟨a,b,xs,h1,h2,h3,h4,h5⟩|⟨d,e,h1,h2,h3,h4,h5⟩|h
  ·exact .inl ⟨n,h1,h2,hk _ h3⟩
  ·exact .inr (.inl ⟨a,b,xs,h1,h2,h3,h4,hk _ h5⟩)
  ·exact .inr (.inr (.inl ⟨d,e,h1,h2,h3,h4,hk _ h5⟩))
  ·exact h.elim
theorem Iy{x y:MV}{M:MH}{k k':Bool->Prop}(hk:∀b,k b->k' b)(h:wIn x y M k):wIn x y M k':=by
 unfold wIn at h ⊢;split at h
 ·exact⟨h.1,h.2.1,hk _ h.2.2⟩
 ·exact⟨h.1,h.2.1,hk _ h.2.2⟩
 ·rcases h with⟨xs,h1,h2,h3,h4⟩|⟨kvs,kk,h1,h2,h3⟩
  ·exact .inl ⟨xs,h1,h2,h3,hk _ h4⟩
  ·exact .inr ⟨kvs,kk,h1,h2,hk _ h3⟩
 ·exact h.elim
theorem VE(op:CmpOp):Mon2 (wCmp op):=by
 intro x y M Q Q' hq h;cases op
 ·exact Ix (k:=λb=>Q (.bl b) M) (k':=λb=>Q' (.bl b) M) (λb h=>hq _ _ h) h
 ·exact Ix (k:=λb=>Q (.bl (!b)) M) (k':=λb=>Q' (.bl (!b)) M) (λb h=>hq _ _ h) h
 ·obtain⟨i,j,h1,h2,h3⟩:=h;exact⟨i,j,h1,h2,hq _ _ h3⟩
 ·rcases h with⟨i,j,h1,h2,h3⟩|⟨i,j,h1,h2,h3⟩
  ·exact .inl ⟨i,j,h1,h2,hq _ _ h3⟩
  ·exact .inr ⟨i,j,h1,h2,hq _ _ h3⟩
 ·obtain⟨i,j,h1,h2,h3⟩:=h;exact⟨i,j,h1,h2,hq _ _ h3⟩
 ·obtain⟨i,j,h1,h2,h3⟩:=h;exact⟨i,j,h1,h2,hq _ _ h3⟩
 ·rcases h with h|⟨b,e,h⟩
  ·exact .inl ⟨h.1,hq _ _ h.2⟩
  ·exact .inr ⟨b,e,hq _ _ h⟩
 ·rcases h with h|⟨b,e,h⟩
  ·exact .inl ⟨h.1,hq _ _ h.2⟩
  ·exact .inr ⟨b,e,hq _ _ h⟩
 ·exact Iy (k:=λb=>Q (.bl b) M) (k':=λb=>Q' (.bl b) M) (λb h=>hq _ _ h) h
 ·exact Iy (k:=λb=>Q (.bl (!b)) M) (k':=λb=>Q' (.bl (!b)) M) (λb h=>hq _ _ h) h
section
variable{X:Cx}
theorem Iz{K:X5}{H:Hp}{m:MV}{v:V}{b:Bool}(r:RM K H m v):decide (v=.bl b)=isBl b m:=by
 cases r<;>first|rfl|(rename_i c;cases b<;>cases c<;>rfl)
theorem IA{K:X5}{H:Hp}{m:MV}{v:V}(r:RM K H m v):decide (v=.non)=VD m:=by cases r<;>rfl
theorem ZpT{kvs:List (Key×V)}{vs:List (Key×X0)}{k:Key}{v:V}(r:KV kvs vs)(h:valV kvs k=some v):∃u,YY vs k=some u/\RelV v u:=by
 have q:=r.val k;rw[h]at q;exact RelO.some_of q
theorem LstM.sq{M:MH}{H:Hp}(rh:RH X.K M H){x:MV}{xs:List MV}{u:V}(h:LstM M x xs)(r:RM X.K H x u):∃a vs,u=.ref a/\SqL X.K H a vs/\RMs X.K H xs vs:=by
 rcases h with rfl|⟨a,rfl,h⟩
 ·cases r with
  |frl h1 q1=>exact⟨_,_,rfl,h1.sq,q1⟩
 ·cases r;obtain⟨vs,e,q⟩:=rh.lst h;exact⟨a,vs,rfl,SqL.of e,q⟩
theorem C4{xs:List V}{us:List X0}(r:Vals xs us){i:Nat}{u:X0}(h:us[i]?=some u):∃x,xs[i]?=some x/\RelV x u:=by
 induction r generalizing i with
 |nil=>cases h
 |cons q _ ih=>
  cases i with
  |zero=>cases h;exact⟨_,rfl,q⟩
  |succ i=>exact ih (i:=i) h
theorem Zo5{kvs:List (Key×V)}{vs:List (Key×X0)}(r:KV kvs vs){k:Key}{u:X0}(h:(k,u)∈vs):∃x,(k,x)∈kvs/\RelV x u:=by
 induction r with
 |nil=>cases h
 | @cons p p' _ _ q _ ih=>
  obtain⟨k1,x1⟩:=p;obtain⟨k2,x2⟩:=p';rcases Xn.mp h with e|h
  ·cases e;have e1:k1=k:=q.1;subst e1;exact⟨x1,Yh,q.2⟩
  ·obtain⟨x,m,rx⟩:=ih h;exact⟨x,Yb _ m,rx⟩
theorem IB{K:X5}{H:Hp}{k:Key}{v:V}:∀{m:List (Key×MV)} {vs:List (Key×V)},RKs K H m vs->(k,v)∈vs->∃x,(k,x)∈m/\RM K H x v
 |_,_,.nil,h=>by cases h
 |_,_,.cons r t,h=>by
  rcases Xn.mp h with e|h
  ·cases e;exact⟨_,Yh,r⟩
  ·obtain⟨x,m,q⟩:=IB t h;exact⟨x,Yb _ m,q⟩
theorem Alike.inn{pins:List (Addr×Obj)}{s:X1}{σ:St}{H:Hp}{M:MH}(I:Inv X pins σ H s)(rh:RH X.K M H){n:Nat}{A:Xq}(hu:A.units<cLine)
  (ih:∀{x y:MV} {u v:V} {u' v':X0},Alike M n x y->RM X.K H x u->RM X.K H y v->RelV u u'->RelV v v'->AliP X.prog X.w A.in1 s u' v')
  {x y:MV} {u v:V} {u' v':X0} (h:Alike M (n+1) x y) (r1:RM X.K H x u) (r2:RM X.K H y v) (q1:RelV u u') (q2:RelV v v'):
  (Yv x=true/\x=y)\/∃a b,u'=.ref a/\v'=.ref b/\RcP X.prog X.w A s (.ref a) (.ref b)/\RnP X.prog X.w A s (.ref a) (.ref b):=by
 rw[Alike]at h;rcases h with h|⟨xs,ys,rfl,rfl,e,h⟩|⟨xs,ys,h1,h2,e,h⟩|⟨a,b,ka,kb,rfl,rfl,h1,h2,e,h⟩
 ·exact .inl h
 ·cases r1 with
  |tup g1 w1=>
   cases r2 with
   |tup g2 w2=>
    rename_i a vs b us
    obtain rfl:u'=Xy a:=q1;obtain rfl:v'=Xy b:=q2;obtain⟨i1,p1,t1,_⟩:=I.tuple (SqT.of g1);obtain⟨i2,p2,t2,_⟩:=I.tuple (SqT.of g2);have z:i1.toArray.size=i2.toArray.size:=by rw[XO,XO,<- p1.length,<- p2.length,<- w1.length,<- w2.length];exact e
    have he:∀p∈i1.toArray.toList.zip i2.toArray.toList,AliP X.prog X.w A.in1 s p.1 p.2:=by
     intro p hp;obtain⟨i,hi⟩:=List.mem_iff_getElem?.mp hp;rw[G7]at hi;obtain⟨x1,c1,d1⟩:=C4 p1 hi.1;obtain⟨x2,c2,d2⟩:=C4 p2 hi.2;obtain⟨m1,c3,d3⟩:=w1.get' c1;obtain⟨m2,c4,d4⟩:=w2.get' c2;exact ih (h i m1 m2 c3 c4) d3 d4 d1 d2
    exact .inr ⟨_,_,rfl,rfl,SW t1 t2 z hu he,SZ t1 t2 z hu he⟩
 ·obtain⟨a,vs,rfl,g1,w1⟩:=h1.sq rh r1;obtain⟨b,us,rfl,g2,w2⟩:=h2.sq rh r2;obtain rfl:u'=Xy a:=q1;obtain rfl:v'=Xy b:=q2;obtain⟨i1,p1,⟨o1,n1,t1,t2,_,t3⟩,_⟩:=I.list g1;obtain⟨i2,p2,⟨o2,n2,t4,t5,_,t6⟩,_⟩:=I.list g2;have z:i1.toArray.size=i2.toArray.size:=by rw[XO,XO,<- p1.length,<- p2.length,<- w1.length,<- w2.length];exact e
  have he:∀j (h1:j<i1.toArray.size) (h2:j<i2.toArray.size),AliP X.prog X.w A.in1 s i1.toArray[j] i2.toArray[j]:=by
   intro i l1 l2;obtain⟨x1,c1,d1⟩:=C4 p1 (i:=i) (u:=i1.toArray[i]) (by simp[X6 (show i<i1.length by simpa using l1)])
   obtain⟨x2,c2,d2⟩:=C4 p2 (i:=i) (u:=i2.toArray[i]) (by simp[X6 (show i<i2.length by simpa using l2)])
   obtain⟨m1,c3,d3⟩:=w1.get' c1;obtain⟨m2,c4,d4⟩:=w2.get' c2;exact ih (h i m1 m2 c3 c4) d3 d4 d1 d2
  exact .inr ⟨_,_,rfl,rfl,SY ⟨o1,t1,t2,n1,t3⟩ ⟨o2,t4,t5,n2,t6⟩ z hu he,T1 ⟨o1,t1,t2,n1,t3⟩ ⟨o2,t4,t5,n2,t6⟩ z hu he⟩
 ·cases r1;cases r2;obtain rfl:u'=Xy a:=q1;obtain rfl:v'=Xy b:=q2;obtain⟨va,ea,wa,_⟩:=rh.dic h1;obtain⟨vb,eb,wb,_⟩:=rh.dic h2;obtain⟨_,na,ua,pa,da⟩:=DF I.hok ea;obtain⟨_,nb,ub,pb,db⟩:=DF I.hok eb;have z:ua.length=ub.length:=by rw[<- Paired.length pa,<- wa.length,<- Paired.length pb,<- wb.length];exact e
  have he:∀p∈ua,∃y,YY ub p.1=some y/\AliP X.prog X.w A.in1 s p.2 y:=by
   rintro⟨k,u1⟩ hp;obtain⟨x1,c1,d1⟩:=Zo5 pa hp;obtain⟨m1,c2,d2⟩:=IB wa c1;obtain⟨m2,c3,c4⟩:=h k m1 c2;rcases VC (k:=k) wb with⟨z1,z2⟩|⟨x',u2,z1,z2,r3⟩
   ·rw[c3]at z1;cases z1
   ·rw[c3]at z1;cases z1;obtain⟨w',hw,rw'⟩:=ZpT pb z2;exact⟨w',hw,ih c4 d2 r3 d1 rw'⟩
  exact .inr ⟨_,_,rfl,rfl,T2 na nb da db hu z he,T3 na nb da db hu z he⟩
theorem IC{K:X5}{H:Hp}{A:Xq}{s:X1}{P:Xl}{w:Xe}{x:MV}{u v:V}{u' v':X0}(f:Yv x=true)(r1:RM K H x u)(r2:RM K H x v)(q1:RelV u u')(q2:RelV v v'):AliP P w A s u' v':=by
 obtain⟨rfl,f1⟩:=Ua f r1;obtain⟨rfl,f2⟩:=Ua f r2;have h:=Hx (A:=A) (s:=s) q1 q2 f1 f2;have e:eqV (toV x) (toV x)=true:=by cases x<;>first|(cases f;done)|simp[toV,eqV]
 rw[e]at h;exact .of_at h
theorem Alike.ok{pins:List (Addr×Obj)}{s:X1}{σ:St}{H:Hp}{M:MH}(I:Inv X pins σ H s)(rh:RH X.K M H):∀(n:Nat) {A:Xq} {x y:MV} {u v:V} {u' v':X0},A.units+n<cLine->Alike M n x y->RM X.K H x u->RM X.K H y v->RelV u u'->RelV v v'->AliP X.prog X.w A s u' v'
 |0,A,x,y,u,v,u',v',hu,h,r1,r2,q1,q2=>by
  rw[Alike]at h;obtain⟨f,rfl⟩:=h;exact IC f r1 r2 q1 q2
 |n+1,A,x,y,u,v,u',v',hu,h,r1,r2,q1,q2=>by
  rcases Alike.inn I rh (A:=A) (by lia) (λh r1 r2 q1 q2=>Alike.ok I rh n (show A.units+1+n<cLine by lia) h r1 r2 q1 q2) h r1 r2 q1 q2 with⟨f,rfl⟩|⟨a,b,rfl,rfl,h,_⟩
  ·exact IC f r1 r2 q1 q2
  ·exact .refs h
theorem Alike.top{pins:List (Addr×Obj)}{s:X1}{σ:St}{H:Hp}{M:MH}(I:Inv X pins σ H s)(rh:RH X.K M H){n:Nat}{x y:MV}{u v:V}{u' v':X0}(h:Alike M n x y)(hu:X.A.units+n<cLine)(ns:eqS x y=none)(r1:RM X.K H x u)(r2:RM X.K H y v)(q1:RelV u u')(q2:RelV v v'):
  RcP X.prog X.w X.A s u' v'/\RnP X.prog X.w X.A s u' v':=by
 have no:¬(Yv x=true/\x=y):=by
  rintro⟨f,rfl⟩;cases x<;>first|(cases f;done)|(cases ns;done)
 cases n with
 |zero=>rw[Alike]at h;exact(no h).elim
 |succ n=>
  rcases Alike.inn I rh (A:=X.A) (by lia) (λh r1 r2 q1 q2=>Alike.ok I rh n (show X.A.units+1+n<cLine by lia) h r1 r2 q1 q2) h r1 r2 q1 q2 with f|⟨a,b,rfl,rfl,h,h'⟩
  ·exact(no f).elim
  ·exact⟨h,h'⟩
theorem VF(hu:X.A.units+70<cLine)(op:CmpOp):OpR X (XU op) (li2 X.K (wCmp op)):=by
 intro pins s σ H x y v u Q I rx ry h;obtain⟨mx,my,M,r1,r2,rh,h⟩:=h;have hb:∀b,Dn X.K H Q (.bl b) M->Q (.bl b) H:=λb h=>h _ _ (Kp.refl _) (.bl b) rh;have hu1:X.A.units+1<cLine:=by lia
 have hu64:X.A.units+64<cLine:=by lia
 have huI:X.A.in1.units+64<cLine:=by show X.A.units+1+64<cLine;lia
 have hu0:X.A.units<cLine:=by lia
 cases op with
 |Lt=>obtain⟨i,j,rfl,rfl,h⟩:=h;cases r1;cases r2;exact Rs pins s σ H _ _ v u Q I rx ry ⟨_,_,rfl,rfl,hb _ h⟩
 |LtE=>
  rcases h with⟨i,j,rfl,rfl,h⟩|⟨i,j,rfl,rfl,h⟩
  ·cases r1;cases r2;exact Rt pins s σ H _ _ v u Q I rx ry ⟨_,_,rfl,rfl,hb _ h⟩
  ·cases r1;cases r2;obtain⟨t1,rfl⟩:=rx;obtain⟨t2,rfl⟩:=ry;exact PySem.P.le_str ⟨.bl _,H,I,rfl,hb _ h⟩
 |Gt=>obtain⟨i,j,rfl,rfl,h⟩:=h;cases r1;cases r2;exact Ru pins s σ H _ _ v u Q I rx ry ⟨_,_,rfl,rfl,hb _ h⟩
 |GtE=>obtain⟨i,j,rfl,rfl,h⟩:=h;cases r1;cases r2;exact Rv pins s σ H _ _ v u Q I rx ry ⟨_,_,rfl,rfl,hb _ h⟩
 |Is=>
  rcases h with⟨rfl,h⟩|⟨b,rfl,h⟩
  ·cases r2;exact Rw pins s σ H _ _ v u Q I rx ry ⟨rfl,by rw[IA r1];exact hb _ h⟩
  ·cases r2;exact TX pins s σ H _ _ v u Q I rx ry ⟨b,rfl,by rw[Iz r1];exact hb _ h⟩
 |IsNot=>
  rcases h with⟨rfl,h⟩|⟨b,rfl,h⟩
  ·cases r2;exact Rx pins s σ H _ _ v u Q I rx ry ⟨rfl,by rw[IA r1];exact hb _ h⟩
  ·cases r2;exact TY pins s σ H _ _ v u Q I rx ry ⟨b,rfl,by rw[Iz r1];exact hb _ h⟩
 |Eq=>
  have h:wEq mx my M λb=>Dn X.K H Q (.bl b) M:=h;unfold wEq at h;split at h
  ·rename_i b e
   obtain⟨e1,e2⟩:=Io e r1 r2;exact Rq pins s σ H _ _ v u Q I rx ry ⟨e1,by rw[e2];exact hb _ h⟩
  ·rcases h with⟨n,h1,h2,h3⟩|⟨a,b,xs,rfl,rfl,h3,h4,h5⟩|⟨d,e,h1,h2,h3,h4,h5⟩|h
   ·exact(h2.top I rh (by lia) (by assumption) r1 r2 rx ry).1 _ _ ⟨.bl true,H,I,rfl,hb _ h3⟩
   ·cases r1;cases r2;obtain⟨vs,e1,q1⟩:=rh.lst h3;obtain⟨us,e2,q2⟩:=rh.lst h4;cases q2;refine SU hu0 pins s σ H _ _ v u Q I rx ry ⟨_,_,vs,rfl,rfl,SqL.of e1,SqL.of e2,?_⟩;have:vs.isEmpty=xs.isEmpty:=by cases q1<;>rfl
    rw[this];exact hb _ h5
   ·exact SK hu64 pins s σ H _ _ v u Q I rx ry ⟨d,e,h1.dp rh r1,h2.dp rh r2,h3,h4,hb _ h5⟩
   ·exact h.elim
 |NotEq=>
  have h:wEq mx my M λb=>Dn X.K H Q (.bl (!b)) M:=h;unfold wEq at h;split at h
  ·rename_i b e
   obtain⟨e1,e2⟩:=Io e r1 r2;exact Rr pins s σ H _ _ v u Q I rx ry ⟨e1,by rw[e2];exact hb _ h⟩
  ·rcases h with⟨n,h1,h2,h3⟩|⟨a,b,xs,rfl,rfl,h3,h4,h5⟩|⟨d,e,h1,h2,h3,h4,h5⟩|h
   ·exact(h2.top I rh (by lia) (by assumption) r1 r2 rx ry).2 _ _ ⟨.bl false,H,I,rfl,hb _ h3⟩
   ·cases r1;cases r2;obtain⟨vs,e1,q1⟩:=rh.lst h3;obtain⟨us,e2,q2⟩:=rh.lst h4;cases q2;refine SV hu0 pins s σ H _ _ v u Q I rx ry ⟨_,_,vs,rfl,rfl,SqL.of e1,SqL.of e2,?_⟩;have:vs.isEmpty=xs.isEmpty:=by cases q1<;>rfl
    rw[this];exact hb _ h5
   ·exact SL hu64 pins s σ H _ _ v u Q I rx ry ⟨d,e,h1.dp rh r1,h2.dp rh r2,h3,h4,hb _ h5⟩
   ·exact h.elim
 |In=>
  have h:wIn mx my M λb=>Dn X.K H Q (.bl b) M:=h;unfold wIn at h;split at h
  ·cases r2 with
   |tup h1 q1=>
    obtain⟨f1,f2,h⟩:=h;obtain⟨e1,g1⟩:=Ua f1 r1;obtain⟨e2,g2⟩:=V2 f2 q1;exact DA pins s σ H _ _ v u Q I rx ry ⟨_,_,rfl,.inr (SqT.of h1),g1,g2,by rw[e1,e2];exact hb _ h⟩
  ·cases r2 with
   |frl h1 q1=>
    obtain⟨f1,f2,h⟩:=h;obtain⟨e1,g1⟩:=Ua f1 r1;obtain⟨e2,g2⟩:=V2 f2 q1;exact DA pins s σ H _ _ v u Q I rx ry ⟨_,_,rfl,.inl h1.sq,g1,g2,by rw[e1,e2];exact hb _ h⟩
  ·cases r2;rcases h with⟨xs,h1,f1,f2,h⟩|⟨kvs,kk,h1,h2,h⟩
   ·obtain⟨vs,e,q1⟩:=rh.lst h1;obtain⟨e1,g1⟩:=Ua f1 r1;obtain⟨e2,g2⟩:=V2 f2 q1;exact DA pins s σ H _ _ v u Q I rx ry ⟨_,_,rfl,.inl (SqL.of e),g1,g2,by rw[e1,e2];exact hb _ h⟩
   ·obtain⟨vs,e,q1,_⟩:=rh.dic h1;have:=Wt h2 r1;subst this;obtain rfl:u=Xy _:=ry;refine d_in hu1 I (DGet.k (k:=kk) e) rx λs3 I3=>⟨.bl _,H,I3,rfl,?_⟩;rcases VC (k:=kk) q1 with⟨z1,z2⟩|⟨x',u',z1,z2,_⟩
    ·rw[z2];rw[z1]at h;exact hb _ h
    ·rw[z2];rw[z1]at h;exact hb _ h
  ·exact h.elim
 |NotIn=>
  have h:wIn mx my M λb=>Dn X.K H Q (.bl (!b)) M:=h;unfold wIn at h;split at h
  ·cases r2 with
   |tup h1 q1=>
    obtain⟨f1,f2,h⟩:=h;obtain⟨e1,g1⟩:=Ua f1 r1;obtain⟨e2,g2⟩:=V2 f2 q1;exact DB pins s σ H _ _ v u Q I rx ry ⟨_,_,rfl,.inr (SqT.of h1),g1,g2,by rw[e1,e2];exact hb _ h⟩
  ·cases r2 with
   |frl h1 q1=>
    obtain⟨f1,f2,h⟩:=h;obtain⟨e1,g1⟩:=Ua f1 r1;obtain⟨e2,g2⟩:=V2 f2 q1;exact DB pins s σ H _ _ v u Q I rx ry ⟨_,_,rfl,.inl h1.sq,g1,g2,by rw[e1,e2];exact hb _ h⟩
  ·cases r2;rcases h with⟨xs,h1,f1,f2,h⟩|⟨kvs,kk,h1,h2,h⟩
   ·obtain⟨vs,e,q1⟩:=rh.lst h1;obtain⟨e1,g1⟩:=Ua f1 r1;obtain⟨e2,g2⟩:=V2 f2 q1;exact DB pins s σ H _ _ v u Q I rx ry ⟨_,_,rfl,.inl (SqL.of e),g1,g2,by rw[e1,e2];exact hb _ h⟩
   ·obtain⟨vs,e,q1,_⟩:=rh.dic h1;have:=Wt h2 r1;subst this;obtain rfl:u=Xy _:=ry;refine Sq hu1 I (DGet.k (k:=kk) e) rx λs3 I3=>⟨.bl _,H,I3,rfl,?_⟩;rcases VC (k:=kk) q1 with⟨z1,z2⟩|⟨x',u',z1,z2,_⟩
    ·rw[z2];rw[z1]at h;exact hb _ h
    ·rw[z2];rw[z1]at h;exact hb _ h
  ·exact h.elim
end
noncomputable def wIx(x y:MV)(M:MH)(Q:QM):Prop:=match x with
 |.tup xs=>∃i v,y=.int i/\atI xs i=some v/\Q v M
 |.frl xs=>∃i v,y=.int i/\atI xs i=some v/\Q v M
 |.str z=>∃i c,y=.int i/\z.length≤sizeLine/\atI z.cps.toList i=some c/\Q (.str ⟨#[c]⟩) M
 |.ref a=>(∃xs i v,M a=some (.lst xs)/\y=.int i/\atI xs i=some v/\Q v M)\/(∃kvs kk v,M a=some (.dic kvs)/\keyM y=some kk/\valM kvs kk=some v/\Q v M)\/∃o kvs kk v,M a=some (.fdic o kvs)/\keyM y=some kk/\valM kvs kk=some v/\Q v M
 |_=>False
theorem ID:Mon2 wIx:=by
 intro x y M Q Q' hq h;unfold wIx at h ⊢;split at h
 ·obtain⟨i,v,h1,h2,h3⟩:=h;exact⟨i,v,h1,h2,hq _ _ h3⟩
 ·obtain⟨i,v,h1,h2,h3⟩:=h;exact⟨i,v,h1,h2,hq _ _ h3⟩
 ·obtain⟨i,v,h1,h2,h3,h4⟩:=h;exact⟨i,v,h1,h2,h3,hq _ _ h4⟩
 ·rcases h with⟨xs,i,v,h1,h2,h3,h4⟩|⟨kvs,kk,v,h1,h2,h3,h4⟩|⟨o,kvs,kk,v,h1,h2,h3,h4⟩
  ·exact .inl ⟨xs,i,v,h1,h2,h3,hq _ _ h4⟩
  ·exact .inr (.inl ⟨kvs,kk,v,h1,h2,h3,hq _ _ h4⟩)
  ·exact .inr (.inr ⟨o,kvs,kk,v,h1,h2,h3,hq _ _ h4⟩)
 ·exact h.elim
theorem RMs.atI{K:X5}{H:Hp}{m:List MV}{v:List V}{i:Int}{x:MV}(r:RMs K H m v)(e:atI m i=some x):∃u,atI v i=some u/\RM K H x u:=by
 unfold L2.atI at e ⊢;rw[<- r.length];cases q:ixN m.length i with
 |none=>rw[q]at e;cases e
 |some j=>rw[q]at e;exact r.get e
section
variable{X:Cx}
theorem IF(hu:X.A.units+1<cLine):IxR X (λx y H Q=>∃a v,x=.ref a/\DGet H a y (some v)/\Q v H):=by
 intro value slice pins s σ H x y v u Q I rx ry h hs;obtain⟨a,w',rfl,g,q⟩:=h;obtain rfl:v=Xy a:=rx;exact tail_any (Su I g) PySem.F.slot_dict_getitem.lookup (So hu I g ry λw2 s3 I3 rw'=>⟨w',H,I3,rw',q⟩) hs
theorem Zoe(hu:X.A.units+1<cLine):IxR X (li2 X.K wIx):=by
 intro value slice pins s σ H x y v u Q I rx ry h hs;obtain⟨mx,my,M,r1,r2,rh,h⟩:=h;unfold wIx at h;split at h
 ·obtain⟨i,v',rfl,h2,h3⟩:=h;cases r2;cases r1 with
  |tup h1 q1=>
   obtain⟨u',e,r⟩:=q1.atI h2;exact S9 value slice pins s σ H _ _ v u Q I rx ry ⟨_,_,_,u',rfl,rfl,SqT.of h1,e,h3 _ _ (Kp.refl _) r rh⟩ hs
 ·obtain⟨i,v',rfl,h2,h3⟩:=h;cases r2;cases r1 with
  |frl h1 q1=>
   obtain⟨u',e,r⟩:=q1.atI h2;exact Hv value slice pins s σ H _ _ v u Q I rx ry ⟨_,_,_,u',rfl,rfl,h1.sq,e,h3 _ _ (Kp.refl _) r rh⟩ hs
 ·obtain⟨i,c,rfl,h2,h3,h4⟩:=h;cases r1;cases r2;exact Sa value slice pins s σ H _ _ v u Q I rx ry ⟨_,_,c,rfl,rfl,h2,h3,h4 _ _ (Kp.refl _) (.str _) rh⟩ hs
 ·cases r1;rcases h with⟨xs,i,v',h1,rfl,h3,h4⟩|⟨kvs,kk,v',h1,h2,h3,h4⟩|⟨o,kvs,kk,v',h1,h2,h3,h4⟩
  ·cases r2;obtain⟨vs,e,q1⟩:=rh.lst h1;obtain⟨u',e2,r⟩:=q1.atI h3;exact Hv value slice pins s σ H _ _ v u Q I rx ry ⟨_,_,_,u',rfl,rfl,SqL.of e,e2,h4 _ _ (Kp.refl _) r rh⟩ hs
  ·obtain⟨vs,e,q1,_⟩:=rh.dic h1;have ek:=Wt h2 r2;rcases VC (k:=kk) q1 with⟨z1,z2⟩|⟨x',u',z1,z2,r'⟩
   ·rw[z1]at h3;cases h3
   ·rw[z1]at h3;cases h3;have g:=DGet.k (k:=kk) e;rw[z2]at g;subst ek;exact IF hu value slice pins s σ H _ _ v u Q I rx ry ⟨_,u',rfl,g,h4 _ _ (Kp.refl _) r' rh⟩ hs
  ·obtain⟨vs,e,q1,_⟩:=rh.fdic h1;have ek:=Wt h2 r2;rcases VC (k:=kk) q1 with⟨z1,z2⟩|⟨x',u',z1,z2,r'⟩
   ·rw[z1]at h3;cases h3
   ·rw[z1]at h3;cases h3;have g:DGet H _ (kV kk) (valV vs kk):=.inl ⟨vs,kk,.inr ⟨o,e⟩,rfl,rfl⟩;rw[z2]at g;subst ek;exact IF hu value slice pins s σ H _ _ v u Q I rx ry ⟨_,u',rfl,g,h4 _ _ (Kp.refl _) r' rh⟩ hs
 ·exact h.elim
end
noncomputable def cutM(xs:List MV)(lo hi:Option Int):List MV:=(xs.drop (HT.sIx xs.length 0 lo)).take (HT.sIx xs.length xs.length hi - HT.sIx xs.length 0 lo)
theorem RMs.cut{K:X5}{H:Hp}{m:List MV}{v:List V}(r:RMs K H m v)(lo hi:Option Int):RMs K H (cutM m lo hi) (cutV v lo hi):=by
 unfold cutM cutV;rw[<- r.length];exact(r.drop _).take _
noncomputable abbrev WS:=MV->Option Int->Option Int->MH->QM->Prop
noncomputable def wSl:WS:=λx lo hi M Q=>match x with
 |.tup xs=>Q (.tup (cutM xs lo hi)) M
 |.frl xs=>∀p,M p=none->Q (.ref p) (updM M p (.lst (cutM xs lo hi)))
 |.ref a=>∃xs,M a=some (.lst xs)/\∀p,M p=none->Q (.ref p) (updM M p (.lst (cutM xs lo hi)))
 |.str z=>z.length≤sizeLine/\Q (.str (cutS z lo hi)) M
 |_=>False
theorem IG{x:MV}{lo hi:Option Int}{M:MH}{Q Q':QM}(hq:∀m M',Q m M'->Q' m M')(h:wSl x lo hi M Q):wSl x lo hi M Q':=by
 unfold wSl at h ⊢;split at h
 ·exact hq _ _ h
 ·exact λp hp=>hq _ _ (h p hp)
 ·obtain⟨xs,h1,h2⟩:=h;exact⟨xs,h1,λp hp=>hq _ _ (h2 p hp)⟩
 ·exact⟨h.1,hq _ _ h.2⟩
 ·exact h.elim
noncomputable def liS(K:X5)(w:WS):V->Option Int->Option Int->Hp->VK->Prop:=λx lo hi H Q=>∃mx M,RM K H mx x/\RH K M H/\w mx lo hi M (Dn K H Q)
section
variable{X:Cx}
theorem ZmW:SlR X (liS X.K wSl):=by
 intro pins s σ H x v vl vu lo hi sl Q I rx hs pl pu h;obtain⟨mx,M,r1,rh,h⟩:=h;unfold wSl at h;split at h
 ·rename_i ms
  cases r1 with
  |tup h1 q1=>
   rename_i vs
   by_cases hw:HT.sIx ms.length 0 lo=0/\HT.sIx ms.length ms.length hi=ms.length
   ·have e:cutM ms lo hi=ms:=by unfold cutM;rw[hw.1,hw.2,D4,Nat.sub_zero,W7]
    rw[e]at h;refine ZkV pins s σ H _ v vl vu lo hi sl Q I rx hs pl pu ⟨_,_,rfl,SqT.of h1,by rw[<- q1.length];exact hw.1,by rw[<- q1.length];exact hw.2,?_⟩
    exact h _ _ (Kp.refl _) (.tup h1 q1) rh
   refine S5 pins s σ H _ v vl vu lo hi sl Q I rx hs pl pu ⟨_,_,rfl,SqT.of h1,by rw[<- q1.length];exact hw,λp hp=>?_⟩
   have k:=Kp.new hp (.tup (cutV vs lo hi));exact h _ _ k (.tup ZJ ((q1.cut lo hi).mono k)) (rh.kept hp _)
 ·cases r1 with
  |frl h1 q1=>
   rename_i vs
   refine Hw pins s σ H _ v vl vu lo hi sl Q I rx hs pl pu ⟨_,_,rfl,h1.sq,λp hp=>?_⟩;have k:=Kp.new hp (.lst (cutV vs lo hi));exact h p (rh.free hp) _ _ k (.ref p) (rh.put k ((q1.cut lo hi).mono k))
 ·cases r1;obtain⟨xs,h1,h⟩:=h;obtain⟨vs,e,q1⟩:=rh.lst h1;refine Hw pins s σ H _ v vl vu lo hi sl Q I rx hs pl pu ⟨_,_,rfl,SqL.of e,λp hp=>?_⟩;have k:=Kp.new hp (.lst (cutV vs lo hi));exact h p (rh.free hp) _ _ k (.ref p) (rh.put k ((q1.cut lo hi).mono k))
 ·cases r1;exact ZmV pins s σ H _ v vl vu lo hi sl Q I rx hs pl pu ⟨_,rfl,h.1,h.2 _ _ (Kp.refl _) (.str _) rh⟩
 ·exact h.elim
end
noncomputable def tyM(M:MH):MV->Option Ty7
 |.non=>some .none|.bl _=>some .bool|.int _=>some .int|.str _=>some .str|.tup _=>some .tuple
 |.ref a=>match M a with|some (.lst _)=>some .list|some (.dic _)=>some .dict|_=>none
 |_=>none
noncomputable def isTy:Ty7->Ty7->Bool
 |.bool,.int=>true
 |a,b=>decide (a=b)
theorem DL(K:X5)(T c:Ty7)(hc:c≠.none):UN K (.type T.name) (.type c.name)=some (isTy T c):=by
 cases T<;>cases c<;>first|exact absurd rfl hc|with_unfolding_all rfl
theorem IH{K:X5}{M:MH}{H:Hp}{m:MV}{v:V}{T:Ty7}(rh:RH K M H)(r:RM K H m v)(e:tyM M m=some T):TyOf K H v (.type T.name):=by
 cases r with
 |non=>cases e;exact .non
 |bl b=>cases e;exact .bl b
 |int i=>cases e;exact .int i
 |str x=>cases e;exact .str x
 |tup h _=>cases e;exact .tup h
 |frl _ _=>cases e
 |ty _=>cases e
 |ref a=>
  unfold tyM at e;dsimp only at e;cases q:M a with
  |none=>rw[q]at e;cases e
  |some o=>
   rw[q]at e;cases o with
   |lst xs=>cases e;obtain⟨vs,h,_⟩:=rh.lst q;exact .lst h
   |dic kvs=>cases e;obtain⟨vs,h,_⟩:=rh.dic q;exact .dK h
   |ins _ _=>cases e
   |fdic _ _=>cases e
inductive BI where|len|isinst|max|min|sum|abs|int|list|tuple|dict|sorted|dictL|all
  deriving DecidableEq
noncomputable def bLen(vs:List MV)(M:MH)(Q:QM):Prop:=match vs with
 |[.tup xs]=>Q (.int xs.length) M
 |[.frl xs]=>Q (.int xs.length) M
 |[.str z]=>z.length≤sizeLine/\Q (.int z.length) M
 |[.ref a]=>(∃xs,M a=some (.lst xs)/\Q (.int xs.length) M)\/∃kvs,M a=some (.dic kvs)/\Q (.int kvs.length) M
 |_=>False
noncomputable def bIsi(vs:List MV)(M:MH)(Q:QM):Prop:=match vs with
 |[x,.ty c]=>∃T,tyM M x=some T/\c≠.none/\Q (.bl (isTy T c)) M
 |[x,.tup [.ty c,.ty d]]=>∃T,tyM M x=some T/\c≠.none/\d≠.none/\Q (.bl (isTy T c||isTy T d)) M
 |_=>False
noncomputable def bMax(vs:List MV)(M:MH)(Q:QM):Prop:=match vs with
 |[.int i,.int j]=>Q (.int (if j>i then j else i)) M
 |[.ref a]=>∃ns:List Int,M a=some (.lst (ns.map MV.int))/\0<ns.length/\∀m,m∈ns->(∀x∈ns,x≤m)->Q (.int m) M
 |_=>False
noncomputable def bMin(vs:List MV)(M:MH)(Q:QM):Prop:=match vs with
 |[.int i,.int j]=>Q (.int (if j<i then j else i)) M
 |[.ref a]=>∃ns:List Int,M a=some (.lst (ns.map MV.int))/\0<ns.length/\∀m,m∈ns->(∀x∈ns,m≤x)->Q (.int m) M
 |_=>False
noncomputable def bAbs(vs:List MV)(M:MH)(Q:QM):Prop:=match vs with
 |[.int i]=>Q (.int (if i<0 then -i else i)) M
 |_=>False
noncomputable def bInt(vs:List MV)(M:MH)(Q:QM):Prop:=match vs with
 |[.int i]=>Q (.int i) M
 |[.bl k]=>Q (.int (if k then 1 else 0)) M
 |_=>False
noncomputable def bLst(vs:List MV)(M:MH)(Q:QM):Prop:=match vs with
 |[.tup xs]=>∀p,M p=none->Q (.ref p) (updM M p (.lst xs))
 |[.frl xs]=>∀p,M p=none->Q (.ref p) (updM M p (.lst xs))
 |[.ref a]=>∃xs,M a=some (.lst xs)/\∀p,M p=none->Q (.ref p) (updM M p (.lst xs))
 |_=>False
noncomputable def bTup(vs:List MV)(M:MH)(Q:QM):Prop:=match vs with
 |[.tup xs]=>Q (.tup xs) M
 |[.frl xs]=>Q (.tup xs) M
 |[.ref a]=>∃xs,M a=some (.lst xs)/\Q (.tup xs) M
 |_=>False
noncomputable def prM(p:Key×MV):MV:=.tup [match p.1 with|.inl i=>.int i|.inr x=>.str x,p.2]
noncomputable def Ub(ps:List (Key×MV)):List (Key×MV):=ps.foldl (λc z=>putM c z.1 z.2) []
noncomputable def bDic(vs:List MV)(M:MH)(Q:QM):Prop:=match vs with
 |[.ref a]=>∃kvs,M a=some (.dic kvs)/\∀p,M p=none->Q (.ref p) (updM M p (.dic kvs))
 |[.tup xs]=>∃ps:List (Key×MV),xs=ps.map prM/\∀p,M p=none->Q (.ref p) (updM M p (.dic (Ub ps)))
 |_=>False
noncomputable def bDcl(vs:List MV)(M:MH)(Q:QM):Prop:=match vs with
 |[.ref a]=>∃ps:List (Key×MV),M a=some (.lst (ps.map prM))/\∀p,M p=none->Q (.ref p) (updM M p (.dic (Ub ps)))
 |_=>False
theorem DN{K:X5}{H:Hp}:∀{ps:List (Key×MV)} {vs:List V},RMs K H (ps.map prM) vs->∃ps':List (Key×V),DI H ps' vs/\RKs K H ps ps'
 |[],_,.nil=>⟨[],.nil,.nil⟩
 |(k,x)::r,_,.cons (.tup e t) u=>by
  obtain⟨ps',h1,h2⟩:=DN u;cases t with
  |cons t1 t2=>
   cases t2 with
   |cons t3 t4=>
    cases t4
    rename_i v1 v2
    refine⟨(k,v2)::ps',.cons ⟨_,rfl,?_⟩ h1,.cons t3 h2⟩;rw[e];cases k<;>cases t1<;>rfl
theorem DO{K:X5}{H:Hp}:∀{ps:List (Key×MV)} {ps':List (Key×V)} {c:List (Key×MV)} {c':List (Key×V)},RKs K H ps ps'->RKs K H c c'->(c.map (·.1)).Nodup->
  RKs K H (ps.foldl (λc z=>putM c z.1 z.2) c) (ps'.foldl (λc z=>putK c z.1 z.2) c')/\((ps.foldl (λc z=>putM c z.1 z.2) c).map (·.1)).Nodup
 |_,_,_,_,.nil,h,nd=>⟨h,nd⟩
 |_,_,_,_,.cons r t,h,nd=>by
  obtain⟨a,b⟩:=Iw r nd h;have z:=DO t a b;exact z
noncomputable def bAll(vs:List MV)(M:MH)(Q:QM):Prop:=match vs with
 |[.ref a]=>∃bs:List Bool,M a=some (.lst (bs.map MV.bl))/\Q (.bl (bs.all id)) M
 |_=>False
theorem RMs.bls_of{K:X5}{H:Hp}:∀{bs:List Bool} {vs:List V},RMs K H (bs.map MV.bl) vs->vs=bs.map V.bl
 |[],_,.nil=>rfl
 |n::r,_,.cons (.bl _) t=>by rw[t.bls_of];rfl
noncomputable def wBi(f:BI)(vs:List MV)(M:MH)(Q:QM):Prop:=match f with
 |.len=>bLen vs M Q
 |.isinst=>bIsi vs M Q
 |.max=>bMax vs M Q
 |.min=>bMin vs M Q
 |.sum=>False
 |.abs=>bAbs vs M Q
 |.int=>bInt vs M Q
 |.list=>bLst vs M Q
 |.tuple=>bTup vs M Q
 |.dict=>bDic vs M Q
 |.sorted=>False
 |.dictL=>bDcl vs M Q
 |.all=>bAll vs M Q
theorem ZlJ:MonW bLen:=by
 intro vs M Q Q' hq h;unfold bLen at h ⊢;split at h
 ·exact hq _ _ h
 ·exact hq _ _ h
 ·exact⟨h.1,hq _ _ h.2⟩
 ·rcases h with⟨xs,h1,h2⟩|⟨xs,h1,h2⟩
  ·exact .inl ⟨xs,h1,hq _ _ h2⟩
  ·exact .inr ⟨xs,h1,hq _ _ h2⟩
 ·exact h.elim
theorem II(f:BI):MonW (wBi f):=by
 intro vs M Q Q' hq h;cases f
 ·exact ZlJ hq h
 ·have h:bIsi vs M Q:=h;show bIsi vs M Q';unfold bIsi at h ⊢;split at h
  ·obtain⟨T,h1,h2,h3⟩:=h;exact⟨T,h1,h2,hq _ _ h3⟩
  ·obtain⟨T,h1,h2,h3,h4⟩:=h;exact⟨T,h1,h2,h3,hq _ _ h4⟩
  ·exact h.elim
 ·have h:bMax vs M Q:=h;show bMax vs M Q';unfold bMax at h ⊢;split at h
  ·exact hq _ _ h
  ·obtain⟨ns,h1,h2,h3⟩:=h;exact⟨ns,h1,h2,λm a b=>hq _ _ (h3 m a b)⟩
  ·exact h.elim
 ·have h:bMin vs M Q:=h;show bMin vs M Q';unfold bMin at h ⊢;split at h
  ·exact hq _ _ h
  ·obtain⟨ns,h1,h2,h3⟩:=h;exact⟨ns,h1,h2,λm a b=>hq _ _ (h3 m a b)⟩
  ·exact h.elim
 ·exact Yy h
 ·have h:bAbs vs M Q:=h;show bAbs vs M Q';unfold bAbs at h ⊢;split at h
  ·exact hq _ _ h
  ·exact h.elim
 ·have h:bInt vs M Q:=h;show bInt vs M Q';unfold bInt at h ⊢;split at h
  ·exact hq _ _ h
  ·exact hq _ _ h
  ·exact h.elim
 ·have h:bLst vs M Q:=h;show bLst vs M Q';unfold bLst at h ⊢;split at h
  ·exact λp hp=>hq _ _ (h p hp)
  ·exact λp hp=>hq _ _ (h p hp)
  ·obtain⟨xs,h1,h2⟩:=h;exact⟨xs,h1,λp hp=>hq _ _ (h2 p hp)⟩
  ·exact h.elim
 ·have h:bTup vs M Q:=h;show bTup vs M Q';unfold bTup at h ⊢;split at h
  ·exact hq _ _ h
  ·exact hq _ _ h
  ·obtain⟨xs,h1,h2⟩:=h;exact⟨xs,h1,hq _ _ h2⟩
  ·exact h.elim
 ·have h:bDic vs M Q:=h;show bDic vs M Q';unfold bDic at h ⊢;split at h
  ·obtain⟨xs,h1,h2⟩:=h;exact⟨xs,h1,λp hp=>hq _ _ (h2 p hp)⟩
  ·obtain⟨xs,h1,h2⟩:=h;exact⟨xs,h1,λp hp=>hq _ _ (h2 p hp)⟩
  ·exact h.elim
 ·exact Yy h
 ·have h:bDcl vs M Q:=h;show bDcl vs M Q';unfold bDcl at h ⊢;split at h
  ·obtain⟨ps,h1,h2⟩:=h;exact⟨ps,h1,λp hp=>hq _ _ (h2 p hp)⟩
  ·exact h.elim
 ·have h:bAll vs M Q:=h;show bAll vs M Q';unfold bAll at h ⊢;split at h
  ·obtain⟨bs,h1,h2⟩:=h;exact⟨bs,h1,hq _ _ h2⟩
  ·exact h.elim
noncomputable def BI.val:BI->X0
 |.len=>.builtin "len"|.isinst=>.builtin "isinstance"|.max=>.builtin "max"|.min=>.builtin "min"|.sum=>.builtin "sum"|.abs=>.builtin "abs"
 |.int=>.type "int"|.list=>.type "list"|.tuple=>.type "tuple"|.dict=>.type "dict"|.sorted=>.builtin "sorted"|.dictL=>.type "dict"|.all=>.builtin "all"
section
variable{X:Cx}
theorem RMs.one{K:X5}{H:Hp}{m:MV}{vs:List V}(r:RMs K H [m] vs):∃v,vs=[v]/\RM K H m v:=by
 cases r with
 |cons a b=>cases b;exact⟨_,rfl,a⟩
theorem RMs.two{K:X5}{H:Hp}{m n:MV}{vs:List V}(r:RMs K H [m,n] vs):∃v w,vs=[v,w]/\RM K H m v/\RM K H n w:=by
 cases r with
 |cons a b=>obtain⟨w,rfl,c⟩:=b.one;exact⟨_,_,rfl,a,c⟩
theorem ZdQ:CallR X (.type "dict") (fun xs H Q=>∃a kvs,xs=[.ref a]/\H a=some (.dK kvs)/\∀p,H p=none->Q (.ref p) (upd H p (.dK kvs))):=by
 intro pins s σ H xs us Q I r h;obtain⟨a,kvs,rfl,ha,q⟩:=h;obtain⟨u,rfl,ru⟩:=YM r;cases ru;exact Sz I (.inl ha) λp s' hp I'=>⟨.ref p,_,I',rfl,q p hp⟩
theorem Zmp(hc:X.calm=true)(f:BI):CallR X f.val (liW X.K (wBi f)):=by
 intro pins s σ H xs us Q I r h;obtain⟨ms,M,r1,rh,h⟩:=h;cases f with
 |len=>
  have h:bLen ms M (Dn X.K H Q):=h;unfold bLen at h;split at h
  ·obtain⟨v,rfl,a⟩:=r1.one;cases a with
   |tup h1 q1=>exact DC pins s σ H _ us Q I r ⟨_,_,rfl,.inr (SqT.of h1),by rw[<- q1.length];exact h _ _ (Kp.refl _) (.int _) rh⟩
  ·obtain⟨v,rfl,a⟩:=r1.one;cases a with
   |frl h1 q1=>exact DC pins s σ H _ us Q I r ⟨_,_,rfl,.inl h1.sq,by rw[<- q1.length];exact h _ _ (Kp.refl _) (.int _) rh⟩
  ·obtain⟨v,rfl,a⟩:=r1.one;cases a;exact Sf pins s σ H _ us Q I r ⟨_,rfl,h.1,h.2 _ _ (Kp.refl _) (.int _) rh⟩
  ·obtain⟨v,rfl,a⟩:=r1.one;cases a;rcases h with⟨xs,h1,h⟩|⟨kvs,h1,h⟩
   ·obtain⟨vs,e,q1⟩:=rh.lst h1;exact DC pins s σ H _ us Q I r ⟨_,_,rfl,.inl (SqL.of e),by rw[<- q1.length];exact h _ _ (Kp.refl _) (.int _) rh⟩
   ·obtain⟨vs,e,q1,_⟩:=rh.dic h1;exact SG pins s σ H _ us Q I r ⟨_,_,rfl,e,by rw[<- q1.length];exact h _ _ (Kp.refl _) (.int _) rh⟩
  ·exact h.elim
 |isinst=>
  have h:bIsi ms M (Dn X.K H Q):=h;unfold bIsi at h;split at h
  ·obtain⟨v,w,rfl,a,b⟩:=r1.two;cases b;obtain⟨T,h1,h2,h3⟩:=h;exact SJ pins s σ H _ us Q I r ⟨_,_,_,_,rfl,IH rh a h1,DL _ _ _ h2,h3 _ _ (Kp.refl _) (.bl _) rh⟩
  ·obtain⟨v,w,rfl,a,b⟩:=r1.two;obtain⟨T,h1,h2,h3,h4⟩:=h;cases b with
   |tup ht qt=>
    cases qt with
    |cons q1 q2=>
     cases q2 with
     |cons q3 q4=>
      cases q4;cases q1;cases q3;exact ZdO pins s σ H _ us Q I r ⟨_,_,_,_,_,_,_,rfl,ht,IH rh a h1,DL _ _ _ h2,DL _ _ _ h3,h4 _ _ (Kp.refl _) (.bl _) rh⟩
  ·exact h.elim
 |max=>
  have h:bMax ms M (Dn X.K H Q):=h;unfold bMax at h;split at h
  ·obtain⟨v,w,rfl,a,b⟩:=r1.two;cases a;cases b;exact RE hc pins s σ H _ us Q I r ⟨_,_,rfl,h _ _ (Kp.refl _) (.int _) rh⟩
  ·obtain⟨v,rfl,a⟩:=r1.one;cases a;obtain⟨ns,h1,h2,h3⟩:=h;obtain⟨vs,e,q1⟩:=rh.lst h1;have:=q1.ints_of;subst this;exact SR hc pins s σ H _ us Q I r ⟨_,ns,rfl,SqL.of e,h2,λm a b=>h3 m a b _ _ (Kp.refl _) (.int _) rh⟩
  ·exact h.elim
 |min=>
  have h:bMin ms M (Dn X.K H Q):=h;unfold bMin at h;split at h
  ·obtain⟨v,w,rfl,a,b⟩:=r1.two;cases a;cases b;exact RF hc pins s σ H _ us Q I r ⟨_,_,rfl,h _ _ (Kp.refl _) (.int _) rh⟩
  ·obtain⟨v,rfl,a⟩:=r1.one;cases a;obtain⟨ns,h1,h2,h3⟩:=h;obtain⟨vs,e,q1⟩:=rh.lst h1;have:=q1.ints_of;subst this;exact SQ hc pins s σ H _ us Q I r ⟨_,ns,rfl,SqL.of e,h2,λm a b=>h3 m a b _ _ (Kp.refl _) (.int _) rh⟩
  ·exact h.elim
 |sum=>exact Yy h
 |abs=>
  have h:bAbs ms M (Dn X.K H Q):=h;unfold bAbs at h;split at h
  ·obtain⟨v,rfl,a⟩:=r1.one;cases a;exact RD pins s σ H _ us Q I r ⟨_,rfl,h _ _ (Kp.refl _) (.int _) rh⟩
  ·exact h.elim
 |int=>
  have h:bInt ms M (Dn X.K H Q):=h;unfold bInt at h;split at h
  ·obtain⟨v,rfl,a⟩:=r1.one;cases a;exact Hg pins s σ H _ us Q I r (.inl ⟨_,rfl,h _ _ (Kp.refl _) (.int _) rh⟩)
  ·obtain⟨v,rfl,a⟩:=r1.one;cases a;exact Hg pins s σ H _ us Q I r (.inr ⟨_,rfl,h _ _ (Kp.refl _) (.int _) rh⟩)
  ·exact h.elim
 |list=>
  have h:bLst ms M (Dn X.K H Q):=h;unfold bLst at h;split at h
  ·obtain⟨v,rfl,a⟩:=r1.one;cases a with
   |tup h1 q1=>
    refine DD pins s σ H _ us Q I r ⟨_,_,rfl,.inr (SqT.of h1),λp hp=>?_⟩;have k:=λz=>Kp.new hp (.lst z);exact h p (rh.free hp) _ _ (k _) (.ref p) (rh.put (k _) (q1.mono (k _)))
  ·obtain⟨v,rfl,a⟩:=r1.one;cases a with
   |frl h1 q1=>
    refine DD pins s σ H _ us Q I r ⟨_,_,rfl,.inl h1.sq,λp hp=>?_⟩;have k:=λz=>Kp.new hp (.lst z);exact h p (rh.free hp) _ _ (k _) (.ref p) (rh.put (k _) (q1.mono (k _)))
  ·obtain⟨v,rfl,a⟩:=r1.one;cases a;obtain⟨xs,h1,h⟩:=h;obtain⟨vs,e,q1⟩:=rh.lst h1;refine DD pins s σ H _ us Q I r ⟨_,_,rfl,.inl (SqL.of e),λp hp=>?_⟩;have k:=Kp.new hp (.lst vs);exact h p (rh.free hp) _ _ k (.ref p) (rh.put k (q1.mono k))
  ·exact h.elim
 |tuple=>
  have h:bTup ms M (Dn X.K H Q):=h;unfold bTup at h;split at h
  ·obtain⟨v,rfl,a⟩:=r1.one;cases a with
   |tup h1 q1=>exact DE pins s σ H _ us Q I r ⟨_,_,rfl,.inr ⟨SqT.of h1,h _ _ (Kp.refl _) (.tup h1 q1) rh⟩⟩
  ·obtain⟨v,rfl,a⟩:=r1.one;cases a with
   |frl h1 q1=>
    refine DE pins s σ H _ us Q I r ⟨_,_,rfl,.inl ⟨h1.sq,λp hp=>?_⟩⟩;have k:=λz=>Kp.new hp (.tup z);exact h _ _ (k _) (.tup ZJ (q1.mono (k _))) (rh.kept hp _)
  ·obtain⟨v,rfl,a⟩:=r1.one;cases a;obtain⟨xs,h1,h⟩:=h;obtain⟨vs,e,q1⟩:=rh.lst h1;refine DE pins s σ H _ us Q I r ⟨_,_,rfl,.inl ⟨SqL.of e,λp hp=>?_⟩⟩;have k:=Kp.new hp (.tup vs);exact h _ _ k (.tup ZJ (q1.mono k)) (rh.kept hp _)
  ·exact h.elim
 |dict=>
  have h:bDic ms M (Dn X.K H Q):=h;unfold bDic at h;split at h
  ·obtain⟨v,rfl,a⟩:=r1.one;cases a;obtain⟨kvs,h1,h⟩:=h;obtain⟨vs,e,q1,nd⟩:=rh.dic h1;refine ZdQ pins s σ H _ us Q I r ⟨_,_,rfl,e,λp hp=>?_⟩;have k:=Kp.new hp (.dK vs);exact h p (rh.free hp) _ _ k (.ref p) (rh.put k ⟨q1.mono k,nd⟩)
  ·obtain⟨v,rfl,a⟩:=r1.one;obtain⟨ps,rfl,h2⟩:=h;cases a with
   |tup e q1=>
    obtain⟨ps',pv,rk⟩:=DN q1;refine ZeU hc pins s σ H _ us Q I r ⟨_,ps',_,rfl,e,pv,λp hp=>?_⟩;have k:=Kp.new hp (.dK (ZN ps'));obtain⟨z1,z2⟩:=DO rk (.nil:RKs X.K H [] []) (by simp)
    exact h2 p (rh.free hp) _ _ k (.ref p) (rh.put k ⟨z1.mono k,z2⟩)
  ·exact h.elim
 |sorted=>exact Yy h
 |dictL=>
  have h:bDcl ms M (Dn X.K H Q):=h;unfold bDcl at h;split at h
  ·obtain⟨v,rfl,a⟩:=r1.one;cases a;obtain⟨ps,h1,h2⟩:=h;obtain⟨vs,e,q1⟩:=rh.lst h1;obtain⟨ps',pv,rk⟩:=DN q1;refine TJ hc pins s σ H _ us Q I r ⟨_,ps',vs,rfl,e,pv,λp hp=>?_⟩;have k:=Kp.new hp (.dK (ZN ps'));obtain⟨z1,z2⟩:=DO rk (.nil:RKs X.K H [] []) (by simp)
   exact h2 p (rh.free hp) _ _ k (.ref p) (rh.put k ⟨z1.mono k,z2⟩)
  ·exact h.elim
 |all=>
  have h:bAll ms M (Dn X.K H Q):=h;unfold bAll at h;split at h
  ·obtain⟨v,rfl,a⟩:=r1.one;cases a;obtain⟨bs,h1,h2⟩:=h;obtain⟨vs,e,q1⟩:=rh.lst h1;have:=q1.bls_of;subst this;exact TL hc pins s σ H _ us Q I r ⟨_,bs,rfl,SqL.of e,h2 _ _ (Kp.refl _) (.bl _) rh⟩
  ·exact h.elim
end
theorem RMs.strs{K:X5}{H:Hp}:∀ns:List Str,RMs K H (ns.map MV.str) (ns.map V.str)
 |[]=>.nil
 |n::r=>.cons (.str n) (RMs.strs r)
theorem RMs.strs_of{K:X5}{H:Hp}:∀{ns:List Str} {vs:List V},RMs K H (ns.map MV.str) vs->vs=ns.map V.str
 |[],_,.nil=>rfl
 |n::r,_,.cons (.str _) t=>by rw[t.strs_of];rfl
theorem IJ{K:X5}{H:Hp}(f:Nat->Int):∀l:List Nat,RMs K H (l.map λi=>MV.int (f i)) (l.map λi=>V.int (f i))
 |[]=>.nil
 |_::r=>.cons (.int _) (IJ f r)
theorem ZgS{K:X5}{H:Hp}(n:Nat):RMs K H ((XN n).map λi=>MV.int (i:Nat)) ((XN n).map λi=>V.int (i:Nat)):=IJ (λi=>(i:Int)) _
inductive B2 where|ssrt|lset|tset|lrng
  deriving DecidableEq
noncomputable def B2.out:B2->String
 |.ssrt=>"sorted"
 |.lset=>"len"
 |.tset=>"len"
 |.lrng=>"list"
noncomputable def B2.inn:B2->String
 |.ssrt=>"set"
 |.lset=>"set"
 |.tset=>"set"
 |.lrng=>"range"
noncomputable def B2.outV:B2->X0
 |.ssrt=>.builtin "sorted"
 |.lset=>.builtin "len"
 |.tset=>.builtin "len"
 |.lrng=>.type "list"
noncomputable def wB2(f:B2)(v:MV)(M:MH)(Q:QM):Prop:=match f with
 |.ssrt=>∃(a:Addr) (xs N:List Str),v=.ref a/\M a=some (.lst (xs.map MV.str))/\xs.length+1<scanBound/\(∀z∈xs,z∈N)/\N.length<64/\
   ∀p (ys:List Str),M p=none->ys.Nodup->(∀y,y∈ys↔y∈xs)->sortedS ys=true->Q (.ref p) (updM M p (.lst (ys.map MV.str)))
 |.lset=>False
 |.tset=>False
 |.lrng=>∃n:Nat,v=.int n/\n≤1000000/\∀p,M p=none->Q (.ref p) (updM M p (.lst ((XN n).map λi=>MV.int (i:Nat))))
theorem IK(f:B2):Mon1 (wB2 f):=by
 intro v M Q Q' hq h;cases f with
 |ssrt=>
  obtain⟨a,xs,N,h1,h2,h3,h4,h5,h6⟩:=h;exact⟨a,xs,N,h1,h2,h3,h4,h5,λp ys a1 a2 a3 a4=>hq _ _ (h6 p ys a1 a2 a3 a4)⟩
 |lset=>exact Yy h
 |tset=>exact Yy h
 |lrng=>
  obtain⟨n,h1,h2,h3⟩:=h;exact⟨n,h1,h2,λp hp=>hq _ _ (h3 p hp)⟩
section
variable{X:Cx}
theorem Zmq(hc:X.calm=true)(f:B2):Wr X f.outV (.type f.inn) (li1 X.K (wB2 f)):=by
 intro pins s σ H x u Q I r h;obtain⟨m,M,r1,rh,h⟩:=h;cases f with
 |ssrt=>
  obtain⟨a,xs,N,rfl,h2,h3,h4,h5,h6⟩:=h;cases r1;obtain⟨vs,e,q1⟩:=rh.lst h2;have:=q1.strs_of;subst this;refine Tx hc pins s σ H _ u Q I r ⟨_,xs,N,rfl,SqL.of e,h3,h4,h5,λp ys hp a1 a2 a3=>?_⟩;have k:=Kp.new hp (.lst (ys.map V.str));exact h6 p ys (rh.free hp) a1 a2 a3 _ _ k (.ref p) (rh.put k (RMs.strs ys))
 |lset=>exact Yy h
 |tset=>exact Yy h
 |lrng=>
  obtain⟨n,rfl,h2,h3⟩:=h;cases r1;refine Zil hc pins s σ H _ u Q I r ⟨n,rfl,h2,λp hp=>?_⟩;have k:=Kp.new hp (.lst ((XN n).map λi=>V.int (i:Nat)));exact h3 p (rh.free hp) _ _ k (.ref p) (rh.put k (ZgS n))
end
inductive MT where|append|extend|reverse|clear|pop|popAt|dclear|dget|dgetD|join|remove
  deriving DecidableEq
noncomputable def wMt(m:MT)(a:Addr)(vs:List MV)(M:MH)(Q:QM):Prop:=∃xs,M a=some (.lst xs)/\match m,vs with
 |.append,[y]=>xs.length<sizeLine/\Q .non (updM M a (.lst (xs++[y])))
 |.extend,[.ref b]=>∃ys,M b=some (.lst ys)/\xs.length+ys.length≤sizeLine/\Q .non (updM M a (.lst (xs++ys)))
 |_,_=>False
noncomputable def wMl(m:MT)(x:MV)(vs:List MV)(M:MH)(Q:QM):Prop:=match x with
 |.ref a=>wMt m a vs M Q
 |_=>False
noncomputable def wMd(m:MT)(x:MV)(vs:List MV)(M:MH)(Q:QM):Prop:=match m with
 |.join=>∃sep b ss,x=.str sep/\vs=[.ref b]/\M b=some (.lst (ss.map MV.str))/\ss.toArray.foldl (λn z=>n+z.length+sep.length) 0≤sizeLine/\(ZD sep ss).length≤sizeLine/\Q (.str (ZD sep ss)) M
 |_=>False
noncomputable def MT.isL:MT->Bool
 |.dclear=>false|.dget=>false|.dgetD=>false|.join=>false|_=>true
noncomputable def MT.ty:MT->String
 |.dclear=>"dict"|.dget=>"dict"|.dgetD=>"dict"|.join=>"str"|_=>"list"
noncomputable def mtOk(m:MT)(x:MV)(M:MH):Prop:=match m with
 |.dclear=>∃a kvs,x=.ref a/\M a=some (.dic kvs)
 |.dget=>∃a kvs,x=.ref a/\M a=some (.dic kvs)
 |.dgetD=>∃a kvs,x=.ref a/\M a=some (.dic kvs)
 |.join=>∃z,x=.str z
 |_=>∃a xs,x=.ref a/\M a=some (.lst xs)
noncomputable def wMts(m:MT)(x:MV)(vs:List MV)(M:MH)(Q:QM):Prop:=match m with
 |.dclear=>wMd .dclear x vs M Q
 |.dget=>wMd .dget x vs M Q
 |.dgetD=>wMd .dgetD x vs M Q
 |.join=>wMd .join x vs M Q
 |m=>wMl m x vs M Q
theorem IL{m:MT}{x:MV}{vs:List MV}{M:MH}{Q:QM}(h:m.isL=true):wMts m x vs M Q=wMl m x vs M Q:=by cases m<;>first|rfl|cases h
theorem IM{m:MT}{x:MV}{vs:List MV}{M:MH}{Q:QM}(h:m.isL=false):wMts m x vs M Q=wMd m x vs M Q:=by cases m<;>first|rfl|cases h
theorem Zo1{m:MT}{a:MV}{vs:List MV}{M:MH}{Q Q':QM}(hq:∀m M',Q m M'->Q' m M')(h:wMl m a vs M Q):wMl m a vs M Q':=by
 cases a<;>try exact h.elim
 obtain⟨xs,h1,h⟩:=h;refine⟨xs,h1,?_⟩;split at h
 ·exact⟨h.1,hq _ _ h.2⟩
 ·obtain⟨ys,a,b,c⟩:=h;exact⟨ys,a,b,hq _ _ c⟩
 ·exact h.elim
theorem Zo2{m:MT}{x:MV}{vs:List MV}{M:MH}{Q Q':QM}(hq:∀m M',Q m M'->Q' m M')(h:wMd m x vs M Q):wMd m x vs M Q':=by
 cases m<;>try exact h.elim
 ·obtain⟨sep,b,ss,h1,h2,h3,h4,h5,h6⟩:=h;exact⟨sep,b,ss,h1,h2,h3,h4,h5,hq _ _ h6⟩
theorem DP{m:MT}{a:MV}{vs:List MV}{M:MH}{Q Q':QM}(hq:∀m M',Q m M'->Q' m M')(h:wMts m a vs M Q):wMts m a vs M Q':=by
 cases e:m.isL
 ·rw[IM e]at h ⊢;exact Zo2 hq h
 ·rw[IL e]at h ⊢;exact Zo1 hq h
noncomputable def MT.id:MT->String
 |.dclear=>"dict.clear"|.dget=>"dict.get"|.dgetD=>"dict.get"|.join=>"str.join"
 |.append=>"list.append"|.extend=>"list.extend"|.reverse=>"list.reverse"|.clear=>"list.clear"|.pop=>"list.pop"|.popAt=>"list.pop"|.remove=>"list.remove"
noncomputable def liM(K:X5)(w:MV->List MV->MH->QM->Prop):V->List V->Hp->VK->Prop:=λx xs H Q=>∃mx ms M,RM K H mx x/\RMs K H ms xs/\RH K M H/\w mx ms M (Dn K H Q)
section
variable{X:Cx}
theorem ZlF(m:MT):MtR X m.id (liM X.K (wMl m)):=by
 intro pins s σ H x xs v us Q I rx rs h;obtain⟨mx,ms,M,r1,r2,rh,h⟩:=h;cases r1<;>try exact h.elim
 obtain⟨ys,h1,h⟩:=h;obtain⟨vs,e,q1⟩:=rh.lst h1;have ku:∀o,Kp H (upd H _ o):=λo=>Kp.upd e rfl o;split at h
 ·obtain⟨w,rfl,r3⟩:=r2.one;exact HA pins s σ H _ _ v us Q I rx rs ⟨_,vs,w,rfl,rfl,e,by rw[<- q1.length];exact h.1,h.2 _ _ (ku _) .non (rh.put (ku _) ((q1.append (.cons r3 .nil)).mono (ku _)))⟩
 ·obtain⟨w,rfl,r3⟩:=r2.one;cases r3;obtain⟨zs,a,b,c⟩:=h;obtain⟨ws,e2,q2⟩:=rh.lst a;exact Sl pins s σ H _ _ v us Q I rx rs ⟨_,_,vs,ws,rfl,rfl,e,e2,by rw[<- q1.length,<- q2.length];exact b,c _ _ (ku _) .non (rh.put (ku _) ((q1.append q2).mono (ku _)))⟩
 ·exact h.elim
theorem IN{K:X5}{H:Hp}:∀{ss:List Str} {vs:List V},RMs K H (ss.map MV.str) vs->vs=ss.map V.str
 |[],_,.nil=>rfl
 |x::ss,_,.cons r t=>by cases r;rw[IN t];rfl
theorem ZlG(hu:X.A.units+1<cLine)(m:MT):MtR X m.id (liM X.K (wMd m)):=by
 intro pins s σ H x xs v us Q I rx rs h;obtain⟨mx,ms,M,r1,r2,rh,h⟩:=h;cases m<;>try exact h.elim
 ·obtain⟨sep,b,ss,rfl,rfl,h3,h4,h5,h6⟩:=h;cases r1;obtain⟨w,rfl,r3⟩:=r2.one;cases r3;obtain⟨vs,e,q⟩:=rh.lst h3;have:=IN q;subst this;exact T4 pins s σ H _ _ v us Q I rx rs ⟨sep,b,ss,rfl,rfl,SqL.of e,h4,h5,h6 _ _ (Kp.refl _) (.str _) rh⟩
theorem IP(hu:X.A.units+1<cLine)(m:MT):MtR X m.id (liM X.K (wMts m)):=by
 intro pins s σ H x xs v us Q I rx rs h;obtain⟨mx,ms,M,r1,r2,rh,h⟩:=h;cases e:m.isL
 ·rw[IM e]at h;exact ZlG hu m pins s σ H x xs v us Q I rx rs ⟨mx,ms,M,r1,r2,rh,h⟩
 ·rw[IL e]at h;exact ZlF m pins s σ H x xs v us Q I rx rs ⟨mx,ms,M,r1,r2,rh,h⟩
end
noncomputable def wPut(o i v:MV)(M:MH)(Q:MH->Prop):Prop:=match o with
 |.ref a=>(∃xs k j,M a=some (.lst xs)/\i=.int k/\ixN xs.length k=some j/\Q (updM M a (.lst (xs.set j v))))\/∃kvs kk,M a=some (.dic kvs)/\keyM i=some kk/\kvs.length<sizeLine/\Q (updM M a (.dic (putM kvs kk v)))
 |_=>False
theorem IQ{o i v:MV}{M:MH}{Q Q':MH->Prop}(hq:∀M',Q M'->Q' M')(h:wPut o i v M Q):wPut o i v M Q':=by
 cases o<;>try exact h.elim
 rcases h with⟨xs,k,j,h1,h2,h3,h4⟩|⟨kvs,kk,h1,h2,h3,h4⟩
 ·exact .inl ⟨xs,k,j,h1,h2,h3,hq _ h4⟩
 ·exact .inr ⟨kvs,kk,h1,h2,h3,hq _ h4⟩
noncomputable def DnH(K:X5)(H:Hp)(Q:Hp->Prop):MH->Prop:=λM=>∀H',Kp H H'->RH K M H'->Q H'
noncomputable def IR(K:X5):TSet:=λo i v H Q=>∃mo mi mv M,RM K H mo o/\RM K H mi i/\RM K H mv v/\RH K M H/\wPut mo mi mv M (DnH K H Q)
section
variable{X:Cx}
theorem ZkW(hu:X.A.units+1<cLine):PSet X (IR X.K):=by
 intro pins s σ H o i v ov iv u Q I ro ri rv h;obtain⟨mo,mi,mv,M,r1,r2,r3,rh,h⟩:=h;cases r1<;>try exact h.elim
 rcases h with⟨xs,k,j,h1,rfl,h3,h4⟩|⟨kvs,kk,h1,h2,h3,h4⟩
 ·cases r2;obtain⟨vs,e,q1⟩:=rh.lst h1;have k:=Kp.upd e rfl (.lst (vs.set j v));exact Sd pins s σ H _ _ v ov iv u Q I ro ri rv ⟨_,vs,_,j,rfl,rfl,e,by rw[<- q1.length];exact h3,h4 _ k (rh.put k ((q1.set r3 j).mono k))⟩
 ·obtain⟨vs,e,q1,nd⟩:=rh.dic h1;have ek:=Wt h2 r2;subst ek;obtain rfl:ov=Xy _:=ro;have k:=Kp.upd e rfl (.dK (putK vs kk v));obtain⟨q2,nd2⟩:=Iw (k:=kk) r3 nd q1;exact Sr hu I (DPut.k (k:=kk) e (by rw[<- q1.length];exact h3)) ri rv λs4 I4=>⟨_,I4,h4 _ k (rh.put k ⟨q2.mono k,nd2⟩)⟩
end
end L2
namespace L2
set_option genInjectivity false
open PySem PySem.Spec PyProof.Rows
mutual
inductive ITg where|nm (i:Nat)|tup (ts:ITgs)
inductive ITgs where|nil|cons (t:ITg) (ts:ITgs)
end
mutual
inductive IE where
 |var (i:Nat)
 |int (i:Int)|str (x:Str)|bl (b:Bool)|non
 |glb (x:Str) (i:Int)
 |ty (c:Ty7)
 |bin (op:ZW) (a b:IE)
 |neg (a:IE)
 |not (a:IE)
 |cmp (op:CmpOp) (a b:IE)
 |chn (op op':CmpOp) (a b c:IE)
 |and (a b:IE)
 |or (a b:IE)
 |ife (c a b:IE)
 |tup (es:IEs)
 |lst (es:IEs)
 |dic
 |ix (a b:IE)
 |sl (a:IE) (lo hi:IO)
 |call (j:Nat) (e:IE) (es:IEs)
 |bi (f:BI) (e:IE) (es:IEs)
 |b2 (f:B2) (e:IE)
 |mt (m:MT) (o:IE) (es:IEs)
 |comp (own:List Str) (fr:List Nat) (src:ISr) (tg:ITg) (test:IO) (elt:IE)
 |fld (c:Str) (o:IE) (f:Str)
 |mcall (j:Nat) (c m:Str) (o:IE) (es:IEs)
 |make (j:Nat) (c:Str) (e:IE) (es:IEs)
 |disp (ps:IPs)
 |mxd (e:IE)
 |st3 (e:IE)
inductive IPs where|nil|cons (k v:IE) (r:IPs)
inductive IEs where|nil|cons (e:IE) (es:IEs)
inductive IO where|none|some (e:IE)
inductive ISr where|seq (e:IE)|rng (e:IE)|rng2 (a b:IE)|rng3 (a b c:IE)
end
noncomputable def wSt3(v:MV)(M:MH)(Q:QM):Prop:=∃(a:Addr) (xs:List MV),v=.ref a/\M a=some (.lst xs)/\∀p,M p=none->Q (.ref p) (updM M p (.lst (st3 xs)))
theorem ZlH{v:MV}{M:MH}{Q Q':QM}(hq:∀v M,Q v M->Q' v M)(h:wSt3 v M Q):wSt3 v M Q':=by
 obtain⟨a,xs,h1,h2,h3⟩:=h;exact⟨a,xs,h1,h2,λp hp=>hq _ _ (h3 p hp)⟩
noncomputable def wMxd(v:MV)(M:MH)(Q:QM):Prop:=∃(a:Addr) (ns:List Int),v=.ref a/\M a=some (.lst (ns.map MV.int))/\∀m,(ns=[]/\m=0\/m∈ns/\∀i∈ns,i≤m)->Q (.int m) M
theorem ZlI{v:MV}{M:MH}{Q Q':QM}(hq:∀v M,Q v M->Q' v M)(h:wMxd v M Q):wMxd v M Q':=by
 obtain⟨a,ns,h1,h2,h3⟩:=h;exact⟨a,ns,h1,h2,λm hm=>hq _ _ (h3 m hm)⟩
inductive Src where|tup (xs:List MV)|lst (a:Addr) (xs:List MV)|rng (lo:Int) (n:Nat)|rst (lo st:Int) (n:Nat)|dic (a:Addr) (o:Obj) (kvs:List (Key×MV))|str (x:Str)
noncomputable def kM:Key->MV
 |.inl i=>.int i
 |.inr x=>.str x
noncomputable def Src.items:Src->List MV
 |.tup xs=>xs
 |.lst _ xs=>xs
 |.rng lo n=>(XN n).map λi=>.int (lo+(i:Nat))
 |.rst lo st n=>(XN n).map λi=>.int (lo+(i:Nat)*st)
 |.dic _ _ kvs=>kvs.map λp=>kM p.1
 |.str x=>x.cps.toList.map λc=>.str ⟨#[c]⟩
noncomputable def Src.ok(M:MH):Src->Prop
 |.lst a xs=>M a=some (.lst xs)
 |.dic a o kvs=>M a=some (.fdic o kvs)
 |_=>True
noncomputable def Src.okF(M:MH):Src->Prop
 |.lst a xs=>M a=some (.lst xs)
 |.dic _ _ _=>False
 |_=>True
noncomputable def Src.okT(M:MH):Src->Prop
 |.dic a o kvs=>M a=some (.fdic o kvs)
 |_=>True
noncomputable def Src.thaw(M:MH):Src->MH
 |.dic a _ kvs=>updM M a (.dic kvs)
 |_=>M
noncomputable def Src.len:Src->Nat
 |.tup xs=>xs.length
 |.lst _ xs=>xs.length
 |.rng _ n=>n
 |.rst _ _ n=>n
 |.dic _ _ kvs=>kvs.length
 |.str x=>x.cps.size
theorem Src.items_len(S:Src):S.items.length=S.len:=by cases S<;>simp[Src.items,Src.len]
noncomputable abbrev SpM:=List MV->MH->QM->Prop
noncomputable abbrev TSm:=Sm->MH->(Src->MH->Prop)->Prop
mutual
noncomputable def wTg:ITg->MV->Sm->(Sm->Prop)->Prop
 |.nm i,v,σ,Q=>Q (σ.set i (some v))
 |.tup ts,v,σ,Q=>∃xs,v=.tup xs/\wTgs ts xs σ Q
noncomputable def wTgs:ITgs->List MV->Sm->(Sm->Prop)->Prop
 |.nil,xs,σ,Q=>xs=[]/\Q σ
 |.cons t ts,xs,σ,Q=>∃v r,xs=v::r/\wTg t v σ λσ'=>wTgs ts r σ' Q
end
noncomputable def sCm(own:List Str)(fr:List Nat)(σ:Sm):Sm:=own.map (λ_=>none)++fr.map (λi=>σ.getD i none)
noncomputable def onV(o:Option (Option MV))(k:MV->Prop):Prop:=match o with
 |some (some v)=>k v
 |_=>False
theorem ZnU{o:Option (Option MV)}{k:MV->Prop}:onV o k=∃v,o=some (some v)/\k v:=by
 refine propext ⟨λh=>?_,fun⟨v,e,h⟩=>by subst e;exact h⟩
 match o,h with
 |some (some v),h=>exact⟨v,rfl,h⟩
noncomputable def onB(x:MV)(k:Bool->Prop):Prop:=match x with
 |.bl c=>k c
 |_=>False
theorem VG{x:MV}{k:Bool->Prop}:onB x k=∃c,x=.bl c/\k c:=by
 refine propext ⟨λh=>?_,fun⟨v,e,h⟩=>by subst e;exact h⟩
 cases x<;>first|exact⟨_,rfl,h⟩|exact h.elim
noncomputable def onF(o:Option (Str×SpM))(k:SpM->Prop):Prop:=match o with
 |some p=>k p.2
 |none=>False
theorem ZnV{o:Option (Str×SpM)}{k:SpM->Prop}:onF o k=∃f sp,o=some (f,sp)/\k sp:=by
 refine propext ⟨λh=>?_,fun⟨f,v,e,h⟩=>by subst e;exact h⟩
 match o,h with
 |some (f,sp),h=>exact⟨f,sp,rfl,h⟩
mutual
noncomputable def wE(Φ:List (Str×SpM)):IE->TEm
 |.var i,σ,M,Q=>onV σ[i]? λv=>Q v M
 |.int i,_,M,Q=>Q (.int i) M
 |.str x,_,M,Q=>Q (.str x) M
 |.bl b,_,M,Q=>Q (.bl b) M
 |.non,_,M,Q=>Q .non M
 |.glb _ i,_,M,Q=>Q (.int i) M
 |.ty c,_,M,Q=>Q (.ty c) M
 |.bin op a b,σ,M,Q=>wE Φ a σ M λx M1=>wE Φ b σ M1 λy M2=>wBin op x y M2 Q
 |.neg a,σ,M,Q=>wE Φ a σ M λx M1=>∃i,x=.int i/\Q (.int (-i)) M1
 |.not a,σ,M,Q=>wE Φ a σ M λx M1=>onB x λb=>Q (.bl (!b)) M1
 |.cmp op a b,σ,M,Q=>wE Φ a σ M λx M1=>wE Φ b σ M1 λy M2=>wCmp op x y M2 Q
 |.chn op op' a b c,σ,M,Q=>wE Φ a σ M λx M1=>wE Φ b σ M1 λy M2=>wCmp op x y M2 λz M3=>onB z λk=>(if k=true then wE Φ c σ M3 λw M4=>wCmp op' y w M4 Q else Q (.bl false) M3)
 |.and a b,σ,M,Q=>wE Φ a σ M λx M1=>onB x λc=>(if c=true then wE Φ b σ M1 Q else Q (.bl false) M1)
 |.or a b,σ,M,Q=>wE Φ a σ M λx M1=>onB x λc=>(if c=true then Q (.bl true) M1 else wE Φ b σ M1 Q)
 |.ife c a b,σ,M,Q=>wE Φ c σ M λx M1=>onB x λk=>(if k=true then wE Φ a σ M1 Q else wE Φ b σ M1 Q)
 |.tup es,σ,M,Q=>wEs Φ es σ M λvs M1=>vs.length≤sizeLine/\Q (.tup vs) M1
 |.lst es,σ,M,Q=>wEs Φ es σ M λvs M1=>vs.length≤sizeLine/\∀p,M1 p=none->Q (.ref p) (updM M1 p (.lst vs))
 |.dic,_,M,Q=>∀p,M p=none->Q (.ref p) (updM M p (.dic []))
 |.ix a b,σ,M,Q=>wE Φ a σ M λx M1=>wE Φ b σ M1 λy M2=>wIx x y M2 Q
 |.sl a lo hi,σ,M,Q=>wE Φ a σ M λx M1=>wO Φ lo σ M1 λl M2=>wO Φ hi σ M2 λh M3=>wSl x l h M3 Q
 |.call j e es,σ,M,Q=>wE Φ e σ M λv M1=>wEs Φ es σ M1 λvs M2=>onF Φ[j]? λsp=>sp (v::vs) M2 Q
 |.bi f e es,σ,M,Q=>wE Φ e σ M λv M1=>wEs Φ es σ M1 λvs M2=>wBi f (v::vs) M2 Q
 |.b2 f e,σ,M,Q=>wE Φ e σ M λv M1=>wB2 f v M1 Q
 |.mxd e,σ,M,Q=>wE Φ e σ M λv M1=>wMxd v M1 Q
 |.st3 e,σ,M,Q=>wE Φ e σ M λv M1=>wSt3 v M1 Q
 |.mt m o es,σ,M,Q=>wE Φ o σ M λx M1=>mtOk m x M1/\wEs Φ es σ M1 λvs M2=>wMts m x vs M2 Q
 |.comp own fr src tg test elt,σ,M,Q=>wSr Φ src σ M λS M1=>S.len<sizeLine/\∀D,M1 D=none->∃J:Nat->List MV->MH->Prop,J 0 [] (updM M1 D (.lst []))/\
   (∀i ys M2,J i ys M2->M2 D=some (.lst ys)/\ys.length≤i/\S.ok M2)/\
   (∀i x ys M2,S.items[i]?=some x->J i ys M2->wTg tg x (sCm own fr σ) λσ2=>wI Φ test σ2 M2 λb M4=>
    if b=true then wE Φ elt σ2 M4 λy M5=>M5 D=some (.lst ys)/\J (i+1) (ys++[y]) (updM M5 D (.lst (ys++[y])))else J (i+1) ys M4)/\
   ∀ys M2,J S.len ys M2->Q (.ref D) (S.thaw M2)
 |.fld c o f,σ,M,Q=>wE Φ o σ M λx M1=>∃a fs v,x=.ref a/\M1 a=some (.ins c fs)/\valM fs f=some v/\Q v M1
 |.mcall j c m o es,σ,M,Q=>wE Φ o σ M λx M1=>∃a fs,x=.ref a/\M1 a=some (.ins c fs)/\valM fs m=none/\wEs Φ es σ M1 λvs M2=>∃f sp,Φ[j]?=some (f,sp)/\sp (.ref a::vs) M2 Q
 |.make j c e es,σ,M,Q=>wE Φ e σ M λv M1=>wEs Φ es σ M1 λvs M2=>∃f sp,Φ[j]?=some (f,sp)/\∀p,M2 p=none->sp (.ref p::v::vs) (updM M2 p (.ins c [])) λu M3=>u=.non/\Q (.ref p) M3
 |.disp ps,σ,M,Q=>∀p,M p=none->wPs Φ ps σ (updM M p (.dic [])) λl M2=>M2 p=some (.dic [])/\l.length≤15/\Q (.ref p) (updM M2 p (.dic (Ub l)))
noncomputable def wPs(Φ:List (Str×SpM)):IPs->Sm->MH->(List (Key×MV)->MH->Prop)->Prop
 |.nil,_,M,Q=>Q [] M
 |.cons k v r,σ,M,Q=>wE Φ k σ M λx M1=>∃kk,keyM x=some kk/\wE Φ v σ M1 λy M2=>wPs Φ r σ M2 λl M3=>Q ((kk,y)::l) M3
noncomputable def wEs(Φ:List (Str×SpM)):IEs->TAm
 |.nil,_,M,Q=>Q [] M
 |.cons e es,σ,M,Q=>wE Φ e σ M λv M1=>wEs Φ es σ M1 λvs M2=>Q (v::vs) M2
noncomputable def wO(Φ:List (Str×SpM)):IO->Sm->MH->(Option Int->MH->Prop)->Prop
 |.none,_,M,Q=>Q none M
 |.some e,σ,M,Q=>wE Φ e σ M λv M1=>∃i,v=.int i/\Q (some i) M1
noncomputable def wI(Φ:List (Str×SpM)):IO->Sm->MH->(Bool->MH->Prop)->Prop
 |.none,_,M,Q=>Q true M
 |.some e,σ,M,Q=>wE Φ e σ M λv M1=>∃b,v=.bl b/\Q b M1
noncomputable def wSr(Φ:List (Str×SpM)):ISr->TSm
 |.seq e,σ,M,Q=>wE Φ e σ M λv M1=>(∃xs,(v=.tup xs\/v=.frl xs)/\Q (.tup xs) M1)\/(∃a xs,v=.ref a/\M1 a=some (.lst xs)/\Q (.lst a xs) M1)\/(∃a kvs,v=.ref a/\M1 a=some (.dic kvs)/\∀o,Q (.dic a o kvs) (updM M1 a (.fdic o kvs)))\/∃z,v=.str z/\Q (.str z) M1
 |.rng e,σ,M,Q=>wE Φ e σ M λv M1=>∃j,v=.int j/\ -(2^62)≤j/\j<2^62/\Q (.rng 0 j.toNat) M1
 |.rng2 a b,σ,M,Q=>wE Φ a σ M λx M1=>wE Φ b σ M1 λy M2=>∃i j,x=.int i/\y=.int j/\(-(2^62)≤i/\i<2^62/\ -(2^62)≤j/\j<2^62)/\Q (.rng i (j - i).toNat) M2
 |.rng3 a b c,σ,M,Q=>wE Φ a σ M λx M1=>wE Φ b σ M1 λy M2=>wE Φ c σ M2 λz M3=>∃i j,x=.int i/\y=.int j/\z=.int 2/\(0≤i/\i<2^60/\0≤j/\j<2^60)/\Q (.rst i 2 (len2 i j)) M3
end
section
variable{Φ:List (Str×SpM)}{σ:Sm}{M:MH}{Q:QM}
theorem IT{i:Nat}:wE Φ (.var i) σ M Q=∃v,σ[i]?=some (some v)/\Q v M:=ZnU
theorem DQ{a:IE}:wE Φ (.not a) σ M Q=wE Φ a σ M λx M1=>∃b,x=.bl b/\Q (.bl (!b)) M1:=congrArg (wE Φ a σ M) (funext λ_=>funext λ_=>VG)
theorem IU{op op':CmpOp}{a b c:IE}:wE Φ (.chn op op' a b c) σ M Q=wE Φ a σ M λx M1=>wE Φ b σ M1 λy M2=>wCmp op x y M2 λz M3=>∃k,z=.bl k/\(if k=true then wE Φ c σ M3 λw M4=>wCmp op' y w M4 Q else Q (.bl false) M3):=congrArg (wE Φ a σ M) (funext λ_=>funext λ_=>congrArg (wE Φ b σ _) (funext λ_=>funext λ_=>congrArg (wCmp op _ _ _) (funext λ_=>funext λ_=>VG)))
theorem DR{a b:IE}:wE Φ (.and a b) σ M Q=wE Φ a σ M λx M1=>∃c,x=.bl c/\(if c=true then wE Φ b σ M1 Q else Q (.bl false) M1):=congrArg (wE Φ a σ M) (funext λ_=>funext λ_=>VG)
theorem x_or{a b:IE}:wE Φ (.or a b) σ M Q=wE Φ a σ M λx M1=>∃c,x=.bl c/\(if c=true then Q (.bl true) M1 else wE Φ b σ M1 Q):=congrArg (wE Φ a σ M) (funext λ_=>funext λ_=>VG)
theorem IV{a b c:IE}:wE Φ (.ife c a b) σ M Q=wE Φ c σ M λx M1=>∃k,x=.bl k/\(if k=true then wE Φ a σ M1 Q else wE Φ b σ M1 Q):=congrArg (wE Φ c σ M) (funext λ_=>funext λ_=>VG)
theorem IW{j:Nat}{e:IE}{es:IEs}:wE Φ (.call j e es) σ M Q=wE Φ e σ M λv M1=>wEs Φ es σ M1 λvs M2=>∃f sp,Φ[j]?=some (f,sp)/\sp (v::vs) M2 Q:=congrArg (wE Φ e σ M) (funext λ_=>funext λ_=>congrArg (wEs Φ es σ _) (funext λ_=>funext λ_=>ZnV))
end
mutual
theorem Ut:∀(t:ITg) {v:MV} {σ:Sm} {Q Q':Sm->Prop},(∀σ,Q σ->Q' σ)->wTg t v σ Q->wTg t v σ Q'
 |.nm i,v,σ,Q,Q',hq,h=>by exact hq _ h
 |.tup ts,v,σ,Q,Q',hq,h=>by
  obtain⟨xs,e,h⟩:=h;exact⟨xs,e,mon_tgs ts hq h⟩
theorem mon_tgs:∀(t:ITgs) {v:List MV} {σ:Sm} {Q Q':Sm->Prop},(∀σ,Q σ->Q' σ)->wTgs t v σ Q->wTgs t v σ Q'
 |.nil,v,σ,Q,Q',hq,h=>by exact⟨h.1,hq _ h.2⟩
 |.cons t ts,v,σ,Q,Q',hq,h=>by
  obtain⟨x,r,e,h⟩:=h;exact⟨x,r,e,Ut t (λσ' h'=>mon_tgs ts hq h') h⟩
end
theorem YS{c:Prop} [Decidable c] {A B A' B':Prop}(ha:A->A')(hb:B->B')(h:if c then A else B):if c then A' else B':=by
 split at h
 ·rw[if_pos (by assumption)];exact ha h
 ·rw[if_neg (by assumption)];exact hb h
mutual
theorem Xc{Φ:List (Str×SpM)}(hΦ:∀(j:Nat) f sp,Φ[j]?=some (f,sp)->MonW sp):∀e:IE,MonE (wE Φ e)
 |.var i,σ,M,Q,Q',hq,h=>by rw[IT]at h ⊢;obtain⟨v,e,h⟩:=h;exact⟨v,e,hq _ _ h⟩
 |.int _,σ,M,Q,Q',hq,h=>by exact hq _ _ h
 |.str _,σ,M,Q,Q',hq,h=>by exact hq _ _ h
 |.bl _,σ,M,Q,Q',hq,h=>by exact hq _ _ h
 |.non,σ,M,Q,Q',hq,h=>by exact hq _ _ h
 |.glb _ _,σ,M,Q,Q',hq,h=>by exact hq _ _ h
 |.ty _,σ,M,Q,Q',hq,h=>by exact hq _ _ h
 |.bin op a b,σ,M,Q,Q',hq,h=>by
  exact Xc hΦ a (λx M1 h1=>Xc hΦ b (λy M2 h2=>Im op hq h2) h1) h
 |.neg a,σ,M,Q,Q',hq,h=>by
  exact Xc hΦ a (λx M1 ⟨i,e,h1⟩=>⟨i,e,hq _ _ h1⟩) h
 |.not a,σ,M,Q,Q',hq,h=>by
  rw[DQ]at h ⊢;exact Xc hΦ a (λx M1 ⟨i,e,h1⟩=>⟨i,e,hq _ _ h1⟩) h
 |.cmp op a b,σ,M,Q,Q',hq,h=>by
  exact Xc hΦ a (λx M1 h1=>Xc hΦ b (λy M2 h2=>VE op hq h2) h1) h
 |.chn op op' a b c,σ,M,Q,Q',hq,h=>by
  rw[IU]at h ⊢;exact Xc hΦ a (λx M1 h1=>Xc hΦ b (λy M2 h2=>VE op (λz M3 ⟨k,e,h3⟩=>⟨k,e,YS (Xc hΦ c λw M4 h4=>VE op' hq h4) (hq _ _) h3⟩) h2) h1) h
 |.and a b,σ,M,Q,Q',hq,h=>by
  rw[DR]at h ⊢;exact Xc hΦ a (λx M1 ⟨c,e,h1⟩=>⟨c,e,YS (Xc hΦ b hq) (hq _ _) h1⟩) h
 |.or a b,σ,M,Q,Q',hq,h=>by
  rw[x_or]at h ⊢;exact Xc hΦ a (λx M1 ⟨c,e,h1⟩=>⟨c,e,YS (hq _ _) (Xc hΦ b hq) h1⟩) h
 |.ife c a b,σ,M,Q,Q',hq,h=>by
  rw[IV]at h ⊢;exact Xc hΦ c (λx M1 ⟨k,e,h1⟩=>⟨k,e,YS (Xc hΦ a hq) (Xc hΦ b hq) h1⟩) h
 |.tup es,σ,M,Q,Q',hq,h=>by
  exact mon_es hΦ es (λvs M1 ⟨e,h1⟩=>⟨e,hq _ _ h1⟩) h
 |.lst es,σ,M,Q,Q',hq,h=>by
  exact mon_es hΦ es (λvs M1 ⟨e,h1⟩=>⟨e,λp hp=>hq _ _ (h1 p hp)⟩) h
 |.dic,σ,M,Q,Q',hq,h=>by
  exact λp hp=>hq _ _ (h p hp)
 |.ix a b,σ,M,Q,Q',hq,h=>by
  exact Xc hΦ a (λx M1 h1=>Xc hΦ b (λy M2 h2=>ID hq h2) h1) h
 |.sl a lo hi,σ,M,Q,Q',hq,h=>by
  exact Xc hΦ a (λx M1 h1=>mon_o hΦ lo (λy M2 h2=>mon_o hΦ hi (λz M3 h3=>IG hq h3) h2) h1) h
 |.call j e es,σ,M,Q,Q',hq,h=>by
  rw[IW]at h ⊢;exact Xc hΦ e (λx M1 h1=>mon_es hΦ es (λy M2 ⟨f,sp,e,h2⟩=>⟨f,sp,e,hΦ _ _ _ e hq h2⟩) h1) h
 |.bi f e es,σ,M,Q,Q',hq,h=>by
  exact Xc hΦ e (λx M1 h1=>mon_es hΦ es (λy M2 h2=>II f hq h2) h1) h
 |.b2 f e,σ,M,Q,Q',hq,h=>by
  exact Xc hΦ e (λx M1 h1=>IK f hq h1) h
 |.mxd e,σ,M,Q,Q',hq,h=>by
  exact Xc hΦ e (λx M1 h1=>ZlI hq h1) h
 |.st3 e,σ,M,Q,Q',hq,h=>by
  exact Xc hΦ e (λx M1 h1=>ZlH hq h1) h
 |.mt m o es,σ,M,Q,Q',hq,h=>by
  exact Xc hΦ o (λx M1 ⟨h0,h1⟩=>⟨h0,mon_es hΦ es (λy M2 h2=>DP hq h2) h1⟩) h
 |.comp own fr src tg test elt,σ,M,Q,Q',hq,h=>by
  exact mon_sr hΦ src (λS M1 ⟨hz,h1⟩=>⟨hz,λD hD=>by
   obtain⟨J,j0,j1,j2,j3⟩:=h1 D hD;exact⟨J,j0,j1,j2,λys M2 hj=>hq _ _ (j3 ys M2 hj)⟩⟩) h
 |.fld c o f,σ,M,Q,Q',hq,h=>by
  exact Xc hΦ o (λx M1 ⟨a,fs,v,e,e2,e3,h1⟩=>⟨a,fs,v,e,e2,e3,hq _ _ h1⟩) h
 |.mcall j c m o es,σ,M,Q,Q',hq,h=>by
  exact Xc hΦ o (λx M1 ⟨a,fs,e,e2,e3,h1⟩=>⟨a,fs,e,e2,e3,mon_es hΦ es (λy M2 ⟨f,sp,e,h2⟩=>⟨f,sp,e,hΦ _ _ _ e hq h2⟩) h1⟩) h
 |.make j c e es,σ,M,Q,Q',hq,h=>by
  exact Xc hΦ e (λx M1 h1=>mon_es hΦ es (λy M2 ⟨f,sp,e,h2⟩=>⟨f,sp,e,λp hp=>hΦ _ _ _ e (λm M' z=>⟨z.1,hq _ _ z.2⟩) (h2 p hp)⟩) h1) h
 |.disp ps,σ,M,Q,Q',hq,h=>by
  exact λp hp=>mon_ps hΦ ps (λl M2 ⟨e,e2,h1⟩=>⟨e,e2,hq _ _ h1⟩) (h p hp)
theorem mon_ps{Φ:List (Str×SpM)}(hΦ:∀(j:Nat) f sp,Φ[j]?=some (f,sp)->MonW sp):∀(e:IPs) {σ M} {Q Q':List (Key×MV)->MH->Prop},(∀m M',Q m M'->Q' m M')->wPs Φ e σ M Q->wPs Φ e σ M Q'
 |.nil,σ,M,Q,Q',hq,h=>by exact hq _ _ h
 |.cons k v r,σ,M,Q,Q',hq,h=>by
  exact Xc hΦ k (λx M1 ⟨kk,e,h1⟩=>⟨kk,e,Xc hΦ v (λy M2 h2=>mon_ps hΦ r (λl M3 h3=>hq _ _ h3) h2) h1⟩) h
theorem mon_es{Φ:List (Str×SpM)}(hΦ:∀(j:Nat) f sp,Φ[j]?=some (f,sp)->MonW sp):∀e:IEs,MonA (wEs Φ e)
 |.nil,σ,M,Q,Q',hq,h=>by exact hq _ _ h
 |.cons e es,σ,M,Q,Q',hq,h=>by
  exact Xc hΦ e (λx M1 h1=>mon_es hΦ es (λy M2 h2=>hq _ _ h2) h1) h
theorem mon_o{Φ:List (Str×SpM)}(hΦ:∀(j:Nat) f sp,Φ[j]?=some (f,sp)->MonW sp):∀(e:IO) {σ M} {Q Q':Option Int->MH->Prop},(∀m M',Q m M'->Q' m M')->wO Φ e σ M Q->wO Φ e σ M Q'
 |.none,σ,M,Q,Q',hq,h=>by exact hq _ _ h
 |.some e,σ,M,Q,Q',hq,h=>by
  exact Xc hΦ e (λx M1 ⟨i,e,h1⟩=>⟨i,e,hq _ _ h1⟩) h
theorem mon_i{Φ:List (Str×SpM)}(hΦ:∀(j:Nat) f sp,Φ[j]?=some (f,sp)->MonW sp):∀(e:IO) {σ M} {Q Q':Bool->MH->Prop},(∀m M',Q m M'->Q' m M')->wI Φ e σ M Q->wI Φ e σ M Q'
 |.none,σ,M,Q,Q',hq,h=>by exact hq _ _ h
 |.some e,σ,M,Q,Q',hq,h=>by
  exact Xc hΦ e (λx M1 ⟨i,e,h1⟩=>⟨i,e,hq _ _ h1⟩) h
theorem mon_sr{Φ:List (Str×SpM)}(hΦ:∀(j:Nat) f sp,Φ[j]?=some (f,sp)->MonW sp):∀(e:ISr) {σ M} {Q Q':Src->MH->Prop},(∀m M',Q m M'->Q' m M')->wSr Φ e σ M Q->wSr Φ e σ M Q'
 |.seq e,σ,M,Q,Q',hq,h=>by
  exact Xc hΦ e (λx M1 h1=>by
   rcases h1 with⟨xs,e,h1⟩|⟨a,xs,e,e2,h1⟩|⟨a,xs,e,e2,h1⟩|⟨z,e,h1⟩
   ·exact .inl ⟨xs,e,hq _ _ h1⟩
   ·exact .inr (.inl ⟨a,xs,e,e2,hq _ _ h1⟩)
   ·exact .inr (.inr (.inl ⟨a,xs,e,e2,λo=>hq _ _ (h1 o)⟩))
   ·exact .inr (.inr (.inr ⟨z,e,hq _ _ h1⟩))) h
 |.rng e,σ,M,Q,Q',hq,h=>by
  exact Xc hΦ e (λx M1 ⟨j,e,a,b,h1⟩=>⟨j,e,a,b,hq _ _ h1⟩) h
 |.rng2 a b,σ,M,Q,Q',hq,h=>by
  exact Xc hΦ a (λx M1 h1=>Xc hΦ b (λy M2 ⟨i,j,e,e2,c,h2⟩=>⟨i,j,e,e2,c,hq _ _ h2⟩) h1) h
 |.rng3 a b c,σ,M,Q,Q',hq,h=>by
  exact Xc hΦ a (λx M1 h1=>Xc hΦ b (λy M2 h2=>Xc hΦ c (λz M3 ⟨i,j,e,e2,e3,c,h3⟩=>⟨i,j,e,e2,e3,c,hq _ _ h3⟩) h2) h1) h
end
end L2
namespace L2
open PySem PySem.Spec PyProof.Rows
structure GI where
 bl:List Str
 gl:List (Str×Int)
 fns:List Str
 mts:List (Nat×Str×Str):=[]
 mks:List (Nat×Str):=[]
 cls:List (Str×Str):=[]
noncomputable def visB(sc:Scope)(x:Str):Bool:=match sc.names.lookup x with
 |some .local=>true|some .cell=>true|some .free=>true|_=>false
noncomputable def locB(sc:Scope)(x:Str):Bool:=match sc.names.lookup x with
 |some .local=>true|some .cell=>true|_=>false
noncomputable def glB(sc:Scope)(x:Str):Bool:=decide (sc.names.lookup x=some .globalImplicit)&& !(x==("__debug__":Str))&&decide (x≠"__name__")
noncomputable def VH(scope osc:Scope):Scope:={scope with names:=scope.names.map fun(n,k)=>if(k==.free&&osc.kind==.function&&osc.names.lookup n==some .cell)then(n,.cell)else(n,k)}
noncomputable def BI.name:BI->String
 |.len=>"len"|.isinst=>"isinstance"|.max=>"max"|.min=>"min"|.sum=>"sum"|.abs=>"abs"|.int=>"int"|.list=>"list"|.tuple=>"tuple"|.dict=>"dict"|.sorted=>"sorted"|.dictL=>"dict"|.all=>"all"
noncomputable def MT.name:MT->String
 |.dclear=>"clear"|.dget=>"get"|.dgetD=>"get"|.join=>"join"
 |.append=>"append"|.extend=>"extend"|.reverse=>"reverse"|.clear=>"clear"|.pop=>"pop"|.popAt=>"pop"|.remove=>"remove"
noncomputable def Wu:Expr->Bool
 |.Slice ..=>false|_=>true
noncomputable def Wv:Expr->Bool
 |.Set ..=>false|_=>true
noncomputable def tok:IE->Bool
 |.ife ..=>false
 |.not a=>tok a
 |.and a b=>tok a&&tok b
 |.or a b=>tok a&&tok b
 |_=>true
noncomputable def YT:Expr->Option Str|.Name x _=>some x|_=>none
noncomputable def VI:Expr->Option Const|.Constant c _ _=>some c|_=>none
noncomputable def DS:Expr->Option (Expr×ZW×Expr)|.BinOp l o r _=>some (l,o,r)|_=>none
noncomputable def asUn:Expr->Option (UnaryOp×Expr)|.UnaryOp o x _=>some (o,x)|_=>none
noncomputable def C5:Expr->Option (Expr×List CmpOp×List Expr)|.Compare l o r _=>some (l,o,r)|_=>none
noncomputable def C6:Expr->Option (BoolOp×List Expr×Pos)|.BoolOp o vs p=>some (o,vs,p)|_=>none
noncomputable def asIf:Expr->Option (Expr×Expr×Expr)|.IfExp t x y _=>some (t,x,y)|_=>none
noncomputable def Ww:Expr->Option (List Expr)|.Tuple xs _ _=>some xs|_=>none
noncomputable def DT:Expr->Option (List Expr)|.List xs _=>some xs|_=>none
noncomputable def DU:Expr->Option (List (Option Expr)×List Expr)|.Dict ks vs _=>some (ks,vs)|_=>none
noncomputable def Wx:Expr->Option (Expr×Expr)|.Subscript x y _=>some (x,y)|_=>none
noncomputable def asSl:Expr->Option (Option Expr×Option Expr×Option Expr)|.Slice l u s _=>some (l,u,s)|_=>none
noncomputable def ZO:Expr->Option (Expr×List Expr×List Zs×Pos)|.Call f xs ks p=>some (f,xs,ks,p)|_=>none
noncomputable def DV:Expr->Option (Expr×Str×Pos)|.Attribute o n p=>some (o,n,p)|_=>none
noncomputable def asLC:Expr->Option (Expr×List Comprehension×Scope)|.ListComp e gs sc _=>some (e,gs,sc)|_=>none
noncomputable def the1{α:Type}:List α->Option α|[x]=>some x|_=>none
noncomputable def the3{α:Type}:List α->Option (α×α×α)|[x,y,z]=>some (x,y,z)|_=>none
noncomputable def the2{α:Type}:List α->Option (α×α)|[x,y]=>some (x,y)|_=>none
noncomputable def hd1{α:Type}:List α->Option (α×List α)|x::r=>some (x,r)|_=>none
noncomputable def hd2{α:Type}:List α->Option (α×α×List α)|x::y::r=>some (x,y,r)|_=>none
noncomputable def non0{α:Type}:List α->Bool|[]=>true|_=>false
theorem Xj{α:Type}{o:Option α}{p:α->Bool}(h:o.any p=true):∃x,o=some x/\p x=true:=by
 cases o with
 |none=>cases h
 |some x=>exact⟨x,rfl,h⟩
section
variable{e:Expr}
theorem Zb{x:Str}(h:YT e=some x):∃p,e=.Name x p:=by cases e<;>cases h;exact⟨_,rfl⟩
theorem C7{x:Const}(h:VI e=some x):∃k p,e=.Constant x k p:=by cases e<;>cases h;exact⟨_,_,rfl⟩
theorem ZjQ{x:Expr×ZW×Expr}(h:DS e=some x):∃p,e=.BinOp x.1 x.2.1 x.2.2 p:=by cases e<;>cases h;exact⟨_,rfl⟩
theorem Zmu{x:UnaryOp×Expr}(h:asUn e=some x):∃p,e=.UnaryOp x.1 x.2 p:=by cases e<;>cases h;exact⟨_,rfl⟩
theorem IX{x:Expr×List CmpOp×List Expr}(h:C5 e=some x):∃p,e=.Compare x.1 x.2.1 x.2.2 p:=by cases e<;>cases h;exact⟨_,rfl⟩
theorem IY{x:BoolOp×List Expr×Pos}(h:C6 e=some x):e=.BoolOp x.1 x.2.1 x.2.2:=by cases e<;>cases h;rfl
theorem Zmy{x:Expr×Expr×Expr}(h:asIf e=some x):∃p,e=.IfExp x.1 x.2.1 x.2.2 p:=by cases e<;>cases h;exact⟨_,rfl⟩
theorem DW{x:List Expr}(h:Ww e=some x):∃k p,e=.Tuple x k p:=by cases e<;>cases h;exact⟨_,_,rfl⟩
theorem ZjK{x:List Expr}(h:DT e=some x):∃p,e=.List x p:=by cases e<;>cases h;exact⟨_,rfl⟩
theorem ZjN{x:List (Option Expr)×List Expr}(h:DU e=some x):∃p,e=.Dict x.1 x.2 p:=by cases e<;>cases h;exact⟨_,rfl⟩
theorem DX{x:Expr×Expr}(h:Wx e=some x):∃p,e=.Subscript x.1 x.2 p:=by cases e<;>cases h;exact⟨_,rfl⟩
theorem Zmv{x:Option Expr×Option Expr×Option Expr}(h:asSl e=some x):∃p,e=.Slice x.1 x.2.1 x.2.2 p:=by cases e<;>cases h;exact⟨_,rfl⟩
theorem Uu{x:Expr×List Expr×List Zs×Pos}(h:ZO e=some x):e=.Call x.1 x.2.1 x.2.2.1 x.2.2.2:=by cases e<;>cases h;rfl
theorem ZjR{x:Expr×Str×Pos}(h:DV e=some x):e=.Attribute x.1 x.2.1 x.2.2:=by cases e<;>cases h;rfl
theorem Zmx{x:Expr×List Comprehension×Scope}(h:asLC e=some x):∃p,e=.ListComp x.1 x.2.1 x.2.2 p:=by cases e<;>cases h;exact⟨_,rfl⟩
theorem ZP{α:Type}{l:List α}{x:α}(h:the1 l=some x):l=[x]:=by
 match l,h with
 |[_],h=>cases h;rfl
theorem DY{α:Type}{l:List α}{x:α×α}(h:the2 l=some x):l=[x.1,x.2]:=by
 match l,h with
 |[_,_],h=>cases h;rfl
theorem ZkR{α:Type}{l:List α}{x:α×α×α}(h:the3 l=some x):l=[x.1,x.2.1,x.2.2]:=by
 match l,h with
 |[_,_,_],h=>cases h;rfl
theorem Uv{α:Type}{l:List α}{x:α×List α}(h:hd1 l=some x):l=x.1::x.2:=by
 match l,h with
 |_::_,h=>cases h;rfl
theorem IZ{α:Type}{l:List α}{x:α×α×List α}(h:hd2 l=some x):l=x.1::x.2.1::x.2.2:=by
 match l,h with
 |_::_::_,h=>cases h;rfl
theorem YA{α:Type}{l:List α}(h:non0 l=true):l=[]:=by
 match l,h with
 |[],_=>rfl
end
noncomputable def J0(e:Expr):Bool:=(YT e).isSome||(VI e).isSome||(DS e).isSome||(asUn e).isSome||(C5 e).isSome||(C6 e).isSome||(asIf e).isSome||(Ww e).isSome||(DT e).isSome||(DU e).isSome||(Wx e).isSome||(ZO e).isSome||(asLC e).isSome||(DV e).isSome
mutual
noncomputable def Zc(sc:Scope)(N:List Str)(lim:Nat)(all:Bool):ITg->Expr->Bool
 |.nm i,e=>(YT e).any λx=>decide (N[i]?=some x)&&decide (i<lim)&&(if all then locB sc x else decide (sc.names.lookup x=some .local))
 |.tup ts,e=>(Ww e).any λes=>chkTgs sc N lim all ts es
noncomputable def chkTgs(sc:Scope)(N:List Str)(lim:Nat)(all:Bool):ITgs->List Expr->Bool
 |.nil,l=>non0 l
 |.cons t ts,l=>(hd1 l).any λq=>Zc sc N lim all t q.1&&chkTgs sc N lim all ts q.2
end
mutual
noncomputable def chkE(G:GI):IE->Scope->List Str->Expr->Bool
 |.var i,sc,N,e=>(YT e).any fun x=>decide (N[i]?=some x)&&visB sc x&& !(x==("__debug__":Str))&& !(x==("__classdict__":Str))
 |.int i,_,_,e=>(VI e).any λc=>decide (c=.int i)
 |.str x,_,_,e=>(VI e).any λc=>decide (c=.str x)
 |.bl b,_,_,e=>(VI e).any λc=>decide (c=.bool b)
 |.non,_,_,e=>(VI e).any λc=>decide (c=.none)
 |.glb x i,sc,_,e=>(YT e).any λy=>decide (x=y)&&decide (G.gl.lookup x=some i)&&glB sc x
 |.ty c,sc,_,e=>(YT e).any λy=>decide (y=(c.name:Str))&&decide (c≠.none)&&G.bl.contains y&&glB sc y
 |.bin op a b,sc,N,e=>(DS e).any λq=>decide (op=q.2.1)&&chkE G a sc N q.1&&chkE G b sc N q.2.2
 |.neg a,_,_,_=>false
 |.not a,sc,N,e=>(asUn e).any λq=>decide (q.1=.Not)&&chkE G a sc N q.2
 |.cmp op a b,sc,N,e=>(C5 e).any λq=>(the1 q.2.1).any λo=>(the1 q.2.2).any λr=>decide (op=o)&&chkE G a sc N q.1&&chkE G b sc N r&& !behindInMarks op r
 |.chn op op' a b c,sc,N,e=>(C5 e).any λq=>(the2 q.2.1).any λo=>(the2 q.2.2).any λr=>decide (op=o.1)&&decide (op'=o.2)&&chkE G a sc N q.1&&chkE G b sc N r.1&&chkE G c sc N r.2&& !lastMarks [op,op'] [r.1,r.2]
 |.and a b,sc,N,e=>(C6 e).any λq=>(hd2 q.2.1).any λv=>decide (q.1=.And)&&chkE G a sc N v.1&&chkE G b sc N (if non0 v.2.2 then v.2.1 else .BoolOp .And (v.2.1::v.2.2) q.2.2)
 |.or a b,sc,N,e=>(C6 e).any λq=>(hd2 q.2.1).any λv=>decide (q.1=.Or)&&chkE G a sc N v.1&&chkE G b sc N (if non0 v.2.2 then v.2.1 else .BoolOp .Or (v.2.1::v.2.2) q.2.2)
 |.ife c a b,sc,N,e=>(asIf e).any λq=>tok c&&chkE G c sc N q.1&&chkE G a sc N q.2.1&&chkE G b sc N q.2.2
 |.tup es,sc,N,e=>(Ww e).any λxs=>chkEs G es sc N xs
 |.lst es,sc,N,e=>(DT e).any λxs=>chkEs G es sc N xs
 |.dic,_,_,e=>(DU e).any λq=>non0 q.1&&non0 q.2
 |.ix a b,sc,N,e=>(Wx e).any λq=>chkE G a sc N q.1&&chkE G b sc N q.2&&Wu q.2
 |.sl a lo hi,sc,N,e=>(Wx e).any λq=>(asSl q.2).any λs=>chkE G a sc N q.1&&chkO G lo sc N s.1&&chkO G hi sc N s.2.1&& !s.2.2.isSome
 |.call j f es,sc,N,e=>(ZO e).any λq=>(YT q.1).any λg=>(hd1 q.2.1).any λx=>non0 q.2.2.1&&decide (G.fns[j]?=some g)&&glB sc g&&chkE G f sc N x.1&&chkEs G es sc N x.2
 |.bi f a es,sc,N,e=>(ZO e).any λq=>(YT q.1).any λg=>(hd1 q.2.1).any λx=>non0 q.2.2.1&&decide (g=(f.name:Str))&&G.bl.contains g&&glB sc g&&chkE G a sc N x.1&&chkEs G es sc N x.2
 |.b2 f a,sc,N,e=>(ZO e).any λq=>(YT q.1).any λg=>(the1 q.2.1).any λy=>(ZO y).any λr=>(YT r.1).any λk=>(the1 r.2.1).any λx=>non0 q.2.2.1&&non0 r.2.2.1&&decide (g=(f.out:Str))&&decide (k=(f.inn:Str))&&G.bl.contains g&&G.bl.contains k&&glB sc g&&glB sc k&&chkE G a sc N x
 |.st3 a,_,_,_=>false
 |.mxd a,_,_,_=>false
 |.mt m o es,sc,N,e=>(ZO e).any λq=>(DV q.1).any λa=>non0 q.2.2.1&&decide (a.2.1=(m.name:Str))&&(a.2.2.endLine==q.2.2.2.line)&&chkE G o sc N a.1&&chkEs G es sc N q.2.1&&decide (q.2.1.length<20)
 |.comp own fr src tg test elt,sc,N,e=>(asLC e).any λq=>(the1 q.2.1).any λg=>Vz sc q.2.2 N own fr&&Wv g.iter&&decide (nC own fr N).Nodup&&chkSr G src sc N g.iter&&Zc (VH q.2.2 sc) (nC own fr N) own.length false tg g.target&&
   chkI G test (VH q.2.2 sc) (nC own fr N) g.ifs&&chkE G elt (VH q.2.2 sc) (nC own fr N) q.1&&decide (g.is_async=0)
 |.fld c o f,_,_,_=>false
 |.mcall j c m o es,_,_,_=>false
 |.make j c a es,_,_,_=>false
 |.disp ps,_,_,_=>false
noncomputable def Wy(G:GI):IPs->Scope->List Str->List (Option Expr)->List Expr->Bool
 |.nil,_,_,l,r=>non0 l&&non0 r
 |.cons k v ps,sc,N,l,r=>(hd1 l).any λq=>(hd1 r).any λs=>q.1.any λx=>chkE G k sc N x&&chkE G v sc N s.1&&Wy G ps sc N q.2 s.2
noncomputable def chkEs(G:GI):IEs->Scope->List Str->List Expr->Bool
 |.nil,_,_,l=>non0 l
 |.cons e es,sc,N,l=>(hd1 l).any λq=>chkE G e sc N q.1&&chkEs G es sc N q.2
noncomputable def chkO(G:GI):IO->Scope->List Str->Option Expr->Bool
 |.none,_,_,o=>!o.isSome
 |.some e,sc,N,o=>o.any λx=>chkE G e sc N x
noncomputable def chkI(G:GI):IO->Scope->List Str->List Expr->Bool
 |.none,_,_,l=>non0 l
 |.some e,sc,N,l=>(the1 l).any λx=>tok e&&chkE G e sc N x
noncomputable def chkSr(G:GI):ISr->Scope->List Str->Expr->Bool
 |.seq a,sc,N,e=>chkE G a sc N e
 |.rng a,sc,N,e=>(ZO e).any fun q=>(YT q.1).any fun f=>(the1 q.2.1).any fun x=>non0 q.2.2.1&&decide (f=("range":Str))&&G.bl.contains f&&glB sc f&&chkE G a sc N x
 |.rng2 a b,sc,N,e=>(ZO e).any fun q=>(YT q.1).any fun f=>(the2 q.2.1).any fun x=>non0 q.2.2.1&&decide (f=("range":Str))&&G.bl.contains f&&glB sc f&&chkE G a sc N x.1&&chkE G b sc N x.2
 |.rng3 a b c,sc,N,e=>(ZO e).any fun q=>(YT q.1).any fun f=>(the3 q.2.1).any fun x=>non0 q.2.2.1&&decide (f=("range":Str))&&G.bl.contains f&&glB sc f&&chkE G a sc N x.1&&chkE G b sc N x.2.1&&chkE G c sc N x.2.2
end
noncomputable def liSp(K:X5)(sp:SpM):Sp:=λvs H Q _=>∃ms M,RMs K H ms vs/\RH K M H/\sp ms M (Dn K H Q)
structure Cok (X:Cx) (G:GI) (Φ:List (Str×SpM)):Prop where
 room:X.A.units+70<cLine
 calm:X.calm=true
 nox:X.xe=λ_ _=>False
 blk:X.env.blockKind=.function
 nd:X.N.Nodup
 bls:∀x,G.bl.contains x=true->X.mg x=none
 gls:∀x i,G.gl.lookup x=some i->∃tk,X.mg x=some (.int i tk)
 fnn:∀(j:Nat) f,G.fns[j]?=some f->∃sp,Φ[j]?=some (f,sp)
 mon:∀(j:Nat) f sp,Φ[j]?=some (f,sp)->MonW sp
 fns:∀(j:Nat) f sp,G.fns[j]?=some f->Φ[j]?=some (f,sp)->∃k fa fd ps,Room k X.A/\FnOk X.prog X.w X.K X.mg X.base CX0 k fa fd ps (liSp X.K sp)/\X.mg f=some (.ref fa)/\U0 X.K (.ref fa)=true/\Binds X.K fd ps []
 mts:∀(j:Nat) c m,G.mts.contains (j,c,m)=true->∃f sp,Φ[j]?=some (f,sp)/\∃k C fa fd ps,Room k X.A/\FnOk X.prog X.w X.K X.mg X.base CX0 k fa fd ps (liSp X.K sp)/\XM X.K XA c=some (some (.ref C))/\Cls X.K C/\Meth X.K C m fa/\Binds X.K fd ps []
 mks:∀(j:Nat) c,G.mks.contains (j,c)=true->∃f sp,Φ[j]?=some (f,sp)/\∃k C fa fd ps,Room (k+1) X.A/\FnOk X.prog X.w X.K X.mg X.base CX0 k fa fd ps (liSp X.K sp)/\XM X.K XA c=some (some (.ref C))/\X.mg c=some (.ref C)/\Mk X.K C fa/\Binds X.K fd ps []
 cls:∀c f,G.cls.contains (c,f)=true->∃C,XM X.K XA c=some (some (.ref C))/\Cls X.K C/\Dw X.K C f
section
variable{X:Cx}{G:GI}{Φ:List (Str×SpM)}
theorem ZmQ{sc:Scope}{x:Str}(h:visB sc x=true):Vis sc x:=by
 unfold visB at h;unfold Vis;cases e:sc.names.lookup x with
 |none=>rw[e]at h;cases h
 |some k=>rw[e]at h;cases k<;>first|exact .inl rfl|exact .inr (.inl rfl)|exact .inr (.inr rfl)|cases h
theorem C8{sc:Scope}{x:Str}(h:locB sc x=true):Loc sc x:=by
 unfold locB at h;unfold Loc;cases e:sc.names.lookup x with
 |none=>rw[e]at h;cases h
 |some k=>rw[e]at h;cases k<;>first|exact .inl rfl|exact .inr rfl|cases h
theorem Uc{x:Str}(h:glB X.env.scope x=true):Gl X x/\(x==("__debug__":Str))=false/\x≠"__name__":=by
 unfold glB at h;simp only[Yd,decide_eq_true_eq,Bool.not_eq_true']at h;exact⟨h.1.1,h.1.2,h.2⟩
theorem Zms(f:BI):YD (f.name:Str)=some f.val:=by cases f<;>(show YD _=some _;decide+kernel)
theorem Zmr{c:Ty7}(h:c≠.none):YD (c.name:Str)=some (.type c.name):=by cases c<;>first|exact absurd rfl h|decide+kernel
theorem boot_range:YD ("range":Str)=some (.type "range"):=by decide+kernel
theorem Zgj:∀{ie:IE} {sc:Scope} {N:List Str} {e:Expr},chkE G ie sc N e=true->J0 e=true:=by
 intro ie sc N e h;cases ie
 all_goals
  first
   |exact absurd h XB
   |(replace h:=Xj h
     obtain⟨x,hx,_⟩:=h;simp only[J0,hx,Option.isSome_some,BD,BC])
theorem XX:∀{ie:IE} {sc:Scope} {N:List Str} {e:Expr} {es:List Expr} {env:Env},chkE G ie sc N e=true->XG (e::es) env=(false,eval e env)::XG es env:=by
 intro ie sc N e es env h;cases e<;>first|rfl|cases Zgj h
theorem VJ:∀{ies:IEs} {sc:Scope} {N:List Str} {es:List Expr} {env:Env} {pos:Pos},chkEs G ies sc N es=true->(XG es env).all (λx=>!x.1)=true
 |.nil,sc,N,es,_,_,h=>by
  cases YA h
  rfl
 |.cons e es,sc,N,xs,env,pos,h=>by
  replace h:=Xj h;obtain⟨q,h1,h2⟩:=h;cases Uv h1;rw[Yd]at h2;rw[XX h2.1,UL];exact VJ (pos:=pos) h2.2
theorem Zjg:∀{ie:IE} {sc:Scope} {N:List Str} {x:Str} {px p:Pos} {ks:List Zs},chkE G ie sc N (.Call (.Name x px) [] ks p)=true->False:=by
 intro ie sc N x px p ks h;cases ie
 all_goals exact absurd h XB
theorem J1{ie:IE}{sc:Scope}{N:List Str}{o:Expr}{nm:Str}{env:Env}(h:chkE G ie sc N o=true):VX o nm env (eval o env)=eval o env:=by
 cases o<;>try rfl
 rename_i fn args kw pos
 cases fn<;>try rfl
 cases args with
 |cons a r=>rfl
 |nil=>exact(Zjg h).elim
theorem Wz{pos:Pos}{l:List (Bool×Sem X0)}(h:l.all (λx=>!x.1)=true):(Yq pos l).all (λx=>!x.1)=true/\(Yq pos l).any (·.1)=false:=by
 induction l with
 |nil=>exact⟨rfl,rfl⟩
 |cons a r ih=>
  rw[UL,Yd]at h;obtain⟨h1,h2⟩:=ih h.2;have e:a.1=false:=by simpa using h.1
  unfold Yq at h1 h2 ⊢;rw[Xz,UL,ZC,h1,h2];obtain⟨b,t⟩:=a;cases e;exact⟨rfl,rfl⟩
end
noncomputable def tCW2(own:List Str)(fr:List Nat)(g:TG)(tt:TT)(te:TE)(σ:St)(H1:Hp)(Q:VK)(J:It)(D:Addr):Prop:=∃W:Nat->Nat->List V->Hp->Prop,
 (∃m,W 0 m [] (upd H1 D (.lst [])))/\∀i m ys H2,W i m ys H2->
  ((J.stop i H2/\Q (.ref D) H2)\/(J.go i H2/\∃N:List V->Hp->Prop,(∀ys' H',N ys' H'->∃m',m'<m/\W (i+1) m' ys' H')/\∀x H3,J.yld i H2 x H3->g x (sC own fr σ) H3 λσ2 H4=>Keep (sC own fr σ) σ2/\tt σ2 H4 λb H5=>
   if b=true then te σ2 H5 λy H6=>∃zs,H6 D=some (.lst zs)/\zs.length<sizeLine/\N (zs++[y]) (upd H6 D (.lst (zs++[y])))else N ys H5))
noncomputable def DZ(own:List Str)(fr:List Nat)(wi:TI)(g:TG)(tt:TT)(te:TE):TE:=λσ H Q=>wi σ H λJ H1=>∀D,H1 D=none->tCW2 own fr g tt te σ H1 Q J D
section
variable{X:Cx}{pins:List (Addr×Obj)}{σ:St}{H1:Hp}{s2:X1}{tg elt iter:Expr}{ifs:List Expr}{scope:Scope}{pos:Pos}{own:List Str}{fr:List Nat}{g:TG}{tt:TT}{te:TE}
theorem J3{J:It}{fp:List Addr}{it:Addr}{tn:Nat->Heap->Prop}{RR:X0->Addr->Result->X1->Prop}{Q:VK}{E:X0->X1->Prop}(hc:X.calm=true)(ok:CompOk X.env.scope scope X.N fr)
  (hg:∀C fp s₃ H₃,PG (cxC X scope own fr C fp s₃ H₃) tg g) (ht:∀C fp s₃ H₃,PTs (cxC X scope own fr C fp s₃ H₃) ifs tt) (he:∀C fp s₃ H₃,PE (cxC X scope own fr C fp s₃ H₃) elt te)
  (I2:Inv X pins σ H1 s2) (T:Turn X.prog X.w X.K tg J fp it tn) (st:tn 0 s2.heap) (hf:∀b∈fp,FpOk X pins H1 b)
  (h:∀D,H1 D=none->tCW2 own fr g tt te σ H1 Q J D)
  (hRR:∀D C H' s',Inv X pins σ H' s'->(∃m,s'.heap.Ns C m)->H' C=none->C≠X.env.locals->X.s₀.heap.objs.size≤C->(∀x c,X.env.cells.lookup x=some c->c≠C)->(∀p∈X.pn++pins,p.1≠C)->Q (.ref D) H'->RR (.ref D) C (.ok .next) s'):
  X4 (X8 X.prog X.w) X.A (newList []) (λacc s₃=>X4 (X8 X.prog X.w) X.A (newFunctionEnv scope X.env.globals (clOf X.env.cells scope.names []) [] X.env.qual none .none (some X.env)) (λcenv s₄=>
   Z6 (X8 X.prog X.w) X.A (.compStart (.ListComp elt [⟨tg,iter,ifs,0⟩] scope pos) 0 (.ref it) acc {cenv with scope:=relabel scope X.env}) (RR acc cenv.locals) s₄) E s₃) E s2:=by
 have hD:H1 s2.heap.objs.size=none:=I2.hok.fresh (Xh _);obtain⟨W,⟨m0,w0⟩,step⟩:=h _ hD;refine ZX (wpAny_newFunctionEnv ok.nocell (by intro y hy;simp at hy) (λh4 ns4 sb4=>?_) ok.kind)
 dsimp only at ns4 sb4 ⊢;have I3:Inv X pins σ (upd H1 s2.heap.objs.size (.lst [])) {s2 with heap:=s2.heap.push {cls:=.type "list",dict:=none,data:=.seq ([]:List X0).toArray},toks:=s2.toks}:=
  I2.laid (λb u e=>Xr _ e) (Xh _) ⟨YL _,[],0,.nil,XQ _ rfl⟩
 have fpo:∀b∈fp,∃o,s2.heap.get? b=some o:=λb hb=>let⟨o,e,_⟩:=T.obj 0 _ st b hb;⟨o,e⟩
 have fpD:∀b∈fp,b≠s2.heap.objs.size:=λb hb=>let⟨o,e⟩:=fpo b hb;XC (Xv e)
 have hf3:∀b∈fp,FpOk X pins (upd H1 s2.heap.objs.size (.lst [])) b:=λb hb=>⟨by rw[XJ (fpD b hb)];exact(hf b hb).1,(hf b hb).2⟩
 generalize hs3:({s2 with heap:=s2.heap.push {cls:=.type "list",dict:=none,data:=.seq ([]:List X0).toArray},toks:=s2.toks}:X1)=s3 at*;have e3:s2.heap.push {cls:=.type "list",dict:=none,data:=.seq ([]:List X0).toArray}=s3.heap:=by rw[<- hs3]
 rw[e3]at ns4 sb4 ⊢;have kp:∀b o,s3.heap.get? b=some o->h4.get? b=some o:=λb o e=>(sb4.2 b (XC (Xv e))).trans (Xr _ e);have fpo3:∀b∈fp,∃o,s3.heap.get? b=some o:=λb hb=>let⟨o,e⟩:=fpo b hb;⟨o,by rw[<- e3];exact Xr _ e⟩
 have I4:=SO (own:=own) (scope:=scope) (fr:=fr) (tk:=s2.toks+0) ok I3 rfl hf3 fpo3 ns4 kp;have st4:tn 0 h4:=T.keep _ _ _ st λb hb o e=>kp b o (by rw[<- e3];exact Xr _ e)
 have fpC:∀b∈fp,b≠s3.heap.objs.size:=λb hb=>let⟨o,e⟩:=fpo3 b hb;XC (Xv e)
 have stat:∀{H':Hp},(∀b∈fp,H' b=none)->∀b∈fp,FpOk (cxC X scope own fr s3.heap.objs.size fp s3 (upd H1 s2.heap.objs.size (.lst []))) pins H' b:=λhn b hb=>by
  refine⟨hn b hb,fpC b hb,λz=>?_,.inl hb,λx c e=>?_,(hf b hb).2.2.2.2.2⟩
  ·rcases Xn.mp (I3.stkSub b z)with z|z
   ·exact(hf b hb).2.1 z
   ·exact(hf b hb).2.2.1 z
  ·exact(hf b hb).2.2.2.2.1 x c ((Wo _ _ _ _ _ e).elim (λz=>by simp at z) id)
 have loop:Z6 (X8 X.prog X.w) X.A (.compLoop (.ListComp elt [⟨tg,iter,ifs,0⟩] scope pos) 0 (.ref it) (.ref s2.heap.objs.size) (compEnvC scope (clOf X.env.cells scope.names []) s3.heap.objs.size X.env))
   (RR (.ref s2.heap.objs.size) s3.heap.objs.size) {s3 with heap:=h4,toks:=s2.toks+0}:=by
  refine SM (λn s'=>∃i ys H',Inv (cxC X scope own fr s3.heap.objs.size fp s3 (upd H1 s2.heap.objs.size (.lst []))) pins (sC own fr σ) H' s'/\tn i s'.heap/\(∀b∈fp,H' b=none)/\W i n ys H') ?_ m0
   ⟨0,[],_,I4,st4,λb hb=>(hf3 b hb).1,w0⟩
  rintro n s5 ⟨i,ys,H5,I5,st5,fr5,w5⟩;have way:=step i n ys H5 w5;rcases way with⟨stop,q⟩|⟨go,N,hN,turn⟩
  ·refine thn (T.done (cxC X scope own fr s3.heap.objs.size fp s3 (upd H1 s2.heap.objs.size (.lst []))) rfl rfl rfl hc i pins s5 _ H5 _ I5 (stat fr5) st5 stop) λr s6 ⟨hr,I6⟩=>?_;subst hr;have J6:Inv X pins σ H5 s6:=I3.call' I6.os I6.base I6.hok I6.bare λb hb=>⟨(hf b hb).2.2.2.1,(hf b hb).2.1,(hf b hb).2.2.2.2.1,(hf b hb).2.2.2.2.2⟩;obtain⟨m6,ns6,_⟩:=I6.loc;refine hRR _ _ H5 s6 J6 ⟨m6,ns6⟩ I6.free (US I3.lt) I3.sz (λx c e=>?_) (λp hp=>?_) q
   ·obtain⟨v,z⟩:=I3.cell x c e;exact XC z.lt
   ·exact XC (Xv (I3.pin p hp).1)
  ·refine thn (T.item (cxC X scope own fr s3.heap.objs.size fp s3 (upd H1 s2.heap.objs.size (.lst []))) rfl rfl rfl hc i pins s5 _ H5 _ I5 (stat fr5) st5 go) λr s6 ⟨u,hr,h6⟩=>?_;subst hr;refine thn h6 λ_ s7 ⟨x,H7,I7,r7,y7,st7,fr7⟩=>?_;have I7':=I7.pinned (stat fr7) (T.obj _ _ st7);refine thn (hg _ _ _ _ _ s7 _ H7 x u _ I7' r7 (turn x H7 y7)) λ_ s8 ⟨σ8,H8,I8,kp8,q8⟩=>?_;have again:∀{H9:Hp} {s9:X1},Inv (cxC X scope own fr s3.heap.objs.size fp s3 (upd H1 s2.heap.objs.size (.lst []))) (pins++Vv fp s7.heap) σ8 H9 s9->∀{ys'},(∃m',m'<n/\W (i+1) m' ys' H9)->
     ∃m,m<n/\∃i ys H',Inv (cxC X scope own fr s3.heap.objs.size fp s3 (upd H1 s2.heap.objs.size (.lst []))) pins (sC own fr σ) H' s9/\tn i s9.heap/\(∀b∈fp,H' b=none)/\W i m ys H':=fun{H9 s9} I9 {ys'} ⟨m',hm,w9⟩=>by
    refine⟨m',hm,i+1,ys',H9,(I9.unpinned).weak kp8.1 kp8.2,T.keep _ _ _ st7 λb hb o e=>(I9.pin (b,o) (Zv _ (Zv _ (BW hb e)))).1,λb hb=>?_,w9⟩;obtain⟨o,e,d⟩:=T.obj _ _ st7 b hb;exact(I9.pin (b,o) (Zv _ (Zv _ (BW hb e)))).2.1
   have fin:∀{ok:Bool} {s9:X1} {H9:Hp},Inv (cxC X scope own fr s3.heap.objs.size fp s3 (upd H1 s2.heap.objs.size (.lst []))) (pins++Vv fp s7.heap) σ8 H9 s9->
     (if ok=true then te σ8 H9 λy H6=>∃zs,H6 s2.heap.objs.size=some (.lst zs)/\zs.length<sizeLine/\N (zs++[y]) (upd H6 s2.heap.objs.size (.lst (zs++[y])))else N ys H9)->
     (if ok=true then X4 (X8 X.prog X.w) X.A (eval elt (compEnvC scope (clOf X.env.cells scope.names []) s3.heap.objs.size X.env)) (λx s₄=>
      X4 (X8 X.prog X.w) X.A (call (.builtin "list.append") [.ref s2.heap.objs.size,x]) (fun _ s₅=>∃m,m<n/\∃i ys H',Inv (cxC X scope own fr s3.heap.objs.size fp s3 (upd H1 s2.heap.objs.size (.lst []))) pins (sC own fr σ) H' s₅/\tn i s₅.heap/\(∀b∈fp,H' b=none)/\W i m ys H') (fun _ _=>False) s₄) (fun _ _=>False) s9
      else∃m,m<n/\∃i ys H',Inv (cxC X scope own fr s3.heap.objs.size fp s3 (upd H1 s2.heap.objs.size (.lst []))) pins (sC own fr σ) H' s9/\tn i s9.heap/\(∀b∈fp,H' b=none)/\W i m ys H'):=fun{ok s9 H9} I9 q9=>by
    cases ok with
    |false=>
     rw[if_neg XB]at q9 ⊢;exact again I9 (hN _ _ q9)
    |true=>
     rw[if_pos rfl]at q9 ⊢;refine thn (he _ _ _ _ _ s9 σ8 H9 _ I9 q9) λv s10 ⟨y,H10,I10,r10,zs,hl10,hz5,w10⟩=>?_;refine thn (HA (X:=cxC X scope own fr s3.heap.objs.size fp s3 (upd H1 s2.heap.objs.size (.lst []))) _ s10 σ8 H10 (.ref s2.heap.objs.size) [y] (.ref s2.heap.objs.size) [v] (λ_ H'=>H'=upd H10 s2.heap.objs.size (.lst (zs++[y]))) I10 rfl (.cons r10 .nil) ⟨_,zs,y,rfl,rfl,hl10,hz5,rfl⟩) λ_ s11 ⟨_,H11,I11,_,e11⟩=>?_;subst e11;exact again I11 (hN _ _ w10)
   rcases ht s3.heap.objs.size fp s3 (upd H1 s2.heap.objs.size (.lst []))with⟨e,et⟩|⟨c,e,hcT⟩
   ·subst e et;exact wpAny_tests_nil (fin (ok:=true) I8 q8)
   ·subst e;exact wpAny_tests_one (thn (hcT _ s8 σ8 H8 _ I8 q8) λb s9 ⟨H9,I9,q9⟩=>fin I9 q9)
 subst hs3;exact codeAny_compStart_list loop (T.self _ 0 _ _ _ st4 loop)
theorem Zj7(own:List Str)(fr:List Nat){wi:TI}(hx:∀e s,¬X.xe e s)(hc:X.calm=true)(ok:Vz X.env.scope scope X.N own fr=true)(hi:PI X tg iter wi)
  (hg:∀C fp s₃ H₃,PG (cxC X scope own fr C fp s₃ H₃) tg g) (ht:∀C fp s₃ H₃,PTs (cxC X scope own fr C fp s₃ H₃) ifs tt) (he:∀C fp s₃ H₃,PE (cxC X scope own fr C fp s₃ H₃) elt te)
  (hs:∀x,Bk iter X.env x=pure x:=by intro _;rfl):
  PE X (.ListComp elt [⟨tg,iter,ifs,0⟩] scope pos) (DZ own fr wi g tt te):=by
 have ok':=VA ok;intro pins s σ H Q I h;rw[eval_ListComp];refine wpAny_comprehension_free (use:=none) (cl:=clOf X.env.cells scope.names []) rfl hs (HJ λy hy hk=>I.ok.has y.1 (ok'.has y hy hk)) ok'.kind ok'.names (thn (hi pins s σ H _ I h) λv s1 h1=>thn h1 λitv s2 h2=>?_);obtain⟨it,fp,tn,J,H2,e,I2,T,st2,f2,R⟩:=h2;subst e;refine J3 (RR:=λacc C=>compPost (X8 X.prog X.w) X.A X.xe none (EP X pins σ Q) acc C) (Q:=Q) hc ok' hg ht he I2 T st2 f2 R ?_;rintro D C H' s' I' ⟨m,ns⟩ c1 c2 c3 c4 c5 q;refine⟨m,ns,λh' sb=>⟨.ref D,H',?_,rfl,q⟩⟩;exact I'.turned (t':=s'.toks) (λb o hb e=>(sb.2 b hb).trans e) c1 c2 (.inr c3) c4 c5
theorem Zei(own:List Str)(fr:List Nat){i:Nat}{y:Str}{py spos:Pos}{wi:TI}(hN:X.N.Nodup)(hi:X.N[i]?=some y) (hy:Loc X.env.scope y) (hx:∀e s,¬X.xe e s) (hc:X.calm=true) (ok:Vz X.env.scope scope X.N own fr=true) (hit:PI X tg iter wi)
  (hg:∀C fp s₃ H₃,PG (cxC X scope own fr C fp s₃ H₃) tg g) (ht:∀C fp s₃ H₃,PTs (cxC X scope own fr C fp s₃ H₃) ifs tt) (he:∀C fp s₃ H₃,PE (cxC X scope own fr C fp s₃ H₃) elt te)
  (hsw:Uh (.ListComp elt [⟨tg,iter,ifs,0⟩] scope pos) (some (.Name y py)) spos.line X.env=pure true:=by rfl) (hs:∀x,Bk iter X.env x=pure x:=by intro _;rfl)
  (hf:X.fn y=true\/X.env.scope.names.lookup y=some .local:=by first|exact .inl rfl|exact .inr rfl|assumption):
  PS X (.Assign [.Name y py] (.ListComp elt [⟨tg,iter,ifs,0⟩] scope pos) spos) (tAsg (DZ own fr wi g tt te) (BV i)):=by
 have ok':=VA ok;intro pins s σ H D I h;rw[exec_Assign_Name_used _ _ _ _ hsw];refine X3 (wpAny_standAt (X3 ?_));show X4 _ X.A (do let _<- comprehension (.ListComp elt [⟨tg,iter,ifs,0⟩] scope pos) scope X.env _ (newList []) false (eval iter X.env) (some (assign (.Name y py) X.env))) _ _ s
 refine X3 (Zp (wpAny_comprehension_free (use:=some (assign (.Name y py) X.env)) (cl:=clOf X.env.cells scope.names []) (Q:=λ_ s'=>SP X pins D .next s') rfl hs (HJ λy hy hk=>I.ok.has y.1 (ok'.has y hy hk)) ok'.kind ok'.names
  (thn (hit pins s σ H _ I h) λv s1 h1=>thn h1 λitv s2 h2=>?_)) (λ_ s' hq=>Xa (Xa hq)) λ_ _ e=>e)
 obtain⟨it,fp,tn,J,H2,e,I2,T,st2,f2,R⟩:=h2;subst e;refine J3 (RR:=λacc C=>compPost (X8 X.prog X.w) X.A X.xe (some (assign (.Name y py) X.env)) (λ_ s'=>SP X pins D .next s') acc C) (Q:=λv H'=>D.nx (σ.set i (some v)) H') hc ok' hg ht he I2 T st2 f2 R ?_;rintro E C H' s' I' ⟨m,ns⟩ c1 c2 c3 c4 c5 q;show X4 _ X.A (assign (.Name y py) X.env (.ref E)) _ _ _;refine wpAny_assign_Name (GR I' hN hi hy (v:=.ref E) (u:=.ref E) rfl (λs'' I'' sb=>?_) hf);obtain⟨a,sb,ha⟩:=sb;have hCa:C≠a:=by
  rcases ha with z|z
  ·rw[z];exact c2
  ·exact λe=>c4 _ _ z e.symm
 refine⟨m,ns.sameBut sb hCa,λh' sb'=>⟨_,H',?_,q⟩⟩;exact I''.turned (t':=s''.toks) (λb o hb e=>(sb'.2 b hb).trans e) c1 c2 (.inr c3) c4 c5
end
section
variable{G:GI}{sc:Scope}{N:List Str}{e:Expr}
theorem Xd{a b:Bool}(h:(a&&b)=true):a=true/\b=true:=by rwa [Yd]at h
theorem XR{p:Prop} [Decidable p] (h:decide p=true):p:=of_decide_eq_true h
theorem not_of{b:Bool}(h:(!b)=true):b=false:=by cases b with|false=>rfl|true=>cases h
theorem ZlS{i:Nat}(h:chkE G (.var i) sc N e=true):∃x p,e=.Name x p/\N[i]?=some x/\visB sc x=true/\(x==("__debug__":Str))=false/\(x==("__classdict__":Str))=false:=by
 replace h:=Xj h;obtain⟨x,h1,h⟩:=h;obtain⟨p,rfl⟩:=Zb h1;replace h:=Xd h;obtain⟨h,h5⟩:=h;replace h:=Xd h;obtain⟨h,h4⟩:=h;replace h:=Xd h;obtain⟨h2,h3⟩:=h;exact⟨x,p,rfl,XR h2,h3,not_of h4,not_of h5⟩
theorem ZlZ{i:Int}(h:chkE G (.int i) sc N e=true):∃k p,e=.Constant (.int i) k p:=by
 replace h:=Xj h;obtain⟨x,h1,h⟩:=h;obtain⟨k,p,rfl⟩:=C7 h1;exact⟨k,p,by rw[XR h]⟩
theorem ZlU{i:Str}(h:chkE G (.str i) sc N e=true):∃k p,e=.Constant (.str i) k p:=by
 replace h:=Xj h;obtain⟨x,h1,h⟩:=h;obtain⟨k,p,rfl⟩:=C7 h1;exact⟨k,p,by rw[XR h]⟩
theorem Zol{i:Bool}(h:chkE G (.bl i) sc N e=true):∃k p,e=.Constant (.bool i) k p:=by
 replace h:=Xj h;obtain⟨x,h1,h⟩:=h;obtain⟨k,p,rfl⟩:=C7 h1;exact⟨k,p,by rw[XR h]⟩
theorem ZlX(h:chkE G .non sc N e=true):∃k p,e=.Constant .none k p:=by
 replace h:=Xj h;obtain⟨x,h1,h⟩:=h;obtain⟨k,p,rfl⟩:=C7 h1;exact⟨k,p,by rw[XR h]⟩
theorem Zm1{x:Str}{i:Int}(h:chkE G (.glb x i) sc N e=true):∃p,e=.Name x p/\G.gl.lookup x=some i/\glB sc x=true:=by
 replace h:=Xj h;obtain⟨y,h1,h⟩:=h;obtain⟨p,rfl⟩:=Zb h1;replace h:=Xd h;obtain⟨h,h4⟩:=h;replace h:=Xd h;obtain⟨h2,h3⟩:=h;obtain rfl:=XR h2;exact⟨p,rfl,XR h3,h4⟩
theorem Zog{c:Ty7}(h:chkE G (.ty c) sc N e=true):∃p,e=.Name (c.name:Str) p/\c≠.none/\G.bl.contains (c.name:Str)=true/\glB sc (c.name:Str)=true:=by
 replace h:=Xj h;obtain⟨y,h1,h⟩:=h;obtain⟨p,rfl⟩:=Zb h1;replace h:=Xd h;obtain⟨h,h5⟩:=h;replace h:=Xd h;obtain⟨h,h4⟩:=h;replace h:=Xd h;obtain⟨h2,h3⟩:=h;obtain rfl:=XR h2;exact⟨p,rfl,XR h3,h4,h5⟩
theorem Zm5{op:ZW}{a b:IE}(h:chkE G (.bin op a b) sc N e=true):∃l r p,e=.BinOp l op r p/\chkE G a sc N l=true/\chkE G b sc N r=true:=by
 replace h:=Xj h;obtain⟨⟨l,o,r⟩,h1,h⟩:=h;obtain⟨p,rfl⟩:=ZjQ h1;replace h:=Xd h;obtain⟨h,h4⟩:=h;replace h:=Xd h;obtain⟨h2,h3⟩:=h;obtain rfl:=XR h2;exact⟨l,r,p,rfl,h3,h4⟩
theorem ZlW{a:IE}(h:chkE G (.not a) sc N e=true):∃l p,e=.UnaryOp .Not l p/\chkE G a sc N l=true:=by
 replace h:=Xj h;obtain⟨⟨o,l⟩,h1,h⟩:=h;obtain⟨p,rfl⟩:=Zmu h1;replace h:=Xd h;obtain⟨h2,h3⟩:=h;obtain rfl:=XR h2;exact⟨l,p,rfl,h3⟩
theorem Zm3{op:CmpOp}{a b:IE}(h:chkE G (.cmp op a b) sc N e=true):∃l r p,e=.Compare l [op] [r] p/\chkE G a sc N l=true/\chkE G b sc N r=true/\behindInMarks op r=false:=by
 replace h:=Xj h;obtain⟨⟨l,os,rs⟩,h1,h⟩:=h;obtain⟨p,rfl⟩:=IX h1;replace h:=Xj h;obtain⟨o,h2,h⟩:=h;replace h:=Xj h;obtain⟨r,h3,h⟩:=h;obtain rfl:=ZP h2;obtain rfl:=ZP h3;replace h:=Xd h;obtain⟨h,h7⟩:=h;replace h:=Xd h;obtain⟨h,h6⟩:=h;replace h:=Xd h;obtain⟨h4,h5⟩:=h;obtain rfl:=XR h4;exact⟨l,r,p,rfl,h5,h6,not_of h7⟩
theorem Zm4{op op':CmpOp}{a b c:IE}(h:chkE G (.chn op op' a b c) sc N e=true):∃l m r p,e=.Compare l [op,op'] [m,r] p/\chkE G a sc N l=true/\chkE G b sc N m=true/\chkE G c sc N r=true/\lastMarks [op,op'] [m,r]=false:=by
 replace h:=Xj h;obtain⟨⟨l,os,rs⟩,h1,h⟩:=h;obtain⟨p,rfl⟩:=IX h1;replace h:=Xj h;obtain⟨⟨o,o'⟩,h2,h⟩:=h;replace h:=Xj h;obtain⟨⟨m,r⟩,h3,h⟩:=h;obtain rfl:=DY h2;obtain rfl:=DY h3;replace h:=Xd h;obtain⟨h,h9⟩:=h;replace h:=Xd h;obtain⟨h,h8⟩:=h;replace h:=Xd h;obtain⟨h,h7⟩:=h;replace h:=Xd h;obtain⟨h,h6⟩:=h;replace h:=Xd h;obtain⟨h4,h5⟩:=h;obtain rfl:=XR h4;obtain rfl:=XR h5;exact⟨l,m,r,p,rfl,h6,h7,h8,not_of h9⟩
theorem Zm6{a b:IE}(h:chkE G (.and a b) sc N e=true):∃l r rest p,e=.BoolOp .And (l::r::rest) p/\chkE G a sc N l=true/\((rest=[]/\chkE G b sc N r=true)\/chkE G b sc N (.BoolOp .And (r::rest) p)=true):=by
 replace h:=Xj h;obtain⟨⟨o,vs,p⟩,h1,h⟩:=h;obtain rfl:=IY h1;replace h:=Xj h;obtain⟨⟨l,r,rest⟩,h2,h⟩:=h;obtain rfl:=IZ h2;replace h:=Xd h;obtain⟨h,h4⟩:=h;replace h:=Xd h;obtain⟨h2,h3⟩:=h;obtain rfl:=XR h2;refine⟨l,r,rest,p,rfl,h3,?_⟩;cases rest with
 |nil=>exact .inl ⟨rfl,h4⟩
 |cons _ _=>exact .inr h4
theorem Zoi{a b:IE}(h:chkE G (.or a b) sc N e=true):∃l r rest p,e=.BoolOp .Or (l::r::rest) p/\chkE G a sc N l=true/\((rest=[]/\chkE G b sc N r=true)\/chkE G b sc N (.BoolOp .Or (r::rest) p)=true):=by
 replace h:=Xj h;obtain⟨⟨o,vs,p⟩,h1,h⟩:=h;obtain rfl:=IY h1;replace h:=Xj h;obtain⟨⟨l,r,rest⟩,h2,h⟩:=h;obtain rfl:=IZ h2;replace h:=Xd h;obtain⟨h,h4⟩:=h;replace h:=Xd h;obtain⟨h2,h3⟩:=h;obtain rfl:=XR h2;refine⟨l,r,rest,p,rfl,h3,?_⟩;cases rest with
 |nil=>exact .inl ⟨rfl,h4⟩
 |cons _ _=>exact .inr h4
theorem Zm0{a b c:IE}(h:chkE G (.ife c a b) sc N e=true):∃t x y p,e=.IfExp t x y p/\tok c=true/\chkE G c sc N t=true/\chkE G a sc N x=true/\chkE G b sc N y=true:=by
 replace h:=Xj h;obtain⟨⟨t,x,y⟩,h1,h⟩:=h;obtain⟨p,rfl⟩:=Zmy h1;replace h:=Xd h;obtain⟨h,h5⟩:=h;replace h:=Xd h;obtain⟨h,h4⟩:=h;replace h:=Xd h;obtain⟨h2,h3⟩:=h;exact⟨t,x,y,p,rfl,h2,h3,h4,h5⟩
theorem ZlT{es:IEs}(h:chkE G (.tup es) sc N e=true):∃xs k p,e=.Tuple xs k p/\chkEs G es sc N xs=true:=by
 replace h:=Xj h;obtain⟨xs,h1,h⟩:=h;obtain⟨k,p,rfl⟩:=DW h1;exact⟨xs,k,p,rfl,h⟩
theorem ZlY{es:IEs}(h:chkE G (.lst es) sc N e=true):∃xs p,e=.List xs p/\chkEs G es sc N xs=true:=by
 replace h:=Xj h;obtain⟨xs,h1,h⟩:=h;obtain⟨p,rfl⟩:=ZjK h1;exact⟨xs,p,rfl,h⟩
theorem Zm2(h:chkE G .dic sc N e=true):∃p,e=.Dict [] [] p:=by
 replace h:=Xj h;obtain⟨⟨ks,vs⟩,h1,h⟩:=h;obtain⟨p,rfl⟩:=ZjN h1;replace h:=Xd h;obtain⟨h2,h3⟩:=h;cases YA h2;cases YA h3;exact⟨p,rfl⟩
theorem Zok{a b:IE}(h:chkE G (.ix a b) sc N e=true):∃x y p,e=.Subscript x y p/\chkE G a sc N x=true/\chkE G b sc N y=true/\Wu y=true:=by
 replace h:=Xj h;obtain⟨⟨x,y⟩,h1,h⟩:=h;obtain⟨p,rfl⟩:=DX h1;replace h:=Xd h;obtain⟨h,h4⟩:=h;replace h:=Xd h;obtain⟨h2,h3⟩:=h;exact⟨x,y,p,rfl,h2,h3,h4⟩
theorem Zoh{a:IE}{lo hi:IO}(h:chkE G (.sl a lo hi) sc N e=true):∃x l u p p2,e=.Subscript x (.Slice l u none p2) p/\chkE G a sc N x=true/\chkO G lo sc N l=true/\chkO G hi sc N u=true:=by
 replace h:=Xj h;obtain⟨⟨x,y⟩,h1,h⟩:=h;obtain⟨p,rfl⟩:=DX h1;replace h:=Xj h;obtain⟨⟨l,u,st⟩,h2,h⟩:=h;obtain⟨p2,rfl⟩:=Zmv h2;replace h:=Xd h;obtain⟨h,h6⟩:=h;replace h:=Xd h;obtain⟨h,h5⟩:=h;replace h:=Xd h;obtain⟨h3,h4⟩:=h;cases st with
 |some _=>cases h6
 |none=>exact⟨x,l,u,p,p2,rfl,h3,h4,h5⟩
theorem Zjs{j:Nat}{a:IE}{es:IEs}(h:chkE G (.call j a es) sc N e=true):∃f p x xs p2,e=.Call (.Name f p) (x::xs) [] p2/\G.fns[j]?=some f/\glB sc f=true/\chkE G a sc N x=true/\chkEs G es sc N xs=true:=by
 replace h:=Xj h;obtain⟨⟨f,l,ks,p2⟩,h1,h⟩:=h;obtain rfl:=Uu h1;replace h:=Xj h;obtain⟨g,h2,h⟩:=h;obtain⟨p,rfl⟩:=Zb h2;replace h:=Xj h;obtain⟨⟨x,xs⟩,h3,h⟩:=h;obtain rfl:=Uv h3;replace h:=Xd h;obtain⟨h,h8⟩:=h;replace h:=Xd h;obtain⟨h,h7⟩:=h;replace h:=Xd h;obtain⟨h,h6⟩:=h;replace h:=Xd h;obtain⟨h4,h5⟩:=h;obtain rfl:=YA h4;exact⟨g,p,x,xs,p2,rfl,XR h5,h6,h7,h8⟩
theorem Zom{f:BI}{a:IE}{es:IEs}(h:chkE G (.bi f a es) sc N e=true):∃p x xs p2,e=.Call (.Name (f.name:Str) p) (x::xs) [] p2/\G.bl.contains (f.name:Str)=true/\glB sc (f.name:Str)=true/\chkE G a sc N x=true/\chkEs G es sc N xs=true:=by
 replace h:=Xj h;obtain⟨⟨f',l,ks,p2⟩,h1,h⟩:=h;obtain rfl:=Uu h1;replace h:=Xj h;obtain⟨g,h2,h⟩:=h;obtain⟨p,rfl⟩:=Zb h2;replace h:=Xj h;obtain⟨⟨x,xs⟩,h3,h⟩:=h;obtain rfl:=Uv h3;replace h:=Xd h;obtain⟨h,h9⟩:=h;replace h:=Xd h;obtain⟨h,h8⟩:=h;replace h:=Xd h;obtain⟨h,h7⟩:=h;replace h:=Xd h;obtain⟨h,h6⟩:=h;replace h:=Xd h;obtain⟨h4,h5⟩:=h;obtain rfl:=YA h4;obtain rfl:=XR h5;exact⟨p,x,xs,p2,rfl,h6,h7,h8,h9⟩
theorem Zon{f:B2}{a:IE}(h:chkE G (.b2 f a) sc N e=true):∃p p' x p2 p2',e=.Call (.Name (f.out:Str) p) [.Call (.Name (f.inn:Str) p') [x] [] p2'] [] p2/\G.bl.contains (f.out:Str)=true/\G.bl.contains (f.inn:Str)=true/\glB sc (f.out:Str)=true/\glB sc (f.inn:Str)=true/\chkE G a sc N x=true:=by
 replace h:=Xj h;obtain⟨⟨f',l,ks,p2⟩,h1,h⟩:=h;obtain rfl:=Uu h1;replace h:=Xj h;obtain⟨g,h2,h⟩:=h;obtain⟨p,rfl⟩:=Zb h2;replace h:=Xj h;obtain⟨y,h3,h⟩:=h;obtain rfl:=ZP h3;replace h:=Xj h;obtain⟨⟨f'',l',ks',p2'⟩,h4,h⟩:=h;obtain rfl:=Uu h4;replace h:=Xj h;obtain⟨k,h5,h⟩:=h;obtain⟨p',rfl⟩:=Zb h5;replace h:=Xj h;obtain⟨x,h6,h⟩:=h;obtain rfl:=ZP h6;simp only[Yd]at h;obtain⟨⟨⟨⟨⟨⟨⟨⟨a1,a2⟩,a3⟩,a4⟩,a5⟩,a6⟩,a7⟩,a8⟩,a9⟩:=h;obtain rfl:=YA a1;obtain rfl:=YA a2;obtain rfl:=XR a3;obtain rfl:=XR a4;exact⟨p,p',x,p2,p2',rfl,a5,a6,a7,a8,a9⟩
theorem Zoj{m:MT}{o:IE}{es:IEs}(h:chkE G (.mt m o es) sc N e=true):∃ob ap args cp,e=.Call (.Attribute ob (m.name:Str) ap) args [] cp/\(ap.endLine==cp.line)=true/\chkE G o sc N ob=true/\chkEs G es sc N args=true/\args.length<20:=by
 replace h:=Xj h;obtain⟨⟨f',args,ks,cp⟩,h1,h⟩:=h;obtain rfl:=Uu h1;replace h:=Xj h;obtain⟨⟨ob,nm,ap⟩,h2,h⟩:=h;obtain rfl:=ZjR h2;replace h:=Xd h;obtain⟨h,h8⟩:=h;replace h:=Xd h;obtain⟨h,h7⟩:=h;replace h:=Xd h;obtain⟨h,h6⟩:=h;replace h:=Xd h;obtain⟨h,h5⟩:=h;replace h:=Xd h;obtain⟨h3,h4⟩:=h;obtain rfl:=YA h3;obtain rfl:=XR h4;exact⟨ob,ap,args,cp,rfl,h5,h6,h7,XR h8⟩
theorem J4{own:List Str}{fr:List Nat}{src:ISr}{tg:ITg}{test:IO}{elt:IE}(h:chkE G (.comp own fr src tg test elt) sc N e=true):∃x t it ifs scope p,e=.ListComp x [⟨t,it,ifs,0⟩] scope p/\Vz sc scope N own fr=true/\Wv it=true/\
  (nC own fr N).Nodup/\chkSr G src sc N it=true/\Zc (VH scope sc) (nC own fr N) own.length false tg t=true/\chkI G test (VH scope sc) (nC own fr N) ifs=true/\chkE G elt (VH scope sc) (nC own fr N) x=true:=by
 replace h:=Xj h;obtain⟨⟨x,gs,scope⟩,h1,h⟩:=h;obtain⟨p,rfl⟩:=Zmx h1;replace h:=Xj h;obtain⟨⟨t,it,ifs,k⟩,h2,h⟩:=h;obtain rfl:=ZP h2;replace h:=Xd h;obtain⟨h,h9⟩:=h;replace h:=Xd h;obtain⟨h,h8⟩:=h;replace h:=Xd h;obtain⟨h,h7⟩:=h;replace h:=Xd h;obtain⟨h,h6⟩:=h;replace h:=Xd h;obtain⟨h,h5⟩:=h;replace h:=Xd h;obtain⟨h,h4⟩:=h;replace h:=Xd h;obtain⟨h2,h3⟩:=h;obtain rfl:=XR h9;exact⟨x,t,it,ifs,scope,p,rfl,h2,h3,XR h4,h5,h6,h7,h8⟩
theorem Zg4{ks:List (Option Expr)}{vs:List Expr}(h:Wy G .nil sc N ks vs=true):ks=[]/\vs=[]:=by
 replace h:=Xd h;exact⟨YA h.1,YA h.2⟩
theorem ZeF{k v:IE}{ps:IPs}{ks:List (Option Expr)}{vs:List Expr}(h:Wy G (.cons k v ps) sc N ks vs=true):∃x ks' y vs',ks=some x::ks'/\vs=y::vs'/\chkE G k sc N x=true/\chkE G v sc N y=true/\Wy G ps sc N ks' vs'=true:=by
 replace h:=Xj h;obtain⟨⟨o,ks'⟩,h1,h⟩:=h;replace h:=Xj h;obtain⟨⟨y,vs'⟩,h2,h⟩:=h;replace h:=Xj h;obtain⟨x,h3,h⟩:=h;replace h:=Xd h;obtain⟨h,h6⟩:=h;replace h:=Xd h;obtain⟨h4,h5⟩:=h;dsimp only at h3;subst h3;exact⟨x,ks',y,vs',Uv h1,Uv h2,h4,h5,h6⟩
theorem J5{l:List Expr}(h:chkEs G .nil sc N l=true):l=[]:=by
 exact YA h
theorem J7{a:IE}{es:IEs}{l:List Expr}(h:chkEs G (.cons a es) sc N l=true):∃x xs,l=x::xs/\chkE G a sc N x=true/\chkEs G es sc N xs=true:=by
 replace h:=Xj h;obtain⟨⟨x,xs⟩,h1,h⟩:=h;exact⟨x,xs,Uv h1,Xd h⟩
theorem Zg6{o:Option Expr}(h:chkO G .none sc N o=true):o=none:=by
 cases o with
 |none=>rfl
 |some _=>cases h
theorem Zg5{a:IE}{o:Option Expr}(h:chkO G (.some a) sc N o=true):∃x,o=some x/\chkE G a sc N x=true:=by
 exact Xj h
theorem Zg8{l:List Expr}(h:chkI G .none sc N l=true):l=[]:=by
 exact YA h
theorem Zg7{a:IE}{l:List Expr}(h:chkI G (.some a) sc N l=true):∃x,l=[x]/\tok a=true/\chkE G a sc N x=true:=by
 replace h:=Xj h;obtain⟨x,h1,h⟩:=h;exact⟨x,ZP h1,Xd h⟩
theorem ZlV{a:IE}(h:chkSr G (.rng a) sc N e=true):∃p x p2,e=.Call (.Name ("range":Str) p) [x] [] p2/\G.bl.contains ("range":Str)=true/\glB sc ("range":Str)=true/\chkE G a sc N x=true:=by
 replace h:=Xj h;obtain⟨⟨f',l,ks,p2⟩,h1,h⟩:=h;obtain rfl:=Uu h1;replace h:=Xj h;obtain⟨g,h2,h⟩:=h;obtain⟨p,rfl⟩:=Zb h2;replace h:=Xj h;obtain⟨x,h3,h⟩:=h;obtain rfl:=ZP h3;replace h:=Xd h;obtain⟨h,h8⟩:=h;replace h:=Xd h;obtain⟨h,h7⟩:=h;replace h:=Xd h;obtain⟨h,h6⟩:=h;replace h:=Xd h;obtain⟨h4,h5⟩:=h;obtain rfl:=YA h4;obtain rfl:=XR h5;exact⟨p,x,p2,rfl,h6,h7,h8⟩
theorem Zjr{a b:IE}(h:chkSr G (.rng2 a b) sc N e=true):∃p x y p2,e=.Call (.Name ("range":Str) p) [x,y] [] p2/\G.bl.contains ("range":Str)=true/\glB sc ("range":Str)=true/\chkE G a sc N x=true/\chkE G b sc N y=true:=by
 replace h:=Xj h;obtain⟨⟨f',l,ks,p2⟩,h1,h⟩:=h;obtain rfl:=Uu h1;replace h:=Xj h;obtain⟨g,h2,h⟩:=h;obtain⟨p,rfl⟩:=Zb h2;replace h:=Xj h;obtain⟨⟨x,y⟩,h3,h⟩:=h;obtain rfl:=DY h3;replace h:=Xd h;obtain⟨h,h9⟩:=h;replace h:=Xd h;obtain⟨h,h8⟩:=h;replace h:=Xd h;obtain⟨h,h7⟩:=h;replace h:=Xd h;obtain⟨h,h6⟩:=h;replace h:=Xd h;obtain⟨h4,h5⟩:=h;obtain rfl:=YA h4;obtain rfl:=XR h5;exact⟨p,x,y,p2,rfl,h6,h7,h8,h9⟩
theorem Zjq{a b c:IE}(h:chkSr G (.rng3 a b c) sc N e=true):∃p x y z p2,e=.Call (.Name ("range":Str) p) [x,y,z] [] p2/\G.bl.contains ("range":Str)=true/\glB sc ("range":Str)=true/\chkE G a sc N x=true/\chkE G b sc N y=true/\chkE G c sc N z=true:=by
 replace h:=Xj h;obtain⟨⟨f',l,ks,p2⟩,h1,h⟩:=h;obtain rfl:=Uu h1;replace h:=Xj h;obtain⟨g,h2,h⟩:=h;obtain⟨p,rfl⟩:=Zb h2;replace h:=Xj h;obtain⟨⟨x,y,z⟩,h3,h⟩:=h;obtain rfl:=ZkR h3;replace h:=Xd h;obtain⟨h,h10⟩:=h;replace h:=Xd h;obtain⟨h,h9⟩:=h;replace h:=Xd h;obtain⟨h,h8⟩:=h;replace h:=Xd h;obtain⟨h,h7⟩:=h;replace h:=Xd h;obtain⟨h,h6⟩:=h;replace h:=Xd h;obtain⟨h4,h5⟩:=h;obtain rfl:=YA h4;obtain rfl:=XR h5;exact⟨p,x,y,z,p2,rfl,h6,h7,h8,h9,h10⟩
theorem E1{lim:Nat}{all:Bool}{i:Nat}(h:Zc sc N lim all (.nm i) e=true):∃x p,e=.Name x p/\N[i]?=some x/\i<lim/\(if all then locB sc x else decide (sc.names.lookup x=some .local))=true:=by
 replace h:=Xj h;obtain⟨x,h1,h⟩:=h;obtain⟨p,rfl⟩:=Zb h1;replace h:=Xd h;obtain⟨h,h4⟩:=h;replace h:=Xd h;obtain⟨h2,h3⟩:=h;exact⟨x,p,rfl,XR h2,XR h3,h4⟩
theorem E2{lim:Nat}{all:Bool}{ts:ITgs}(h:Zc sc N lim all (.tup ts) e=true):∃es k p,e=.Tuple es k p/\chkTgs sc N lim all ts es=true:=by
 replace h:=Xj h;obtain⟨es,h1,h⟩:=h;obtain⟨k,p,rfl⟩:=DW h1;exact⟨es,k,p,rfl,h⟩
theorem ZeE{lim:Nat}{all:Bool}{l:List Expr}(h:chkTgs sc N lim all .nil l=true):l=[]:=by
 exact YA h
theorem J8{lim:Nat}{all:Bool}{t:ITg}{ts:ITgs}{l:List Expr}(h:chkTgs sc N lim all (.cons t ts) l=true):∃x xs,l=x::xs/\Zc sc N lim all t x=true/\chkTgs sc N lim all ts xs=true:=by
 replace h:=Xj h;obtain⟨⟨x,xs⟩,h1,h⟩:=h;exact⟨x,xs,Uv h1,Xd h⟩
end
noncomputable def liT(K:X5)(t:TEm):TT:=λσ H Q=>∃σm M,RS K H σm σ/\RH K M H/\t σm M (λm M'=>∃b,m=.bl b/\∀H',Kp H H'->RH K M' H'->Q b H')
noncomputable def liO(K:X5)(t:Sm->MH->(Option Int->MH->Prop)->Prop):TO:=λσ H Q=>∃σm M,RS K H σm σ/\RH K M H/\t σm M (λo M'=>∀H',Kp H H'->RH K M' H'->Q o H')
section
variable{K:X5}
theorem E3{t:TEm}(m:MonE t){σ:St}{H:Hp}{Q:Bool->Hp->Prop}(h:liT K t σ H Q):liE K t σ H λx H'=>∃c,x=.bl c/\Q c H':=by
 obtain⟨σm,M,rs,rh,h⟩:=h;refine⟨σm,M,rs,rh,m (λx M1 ⟨b,e,h1⟩=>?_) h⟩;subst e;intro v H1 k1 r1 rh1;cases r1;exact⟨b,rfl,h1 H1 k1 rh1⟩
theorem J9{t:TEm}(m:MonE t){σm:Sm}{M:MH}{H H1:Hp}{Q:Bool->Hp->Prop}(k:Kp H H1)(h:t σm M λx M'=>∃b,x=.bl b/\∀H',Kp H H'->RH K M' H'->Q b H'):
  t σm M λx M'=>∃b,x=.bl b/\∀H',Kp H1 H'->RH K M' H'->Q b H':=
 m (λx M' ⟨b,e,q⟩=>⟨b,e,λH' k'=>q H' (k.trans k')⟩) h
theorem ZlN{te:TEm}{t:TAm}(me:MonE te)(mt:MonA t){σ:St}{H:Hp}{Q:List V->Hp->Prop}(h:liA K (λσ M Q=>te σ M λv M1=>t σ M1 λvs M2=>Q (v::vs) M2) σ H Q):Wi (liE K te) (liA K t) σ H Q:=by
 obtain⟨σm,M,rs,rh,h⟩:=h;refine⟨σm,M,rs,rh,me (λx M1 h1=>?_) h⟩;intro v H1 k1 r1 rh1;refine⟨σm,M1,rs.mono k1,rh1,mt (λms M2 h2=>?_) h1⟩;intro vs H2 k2 r2 rh2;exact h2 (v::vs) H2 (k1.trans k2) (.cons (r1.mono k2) r2) rh2
end
noncomputable def E4(X:Cx)(H:Hp):Src->It->Prop
 |.tup xs,J=>(∃a vs,H a=some (.tup vs)/\RMs X.K H xs vs/\J=Itt X.K a)\/∃a vs,FrL X.K H a vs/\RMs X.K H xs vs/\J=Itl X.K a
 |.lst a _,J=>J=Itl X.K a
 |.rng lo n,J=>J=Itr lo n
 |.rst lo st n,J=>J=Itrs lo st n
 |.dic a o _,J=>J=Itd a o/\∀o' u',X.H₀ a≠some (.frz o' u')
 |.str x,J=>J=Its x
theorem C9{X:Cx}{H0 H:Hp}{M:MH}{S:Src}{J:It}(s:E4 X H0 S J)(rh:RH X.K M H)(ok:S.okT M):∃H',Thw X H H'/\Kp H H'/\RH X.K (S.thaw M) H':=by
 cases S with
 |tup xs=>exact⟨H,.inl rfl,Kp.refl _,rh⟩
 |lst a xs=>exact⟨H,.inl rfl,Kp.refl _,rh⟩
 |rng a xs=>exact⟨H,.inl rfl,Kp.refl _,rh⟩
 |rst a b xs=>exact⟨H,.inl rfl,Kp.refl _,rh⟩
 |str x=>exact⟨H,.inl rfl,Kp.refl _,rh⟩
 |dic a o kvs=>
  obtain⟨vs,e,r,nd⟩:=rh.fdic ok;have k:=Kp.upd e rfl (.dK vs);exact⟨_,.inr ⟨a,o,.dK vs,e,trivial,s.2,rfl⟩,k,rh.put k (o:=.dic kvs) ⟨r.mono k,nd⟩⟩
theorem Ja{M:MH}{S:Src}(ok:S.ok M):S.okT M:=by
 cases S<;>first|trivial|exact ok
theorem Jb{K:X5}{H:Hp}{k:Key}{v:V}:∀{m:List (Key×MV)} {vs:List (Key×V)} {i:Nat},RKs K H m vs->vs[i]?=some (k,v)->∃x,m[i]?=some (k,x)/\RM K H x v
 |_,_,_,.nil,h=>by cases h
 |_,_,0,.cons r _,h=>by cases h;exact⟨_,rfl,r⟩
 |_,_,i+1,.cons _ t,h=>Jb (i:=i) t h
theorem Jc{X:Cx}{H0 H:Hp}{M:MH}{S:Src}{J:It}(s:E4 X H0 S J)(k:Kp H0 H)(rh:RH X.K M H)(ok:S.ok M):
  (∀i,i<S.len->J.go i H/\∀x H',J.yld i H x H'->H'=H/\∃m,S.items[i]?=some m/\RM X.K H m x)/\∀i,S.len≤i->J.stop i H:=by
 have seqL:∀{a:Addr} {xs:List MV} {vs:List V},SqL X.K H a vs->RMs X.K H xs vs->(∀i,i<xs.length->(Itl X.K a).go i H/\∀x H',(Itl X.K a).yld i H x H'->H'=H/\∃m,xs[i]?=some m/\RM X.K H m x)/\∀i,xs.length≤i->(Itl X.K a).stop i H:=by
  intro a xs vs hs r;refine⟨λi hi=>⟨⟨vs,_,hs,X6 (by rw[<- r.length];exact hi)⟩,λx H' y=>?_⟩,λi hi=>⟨vs,hs,by rw[<- r.length];exact hi⟩⟩
  exact⟨y.1,r.get' (y.2 vs hs)⟩
 cases S with
 |tup xs=>
  rcases s with⟨a,vs,h,r,rfl⟩|⟨a,vs,h,r,rfl⟩
  ·have h:=SqT.of (K:=X.K) (k _ _ h rfl);have r:=r.mono k;refine⟨λi hi=>⟨⟨vs,_,h,X6 (by rw[<- r.length];exact hi)⟩,λx H' y=>?_⟩,λi hi=>⟨vs,h,by rw[<- r.length];exact hi⟩⟩
   exact⟨y.1,r.get' (y.2 vs h)⟩
  ·refine seqL (FrL.sq ?_) (r.mono k);rcases h with⟨o,h⟩|h
   ·exact .inl ⟨o,k _ _ h rfl⟩
   ·exact .inr h
 |lst a xs=>
  cases s;obtain⟨vs,h,r⟩:=rh.lst ok;exact seqL (SqL.of h) r
 |rng lo n=>
  cases s;refine⟨λi hi=>⟨hi,λx H' y=>⟨y.1,.int (lo+(i:Nat)),?_,?_⟩⟩,λi hi=>hi⟩
  ·show((XN n).map _)[i]?=_;rw[Xg,X6 (by simpa using(show i<n from hi))]
   simp
  ·rw[y.2];exact .int _
 |rst lo st n=>
  cases s;refine⟨λi hi=>⟨hi,λx H' y=>⟨y.1,.int (lo+(i:Nat)*st),?_,?_⟩⟩,λi hi=>hi⟩
  ·show((XN n).map _)[i]?=_;rw[Xg,X6 (by simpa using(show i<n from hi))]
   simp
  ·rw[y.2];exact .int _
 |str z=>
  cases s;refine⟨λi hi=>⟨hi,λx H' y=>?_⟩,λi hi=>hi⟩;obtain⟨e,c,hc,rfl⟩:=y;refine⟨e,.str ⟨#[c]⟩,?_,.str _⟩;show(z.cps.toList.map _)[i]?=_;rw[Xg,Gd,hc]
  rfl
 |dic a o kvs=>
  obtain⟨rfl,_⟩:=s;obtain⟨vs,e,r,nd⟩:=rh.fdic ok;refine⟨λi hi=>⟨⟨vs,e,by rw[<- r.length];exact hi⟩,λx H' y=>?_⟩,λi hi=>⟨vs,e,by rw[<- r.length];exact hi⟩⟩
  obtain⟨rfl,y⟩:=y;obtain⟨kk,v,hv,rfl⟩:=y vs e;obtain⟨x,hx,_⟩:=Jb r hv;refine⟨rfl,kM kk,?_,?_⟩
  ·show(kvs.map λp=>kM p.1)[i]?=_;rw[Xg,hx];rfl
  ·cases kk with
   |inl i=>exact .int i
   |inr x=>exact .str x
noncomputable def liSr(X:Cx)(t:TSm):TI:=λσ H R=>∃σm M,RS X.K H σm σ/\RH X.K M H/\t σm M (λS M'=>∀J H',Kp H H'->RH X.K M' H'->E4 X H' S J->R J H')
section
variable{X:Cx}{tg:Expr}
theorem PI.weak{e:Expr}{t t':TI}(h:PI X tg e t)(i:∀σ H R,t' σ H R->t σ H R):PI X tg e t':=λpins s σ H R I q=>h pins s σ H R I (i _ _ _ q)
end
mutual
noncomputable def gOf(K:X5):ITg->TG
 |.nm i=>BV i
 |.tup ts=>gTup K (ITgs.len ts) (gsOf K ts)
noncomputable def gsOf(K:X5):ITgs->TGs
 |.nil=>gNil
 |.cons t ts=>GX (gOf K t) (gsOf K ts)
noncomputable def ITgs.len:ITgs->Nat
 |.nil=>0
 |.cons _ ts=>ts.len+1
end
mutual
theorem sTg{X:Cx}{lim:Nat}{all:Bool}(hc:X.calm=true)(hN:X.N.Nodup)(hf:all=true->∀x,X.fn x=true):∀(t:ITg) {e:Expr},Zc X.env.scope X.N lim all t e=true->PG X e (gOf X.K t)
 |.nm i,e,h=>by
  obtain⟨x,p,rfl,h1,h2,h3⟩:=E1 h;cases all with
  |true=>
   rw[if_pos rfl]at h3;exact GW hN h1 (C8 h3) (.inl (hf rfl _))
  |false=>
   rw[if_neg XB,decide_eq_true_eq]at h3;exact GW hN h1 (.inl h3) (.inr h3)
 |.tup ts,e,h=>by
  obtain⟨es,k,p,rfl,h⟩:=E2 h;obtain⟨h1,h2,h3⟩:=sTgs hc hN hf ts h;exact R7 hc h1 h2 h3
theorem sTgs{X:Cx}{lim:Nat}{all:Bool}(hc:X.calm=true)(hN:X.N.Nodup)(hf:all=true->∀x,X.fn x=true):∀(t:ITgs) {es:List Expr},chkTgs X.env.scope X.N lim all t es=true->PGs X es (gsOf X.K t)/\(Zr es X.env).length=t.len/\(Zr es X.env).findIdx? (·.1)=none
 |.nil,l,h=>by
  cases ZeE h;rw[gsOf,ITgs.len];exact⟨R5,rfl,rfl⟩
 |.cons t ts,l,h=>by
  obtain⟨e,es,rfl,ha,hb⟩:=J8 h;obtain⟨h1,h2,h3⟩:=sTgs hc hN hf ts hb;have h4:=sTg hc hN hf t ha;have e1:Zr (e::es) X.env=(false,assign e X.env)::Zr es X.env:=by
   cases t with
   |nm i=>obtain⟨x,p,rfl,_⟩:=E1 ha;rfl
   |tup ts=>obtain⟨x,k,p,rfl,_⟩:=E2 ha;rfl
  rw[gsOf,ITgs.len];refine⟨R6 h4 h1 (by rw[e1];rfl),by rw[e1,YJ,h2],?_⟩
  rw[e1,List.findIdx?_cons,if_neg XB,h3]
  rfl
end
theorem RMs.len_tgs{K:X5}:∀{ts:ITgs} {xs:List MV} {σ:Sm} {P:Sm->Prop},wTgs ts xs σ P->xs.length=ts.len
 |.nil,xs,σ,P,h=>by rw[h.1,ITgs.len];rfl
 |.cons t ts,xs,σ,P,h=>by
  obtain⟨v,r,rfl,h⟩:=h;rw[YJ,ITgs.len];have aux:∀(t:ITg) {v:MV} {σ:Sm},wTg t v σ (λσ'=>wTgs ts r σ' P)->∃σ',wTgs ts r σ' P:=by
   have both:(∀(t:ITg) {v:MV} {σ:Sm} {P:Sm->Prop},wTg t v σ P->∃σ',P σ')/\(∀(t:ITgs) {v:List MV} {σ:Sm} {P:Sm->Prop},wTgs t v σ P->∃σ',P σ'):=by
    refine⟨λt=>?_,λt=>?_⟩
    ·exact ITg.rec (motive_1:=λt=>∀{v:MV} {σ:Sm} {P:Sm->Prop},wTg t v σ P->∃σ',P σ') (motive_2:=λt=>∀{v:List MV} {σ:Sm} {P:Sm->Prop},wTgs t v σ P->∃σ',P σ')
      (λi v σ P h=>⟨_,h⟩) (λts ih v σ P h=>by obtain⟨xs,_,h⟩:=h;exact ih h)
      (fun{v σ P} h=>⟨_,h.2⟩) (λt ts i1 i2 v σ P h=>by obtain⟨x,r,_,h⟩:=h;obtain⟨σ',h⟩:=i1 h;exact i2 h) t
    ·exact ITgs.rec (motive_1:=λt=>∀{v:MV} {σ:Sm} {P:Sm->Prop},wTg t v σ P->∃σ',P σ') (motive_2:=λt=>∀{v:List MV} {σ:Sm} {P:Sm->Prop},wTgs t v σ P->∃σ',P σ')
      (λi v σ P h=>⟨_,h⟩) (λts ih v σ P h=>by obtain⟨xs,_,h⟩:=h;exact ih h)
      (fun{v σ P} h=>⟨_,h.2⟩) (λt ts i1 i2 v σ P h=>by obtain⟨x,r,_,h⟩:=h;obtain⟨σ',h⟩:=i1 h;exact i2 h) t
   exact λt {v σ} h=>both.1 t h
  obtain⟨σ',h'⟩:=aux t h;rw[RMs.len_tgs (K:=K) h']
mutual
theorem Ca{K:X5}{H:Hp}{lim:Nat}{sc:Scope}{N:List Str}{all:Bool}{Ψ:St->Prop}(hΨ:∀σ i v,i<lim->Ψ σ->Ψ (σ.set i (some v))):∀(t:ITg) {e:Expr} {mv:MV} {v:V} {σm:Sm} {σ:St} {P:Sm->Prop} {Q:St->Hp->Prop},Zc sc N lim all t e=true->
  RM K H mv v->RS K H σm σ->Ψ σ->wTg t mv σm P->(∀σm' σ',P σm'->RS K H σm' σ'->Ψ σ'->Q σ' H)->gOf K t v σ H Q
 |.nm i,e,mv,v,σm,σ,P,Q,hc,r,rs,ps,h,hq=>by
  obtain⟨x,p,rfl,_,hl,_⟩:=E1 hc;exact hq _ _ h (rs.set r i) (hΨ _ _ _ hl ps)
 |.tup ts,e,mv,v,σm,σ,P,Q,hc,r,rs,ps,h,hq=>by
  obtain⟨es,k,p,rfl,hc⟩:=E2 hc;obtain⟨xs,rfl,h⟩:=h;cases r with
  |tup h1 q1=>
   exact⟨_,_,rfl,SqT.of h1,by rw[<- q1.length];exact RMs.len_tgs (K:=K) h,tgs_ok hΨ ts hc q1 rs ps h hq⟩
theorem tgs_ok{K:X5}{H:Hp}{lim:Nat}{sc:Scope}{N:List Str}{all:Bool}{Ψ:St->Prop}(hΨ:∀σ i v,i<lim->Ψ σ->Ψ (σ.set i (some v))):∀(t:ITgs) {es:List Expr} {mvs:List MV} {vs:List V} {σm:Sm} {σ:St} {P:Sm->Prop} {Q:St->Hp->Prop},chkTgs sc N lim all t es=true->
  RMs K H mvs vs->RS K H σm σ->Ψ σ->wTgs t mvs σm P->(∀σm' σ',P σm'->RS K H σm' σ'->Ψ σ'->Q σ' H)->gsOf K t vs σ H Q
 |.nil,es,mvs,vs,σm,σ,P,Q,hc,r,rs,ps,h,hq=>by
  obtain⟨rfl,h⟩:=h;cases r;rw[gsOf];exact⟨rfl,hq _ _ h rs ps⟩
 |.cons t ts,es,mvs,vs,σm,σ,P,Q,hc,r,rs,ps,h,hq=>by
  obtain⟨e,es,rfl,hc1,hc2⟩:=J8 hc;obtain⟨x,rr,rfl,h⟩:=h;cases r with
  |cons r1 r2=>
   rw[gsOf];exact⟨_,_,rfl,Ca hΨ t hc1 r1 rs ps h λσm' σ' h' rs' ps'=>tgs_ok hΨ ts hc2 r2 rs' ps' h' hq⟩
end
theorem ZoU{K:X5}{H:Hp}{own:List Str}{fr:List Nat}{σm:Sm}{σ:St}(rs:RS K H σm σ):RS K H (sCm own fr σm) (sC own fr σ):=by
 refine⟨by simp[sCm,sC],λi m e=>?_⟩
 unfold sCm at e;unfold sC;by_cases hi:i<own.length
 ·rw[Zu (by simpa using hi),Xg]at e
  cases q:own[i]? with
  |none=>rw[q]at e;cases e
  |some z=>rw[q]at e;cases e
 ·rw[ZY (by simpa using hi),X2,Xg]at e
  rw[ZY (by simpa using hi),X2,Xg]
  cases q:fr[i - own.length]? with
  |none=>rw[q]at e;cases e
  |some j=>
   rw[q]at e;have e':σm.getD j none=some m:=Yk e;have e2:σm[j]?=some (some m):=by
    rw[Y2]at e';cases q2:σm[j]? with
    |none=>rw[q2]at e';cases e'
    |some o=>rw[q2]at e';rw[show o=some m from e']
   obtain⟨v,hv,r⟩:=rs.2 j m e2;refine⟨v,?_,r⟩;show some (σ.getD j none)=_;rw[Y2,hv]
   rfl
theorem Zjo{own:List Str}{fr:List Nat}{σ σ':St}{i:Nat}{v:V}(hi:i<own.length)(k:Keep (sC own fr σ) σ'):Keep (sC own fr σ) (σ'.set i (some v)):=by
 refine⟨by rw[UJ];exact k.1,λj w h=>?_⟩
 by_cases hij:i=j
 ·subst hij;exfalso;unfold sC at h;rw[Zu (by simpa using hi),Xg]at h
  cases q:own[i]? with
  |none=>rw[q]at h;cases h
  |some z=>rw[q]at h;cases h
 ·rw[UI,if_neg hij];exact k.2 j w h
theorem Zj1{y:Expr}(h:Wu y=true):Hu y:=by
 intro o i;cases y<;>first|rfl|cases h
theorem E5{it:Expr}(h:Wv it=true)(env:Env):∀x,Bk it env x=pure x:=by
 intro x;cases it<;>first|rfl|cases h
theorem Cok.comp{X:Cx}{G:GI}{Φ:List (Str×SpM)}(c:Cok X G Φ){scope:Scope}{own:List Str}{fr:List Nat}{C:Addr}{fp:List Addr}{s₃:X1}{H₃:Hp}(hk:scope.kind=.function)(nd:(nC own fr X.N).Nodup):Cok (cxC X scope own fr C fp s₃ H₃) G Φ:=
 ⟨c.room,c.calm,rfl,(by show(if scope.kind.isAnnotationScope then GM else scope.kind)=.function;rw[hk];rfl),nd,c.bls,c.gls,c.fnn,c.mon,c.fns,c.mts,c.mks,c.cls⟩
noncomputable def ttOf(K:X5)(Φ:List (Str×SpM)):IO->TT
 |.none=>tAll
 |.some e=>liT K (wE Φ e)
theorem Jd{X:Cx}{Φ:List (Str×SpM)}(hΦ:∀(j:Nat) f sp,Φ[j]?=some (f,sp)->MonW sp) {own:List Str} {fr:List Nat} {src:ISr} {tg:ITg} {test:IO} {elt:IE} {sc:Scope} {N:List Str} {t:Expr}
  (h5:Zc sc N own.length false tg t=true) {σ:St} {H:Hp} {Q:VK} (hw:liE X.K (wE Φ (.comp own fr src tg test elt)) σ H Q):DZ own fr (liSr X (wSr Φ src)) (gOf X.K tg) (ttOf X.K Φ test) (liE X.K (wE Φ elt)) σ H (λv H'=>∃H2,Thw X H' H2/\Q v H2):=by
 obtain⟨σm,M,rs,rh,hw⟩:=hw;refine⟨σm,M,rs,rh,mon_sr hΦ src (λS M1 ⟨hz,q⟩=>?_) hw⟩;intro J H1 k1 rh1 sit D hD;obtain⟨Jm,j0,j1,j2,j3⟩:=q D (rh1.free hD);refine⟨λi m ys H2=>m=S.len - i/\i≤S.len/\Kp H1 H2/\∃mys M2,RH X.K M2 H2/\Jm i mys M2,⟨S.len,rfl,YL _,Kp.new hD _,[],_,rh1.put (Kp.new hD (.lst [])) (o:=.lst []) RMs.nil,j0⟩,?_⟩;rintro i m ys H2 ⟨rfl,hi,k2,mys,M2,rh2,hj⟩;obtain⟨d1,d2,d3⟩:=j1 i mys M2 hj;obtain⟨goes,stops⟩:=Jc sit k2 rh2 d3;by_cases hlt:i<S.len
 ·obtain⟨go,yld⟩:=goes i hlt;refine .inr ⟨go,λys' H'=>Kp H1 H'/\∃mys M',RH X.K M' H'/\Jm (i+1) mys M',λys' H' ⟨a,mys',M',b,c⟩=>⟨S.len - (i+1),by lia,rfl,hlt,a,mys',M',b,c⟩,λx H3 y=>?_⟩
  obtain⟨e3,m,hm,rm⟩:=yld x H3 y;subst e3;have ht:=j2 i m mys M2 hm hj;refine Ca (Ψ:=Keep (sC own fr σ)) (lim:=own.length) (λσ' i v hi k=>Zjo hi k) tg h5 rm (ZoU (rs.mono (k1.trans k2))) ⟨rfl,λ_ _ h=>h⟩ ht λσm' σ' hP rs' keep=>⟨keep,?_⟩;have eltp:∀{M4:MH} {H5:Hp},Kp H3 H5->RH X.K M4 H5->(wE Φ elt σm' M4 λy M5=>M5 D=some (.lst mys)/\Jm (i+1) (mys++[y]) (updM M5 D (.lst (mys++[y]))))->
    liE X.K (wE Φ elt) σ' H5 λy H6=>∃zs,H6 D=some (.lst zs)/\zs.length<sizeLine/\Kp H1 (upd H6 D (.lst (zs++[y])))/\∃mys M',RH X.K M' (upd H6 D (.lst (zs++[y])))/\Jm (i+1) mys M':=fun{M4 H5} k5 rh5 q=>by
   refine⟨σm',M4,rs'.mono k5,rh5,Xc hΦ elt (λy M5 ⟨hd,hj'⟩=>?_) q⟩;intro v H6 k6 r6 rh6;obtain⟨zs,e,rz⟩:=rh6.lst hd;have ku:=Kp.upd e rfl (.lst (zs++[v]));exact⟨zs,e,by rw[<- rz.length];lia,k2.trans (k5.trans (k6.trans ku)),_,_,rh6.put ku (o:=.lst (mys++[y])) ((rz.append (.cons r6 .nil)).mono ku),hj'⟩
  cases test with
  |none=>
   rw[wI]at hP;rw[if_pos rfl]at hP;rw[ttOf];refine SN ?_;dsimp only;rw[if_pos rfl];exact eltp (Kp.refl _) rh2 hP
  |some e=>
   refine⟨σm',M2,rs',rh2,Xc hΦ e (λv M4 ⟨b,eb,q⟩=>⟨b,eb,λH5 k5 rh5=>YS (λq=>eltp k5 rh5 q) (λq=>⟨k2.trans k5,_,_,rh5,q⟩) q⟩) hP⟩
 ·refine .inl ⟨stops i (by lia),?_⟩
  have e:i=S.len:=by lia
  subst e;obtain⟨H',th,k3,rh3⟩:=C9 sit rh2 (Ja d3);exact⟨H',th,j3 mys M2 hj _ _ (k1.trans (k2.trans k3)) (.ref D) rh3⟩
theorem Je{K:X5}{Φ:List (Str×SpM)}(hΦ:∀(j:Nat) f sp,Φ[j]?=some (f,sp)->MonW sp) {op op':CmpOp} {a b d:IE} {σ:St} {H:Hp} {Q:VK} (hw:liE K (wE Φ (.chn op op' a b d)) σ H Q):
  Dv (li2 K (wCmp op)) (li2 K (wCmp op')) (liE K (wE Φ a)) (liE K (wE Φ b)) (liE K (wE Φ d)) σ H Q:=by
 obtain⟨σm,M,rs,rh,hw⟩:=hw;rw[IU]at hw;refine⟨σm,M,rs,rh,Xc hΦ a (λx M1 q1=>?_) hw⟩;intro v H1 k1 r1 rh1;refine⟨σm,M1,rs.mono k1,rh1,Xc hΦ b (λy M2 q2=>?_) q1⟩;intro u H2 k2 r2 rh2;refine⟨x,y,M2,r1.mono k2,r2,rh2,VE op (λz M3 ⟨k,e,q3⟩=>?_) q2⟩;subst e;intro z H3 k3 r3 rh3;cases r3;refine⟨k,rfl,YS (λq=>?_) (λq=>?_) q3⟩
 ·refine⟨σm,M3,rs.mono (k1.trans (k2.trans k3)),rh3,Xc hΦ d (λw M4 q4=>?_) q⟩;intro w' H4 k4 r4 rh4;exact⟨y,w,M4,r2.mono (k3.trans k4),r4,rh4,VE op' (λm M' hq=>hq.on (k1.trans (k2.trans (k3.trans k4)))) q4⟩
 ·exact q _ _ (k1.trans (k2.trans k3)) (.bl _) rh3
noncomputable def trOf(K:X5)(Φ:List (Str×SpM)):IPs->List (TE×TE)
 |.nil=>[]
 |.cons k v r=>(liE K (wE Φ k),liE K (wE Φ v))::trOf K Φ r
noncomputable def aob:IE->Bool
 |.and ..=>true
 |.or ..=>true
 |_=>false
structure Snd (X:Cx) (Φ:List (Str×SpM)) (ie:IE) (e:Expr):Prop where
 pe:PE X e (liE X.K (wE Φ ie))
 pt:tok ie=true->PT X e (liT X.K (wE Φ ie))
 pw:tok ie=true->aob ie=true->PW X e (liT X.K (wE Φ ie))
theorem Snd.plain{X:Cx}{G:GI}{Φ:List (Str×SpM)}{ie:IE}{e:Expr}(c:Cok X G Φ)(pe:PE X e (liE X.K (wE Φ ie)))(he:∀whole,isTrue e X.env whole=(do let v<- whole;standAt e.pos;holding [v] (truthy v)))(na:aob ie=false):Snd X Φ ie e:=
 ⟨pe,λ_=>(QP pe he).weak λσ H Q h=>E3 (t:=wE Φ ie) (Xc c.mon ie) h,λ_ h=>by rw[na]at h;cases h⟩
mutual
theorem sE{G:GI}{Φ:List (Str×SpM)}:∀(ie:IE) {X:Cx} {e:Expr},Cok X G Φ->chkE G ie X.env.scope X.N e=true->Snd X Φ ie e
 |.var i,X,e,c,h=>by
  obtain⟨x,p,rfl,h1,h2,h3,h4⟩:=ZlS h;refine .plain c ?_ (λ_=>rfl) rfl;refine(GT h1 (ZmQ h2) h3 h4).weak λσ H Q hw=>?_;obtain⟨σm,M,rs,rh,hw⟩:=hw;rw[IT]at hw;obtain⟨v,e,q⟩:=hw;obtain⟨u,hu,r⟩:=rs.2 i v e;exact⟨u,hu,q _ _ (Kp.refl _) r rh⟩
 |.int i,X,e,c,h=>by
  obtain⟨k,p,rfl⟩:=ZlZ h;refine .plain c ?_ (λ_=>rfl) rfl;refine pe_int.weak λσ H Q hw=>?_;obtain⟨σm,M,rs,rh,hw⟩:=hw;exact hw _ _ (Kp.refl _) (.int i) rh
 |.str i,X,e,c,h=>by
  obtain⟨k,p,rfl⟩:=ZlU h;refine .plain c ?_ (λ_=>rfl) rfl;refine pe_str.weak λσ H Q hw=>?_;obtain⟨σm,M,rs,rh,hw⟩:=hw;exact hw _ _ (Kp.refl _) (.str i) rh
 |.bl i,X,e,c,h=>by
  obtain⟨k,p,rfl⟩:=Zol h;refine .plain c ?_ (λ_=>rfl) rfl;refine pe_bl.weak λσ H Q hw=>?_;obtain⟨σm,M,rs,rh,hw⟩:=hw;exact hw _ _ (Kp.refl _) (.bl i) rh
 |.non,X,e,c,h=>by
  obtain⟨k,p,rfl⟩:=ZlX h;refine .plain c ?_ (λ_=>rfl) rfl;refine pe_non.weak λσ H Q hw=>?_;obtain⟨σm,M,rs,rh,hw⟩:=hw;exact hw _ _ (Kp.refl _) .non rh
 |.glb x i,X,e,c,h=>by
  obtain⟨p,rfl,h1,h2⟩:=Zm1 h;obtain⟨g1,g2,g3⟩:=Uc h2;obtain⟨tk,hm⟩:=c.gls x i h1;refine .plain c ?_ (λ_=>rfl) rfl;refine(QN (v:=.int i) g1 hm ⟨tk,rfl⟩ g2).weak λσ H Q hw=>?_;obtain⟨σm,M,rs,rh,hw⟩:=hw;exact hw _ _ (Kp.refl _) (.int i) rh
 |.ty t,X,e,c,h=>by
  obtain⟨p,rfl,h0,h1,h2⟩:=Zog h;obtain⟨g1,g2,g3⟩:=Uc h2;refine .plain c ?_ (λ_=>rfl) rfl;refine(QO (v:=.ty t.name) g1 (c.bls _ h1) (Zmr h0) rfl g3 g2).weak λσ H Q hw=>?_;obtain⟨σm,M,rs,rh,hw⟩:=hw;exact hw _ _ (Kp.refl _) (.ty t) rh
 |.bin op a b,X,e,c,h=>by
  obtain⟨l,r,p,rfl,h1,h2⟩:=Zm5 h;refine .plain c ?_ (λ_=>rfl) rfl;refine(Rj (ZnS op) (sE a c h1).pe (sE b c h2).pe).weak λσ H Q hw=>?_;have:wE Φ (.bin op a b)=λσ M Q=>wE Φ a σ M λx M1=>wE Φ b σ M1 λy M2=>wBin op x y M2 Q:=rfl;rw[this]at hw;exact DJ (ta:=wE Φ a) (tb:=wE Φ b) (w:=wBin op) (Xc c.mon a) (Xc c.mon b) (Im op) hw
 |.neg a,X,e,c,h=>absurd h XB
 |.not a,X,e,c,h=>by
  obtain⟨l,p,rfl,h1⟩:=ZlW h;have ih:=sE a c h1;refine⟨(QV ih.pe).weak λσ H Q hw=>?_,λht=>(QQ (ih.pt ht)).weak λσ H Q hw=>?_,λ_ z=>by cases z⟩
  ·obtain⟨σm,M,rs,rh,hw⟩:=hw;rw[DQ]at hw;refine⟨σm,M,rs,rh,Xc c.mon a (λx M1 ⟨i,e,q⟩=>?_) hw⟩;subst e;intro v H1 k1 r1 rh1;cases r1;exact⟨i,rfl,q _ _ k1 (.bl _) rh1⟩
  ·obtain⟨σm,M,rs,rh,hw⟩:=hw;rw[DQ]at hw;refine⟨σm,M,rs,rh,Xc c.mon a (λx M1 ⟨i,e,b,e2,q⟩=>⟨i,e,λH' k rh'=>?_⟩) hw⟩;cases e2;exact q H' k rh'
 |.cmp op a b,X,e,c,h=>by
  obtain⟨l,r,p,rfl,h1,h2,h3⟩:=Zm3 h;have rd:∀σ H Q,liE X.K (wE Φ (.cmp op a b)) σ H Q->tOp (li2 X.K (wCmp op)) (liE X.K (wE Φ a)) (liE X.K (wE Φ b)) σ H Q:=λσ H Q hw=>by
   have:wE Φ (.cmp op a b)=λσ M Q=>wE Φ a σ M λx M1=>wE Φ b σ M1 λy M2=>wCmp op x y M2 Q:=rfl;rw[this]at hw;exact DJ (ta:=wE Φ a) (tb:=wE Φ b) (w:=wCmp op) (Xc c.mon a) (Xc c.mon b) (VE op) hw
  refine⟨(Ry (VF c.room op) (sE a c h1).pe (sE b c h2).pe h3).weak rd,λ_=>(Rz (VF c.room op) (sE a c h1).pe (sE b c h2).pe h3).weak λσ H Q hw=>?_,λ_ z=>by cases z⟩
  exact rd σ H _ (E3 (t:=wE Φ (.cmp op a b)) (Xc c.mon _) hw)
 |.chn op op' a b d,X,e,c,h=>by
  obtain⟨l,m,r,p,rfl,h1,h2,h3,h4⟩:=Zm4 h;refine⟨(RA (VF c.room op) (VF c.room op') (sE a c h1).pe (sE b c h2).pe (sE d c h3).pe h4).weak λσ H Q hw=>Je c.mon hw,
   λ_=>(RB (VF c.room op) (VF c.room op') (sE a c h1).pe (sE b c h2).pe (sE d c h3).pe h4).weak λσ H Q hw=>?_,λ_ z=>by cases z⟩
  exact Je c.mon (E3 (t:=wE Φ (.chn op op' a b d)) (Xc c.mon _) hw)
 |.and a b,X,e,c,h=>by
  obtain⟨l,r,rest,p,rfl,h1,h2⟩:=Zm6 h;have ih:=sE a c h1;have hb:PE X (.BoolOp .And (r::rest) p) (liE X.K (wE Φ b)):=by
   rcases h2 with⟨rfl,h2⟩|h2
   ·exact GV (sE b c h2).pe
   ·exact(sE b c h2).pe
  have hw':tok (.and a b)=true->PW X (.BoolOp .And (l::r::rest) p) (liT X.K (wE Φ (.and a b))):=λht=>by
   have ht:(tok a&&tok b)=true:=ht;rw[Yd]at ht;have hb2:PW X (.BoolOp .And (r::rest) p) (liT X.K (wE Φ b)):=by
    rcases h2 with⟨rfl,h2⟩|h2
    ·exact pw_and1 ((sE b c h2).pt ht.2)
    ·refine(sE b c h2).pw ht.2 ?_;cases b<;>first|rfl|exact absurd h2 XB
   refine(pw_and (ih.pt ht.1) hb2).weak λσ H Q hw=>?_;obtain⟨σm,M,rs,rh,hw⟩:=hw;rw[DR]at hw;refine⟨σm,M,rs,rh,Xc c.mon a (λx M1 ⟨k,e,q⟩=>⟨k,e,λH1 k1 rh1=>?_⟩) hw⟩;refine YS (λq=>⟨σm,M1,rs.mono k1,rh1,J9 (t:=wE Φ b) (Xc c.mon b) k1 q⟩) (λq=>let⟨b,e,q⟩:=q;MV.noConfusion e λeb=>eb▸q H1 k1 rh1) q
  refine⟨(QT ih.pe hb).weak λσ H Q hw=>?_,λht=>(hw' ht).pt,λht _=>hw' ht⟩;obtain⟨σm,M,rs,rh,hw⟩:=hw;rw[DR]at hw;refine⟨σm,M,rs,rh,Xc c.mon a (λx M1 ⟨k,e,q⟩=>?_) hw⟩;subst e;intro v H1 k1 r1 rh1;cases r1;refine⟨k,rfl,YS (λq=>⟨σm,M1,rs.mono k1,rh1,Xc c.mon b (λm M' hq=>hq.on k1) q⟩) (λq=>q _ _ k1 (.bl _) rh1) q⟩
 |.or a b,X,e,c,h=>by
  obtain⟨l,r,rest,p,rfl,h1,h2⟩:=Zoi h;have ih:=sE a c h1;have hb:PE X (.BoolOp .Or (r::rest) p) (liE X.K (wE Φ b)):=by
   rcases h2 with⟨rfl,h2⟩|h2
   ·exact GV (sE b c h2).pe
   ·exact(sE b c h2).pe
  have hw':tok (.or a b)=true->PW X (.BoolOp .Or (l::r::rest) p) (liT X.K (wE Φ (.or a b))):=λht=>by
   have ht:(tok a&&tok b)=true:=ht;rw[Yd]at ht;have hb2:PW X (.BoolOp .Or (r::rest) p) (liT X.K (wE Φ b)):=by
    rcases h2 with⟨rfl,h2⟩|h2
    ·exact pw_or1 ((sE b c h2).pt ht.2)
    ·refine(sE b c h2).pw ht.2 ?_;cases b<;>first|rfl|exact absurd h2 XB
   refine(pw_or (ih.pt ht.1) hb2).weak λσ H Q hw=>?_;obtain⟨σm,M,rs,rh,hw⟩:=hw;rw[x_or]at hw;refine⟨σm,M,rs,rh,Xc c.mon a (λx M1 ⟨k,e,q⟩=>⟨k,e,λH1 k1 rh1=>?_⟩) hw⟩;refine YS (λq=>let⟨b,e,q⟩:=q;MV.noConfusion e λeb=>eb▸q H1 k1 rh1) (λq=>⟨σm,M1,rs.mono k1,rh1,J9 (t:=wE Φ b) (Xc c.mon b) k1 q⟩) q
  refine⟨(QU ih.pe hb).weak λσ H Q hw=>?_,λht=>(hw' ht).pt,λht _=>hw' ht⟩;obtain⟨σm,M,rs,rh,hw⟩:=hw;rw[x_or]at hw;refine⟨σm,M,rs,rh,Xc c.mon a (λx M1 ⟨k,e,q⟩=>?_) hw⟩;subst e;intro v H1 k1 r1 rh1;cases r1;refine⟨k,rfl,YS (λq=>q _ _ k1 (.bl _) rh1) (λq=>⟨σm,M1,rs.mono k1,rh1,Xc c.mon b (λm M' hq=>hq.on k1) q⟩) q⟩
 |.ife d a b,X,e,c,h=>by
  obtain⟨t,x,y,p,rfl,h0,h1,h2,h3⟩:=Zm0 h;refine⟨(QW ((sE d c h1).pt h0) (sE a c h2).pe (sE b c h3).pe).weak λσ H Q hw=>?_,λz=>(by cases z),λz _=>(by cases z)⟩
  obtain⟨σm,M,rs,rh,hw⟩:=hw;rw[IV]at hw;refine⟨σm,M,rs,rh,Xc c.mon d (λx M1 ⟨k,e,q⟩=>⟨k,e,λH1 k1 rh1=>?_⟩) hw⟩;exact YS (λq=>⟨σm,M1,rs.mono k1,rh1,Xc c.mon a (λm M' hq=>hq.on k1) q⟩) (λq=>⟨σm,M1,rs.mono k1,rh1,Xc c.mon b (λm M' hq=>hq.on k1) q⟩) q
 |.tup es,X,e,c,h=>by
  obtain⟨xs,k,p,rfl,h1⟩:=ZlT h;refine .plain c ?_ (λ_=>rfl) rfl;refine(RJ (sA es c h1)).weak λσ H Q hw=>?_;obtain⟨σm,M,rs,rh,hw⟩:=hw;refine⟨σm,M,rs,rh,mon_es c.mon es (λms M1 ⟨hz,q⟩=>?_) hw⟩;intro vs H1 k1 r1 rh1;refine⟨by rw[<- r1.length];exact hz,λp hp=>?_⟩
  have k2:=Kp.new hp (.tup vs);exact q _ _ (k1.trans k2) (.tup ZJ (r1.mono k2)) (rh1.kept hp _)
 |.lst es,X,e,c,h=>by
  obtain⟨xs,p,rfl,h1⟩:=ZlY h;refine .plain c ?_ (λ_=>rfl) rfl;refine(RK (sA es c h1)).weak λσ H Q hw=>?_;obtain⟨σm,M,rs,rh,hw⟩:=hw;refine⟨σm,M,rs,rh,mon_es c.mon es (λms M1 ⟨hz,q⟩=>?_) hw⟩;intro vs H1 k1 r1 rh1;refine⟨by rw[<- r1.length];exact hz,λp hp=>?_⟩
  have k2:=Kp.new hp (.lst vs);exact q p (rh1.free hp) _ _ (k1.trans k2) (.ref p) (rh1.put k2 (r1.mono k2))
 |.dic,X,e,c,h=>by
  obtain⟨p,rfl⟩:=Zm2 h;refine .plain c ?_ (λ_=>rfl) rfl;refine pe_dnewK.weak λσ H Q hw=>?_;obtain⟨σm,M,rs,rh,hw⟩:=hw;intro p hp;have k2:=Kp.new hp (.dK []);exact hw p (rh.free hp) _ _ k2 (.ref p) (rh.put k2 ⟨.nil,D6⟩)
 |.ix a b,X,e,c,h=>by
  obtain⟨l,r,p,rfl,h1,h2,h3⟩:=Zok h;refine .plain c ?_ (λ_=>rfl) rfl;refine(S8 (Zoe (by have:=c.room;lia)) (sE a c h1).pe (sE b c h2).pe (Zj1 h3)).weak λσ H Q hw=>?_
  have:wE Φ (.ix a b)=λσ M Q=>wE Φ a σ M λx M1=>wE Φ b σ M1 λy M2=>wIx x y M2 Q:=rfl;rw[this]at hw;exact DJ (ta:=wE Φ a) (tb:=wE Φ b) (w:=wIx) (Xc c.mon a) (Xc c.mon b) ID hw
 |.sl a lo hi,X,e,c,h=>by
  obtain⟨x,l,u,p,p2,rfl,h1,h2,h3⟩:=Zoh h;refine .plain c ?_ (λ_=>rfl) rfl;refine(S4 ZmW (sE a c h1).pe (sO lo c h2) (sO hi c h3)).weak λσ H Q hw=>?_;obtain⟨σm,M,rs,rh,hw⟩:=hw;refine⟨σm,M,rs,rh,Xc c.mon a (λx M1 q1=>?_) hw⟩;intro v H1 k1 r1 rh1;refine⟨σm,M1,rs.mono k1,rh1,mon_o c.mon lo (λl M2 q2=>?_) q1⟩;intro H2 k2 rh2;refine⟨σm,M2,rs.mono (k1.trans k2),rh2,mon_o c.mon hi (λu M3 q3=>?_) q2⟩;intro H3 k3 rh3;exact⟨x,M3,r1.mono (k2.trans k3),rh3,IG (λm M' hq=>hq.on (k1.trans (k2.trans k3))) q3⟩
 |.call j a es,X,e,c,h=>by
  obtain⟨f,p,x,xs,p2,rfl,h1,h2,h3,h4⟩:=Zjs h;obtain⟨g1,g2,g3⟩:=Uc h2;obtain⟨sp,hj⟩:=c.fnn j f h1;obtain⟨k,fa,fd,ps,hr,F,hm,hk,hb⟩:=c.fns j f sp h1 hj;have ha:PA X (x::xs) (Wi (liE X.K (wE Φ a)) (liA X.K (wEs Φ es))):=U9 (sE a c h3).pe (sA es c h4) (XX h3);refine .plain c ?_ (λ_=>rfl) rfl;refine(RP (E:=E0) F hr g1 hm hk hb .nil SF ha g2 (XX h3) (Wz (VJ (pos:=p2) h4)).2).weak λσ H Q hw=>?_;obtain⟨σm,M,rs,rh,hw⟩:=hw;rw[IW]at hw;refine⟨σm,M,rs,rh,Xc c.mon a (λv M1 q1=>?_) hw⟩;intro u H1 k1 r1 rh1;refine⟨σm,M1,rs.mono k1,rh1,mon_es c.mon es (λvs M2 ⟨f',sp',e,q2⟩=>?_) q1⟩;rw[hj]at e;cases e;intro us H2 k2 r2 rh2;refine⟨v::vs,M2,?_,rh2,c.mon j f sp hj (λm M' hq=>hq.on (k1.trans k2)) q2⟩;rw[Vg];exact .cons (r1.mono k2) r2
 |.bi f a es,X,e,c,h=>by
  obtain⟨p,x,xs,p2,rfl,h1,h2,h3,h4⟩:=Zom h;obtain⟨g1,g2,g3⟩:=Uc h2;have ha:PA X (x::xs) (Wi (liE X.K (wE Φ a)) (liA X.K (wEs Φ es))):=U9 (sE a c h3).pe (sA es c h4) (XX h3);have hv:=Zms f;have hcall:=Zmp (X:=X) c.calm f;have hp:PE X (.Call (.Name (f.name:Str) p) (x::xs) [] p2) (tCB (liW X.K (wBi f)) (Wi (liE X.K (wE Φ a)) (liA X.K (wEs Φ es)))):=by
   cases hf:f.val<;>rw[hf]at hv hcall<;>first
    |exact RU hcall g1 (c.bls _ h1) hv ha g3 g2 (XX h3) (Wz (VJ (pos:=p2) h4)).2
    |exact RV hcall g1 (c.bls _ h1) hv ha g3 g2 (XX h3) (Wz (VJ (pos:=p2) h4)).2
    |(cases f<;>cases hf)
  refine .plain c ?_ (λ_=>rfl) rfl;refine hp.weak λσ H Q hw=>?_;obtain⟨σm,M,rs,rh,hw⟩:=hw;refine⟨σm,M,rs,rh,Xc c.mon a (λv M1 q1=>?_) hw⟩;intro u H1 k1 r1 rh1;refine⟨σm,M1,rs.mono k1,rh1,mon_es c.mon es (λvs M2 q2=>?_) q1⟩;intro us H2 k2 r2 rh2;exact⟨v::vs,M2,.cons (r1.mono k2) r2,rh2,II f (λm M' hq=>hq.on (k1.trans k2)) q2⟩
 |.b2 f a,X,e,c,h=>by
  obtain⟨p,p',x,p2,p2',rfl,h1,h2,h3,h4,h5⟩:=Zon h;obtain⟨g1,g2,g3⟩:=Uc h3;obtain⟨k1,k2,k3⟩:=Uc h4;have hv:YD (f.out:Str)=some f.outV:=by cases f<;>decide+kernel
  have hv':YD (f.inn:Str)=some (.type f.inn):=by cases f<;>decide+kernel
  have hp:PE X (.Call (.Name (f.out:Str) p) [.Call (.Name (f.inn:Str) p') [x] [] p2'] [] p2) (λσ H Q=>liE X.K (wE Φ a) σ H λv H1=>li1 X.K (wB2 f) v H1 Q):=by
   have hc:=Zmq (X:=X) c.calm f;cases f with
   |lrng=>exact Zha (p:=p) (p':=p') (pos:=p2) (pos':=p2') hc g1 (c.bls _ h1) hv k1 (c.bls _ h2) hv' (sE a c h5).pe g3 g2 k3 k2 (XX h5)
   |ssrt=>exact DH (p:=p) (p':=p') (pos:=p2) (pos':=p2') hc g1 (c.bls _ h1) hv k1 (c.bls _ h2) hv' (sE a c h5).pe g3 g2 k3 k2 (XX h5)
   |lset=>exact DH (p:=p) (p':=p') (pos:=p2) (pos':=p2') hc g1 (c.bls _ h1) hv k1 (c.bls _ h2) hv' (sE a c h5).pe g3 g2 k3 k2 (XX h5)
   |tset=>exact DH (p:=p) (p':=p') (pos:=p2) (pos':=p2') hc g1 (c.bls _ h1) hv k1 (c.bls _ h2) hv' (sE a c h5).pe g3 g2 k3 k2 (XX h5)
  refine .plain c ?_ (λ_=>rfl) rfl;refine hp.weak λσ H Q hw=>?_;obtain⟨σm,M,rs,rh,hw⟩:=hw;refine⟨σm,M,rs,rh,Xc c.mon a (λv M1 q1=>?_) hw⟩;intro u H1 k1 r1 rh1;exact⟨v,M1,r1,rh1,IK f (λm M' hq=>hq.on k1) q1⟩
 |.st3 a,X,e,c,h=>absurd h XB
 |.mxd a,X,e,c,h=>absurd h XB
 |.mt m o es,X,e,c,h=>by
  obtain⟨ob,ap,args,cp,rfl,h1,h2,h3,h4⟩:=Zoj h;have slot:PySem.Slot m.ty (m.name:Str) m.id/\typeOf (.builtin m.id)=pure (.type "method_descriptor"):=by
   cases m
   ·exact⟨PySem.F.slot_list_append,PySem.F.type_list_append⟩
   ·exact⟨PySem.F.slot_list_extend,PySem.F.type_list_extend⟩
   ·exact⟨PySem.F.slot_list_reverse,PySem.F.type_list_reverse⟩
   ·exact⟨PySem.F.slot_list_clear,PySem.F.type_list_clear⟩
   ·exact⟨Gu,Gv⟩
   ·exact⟨Gu,Gv⟩
   ·exact⟨PySem.F.slot_dict_clear,PySem.F.type_dict_clear⟩
   ·exact⟨Gw,Gx⟩
   ·exact⟨Gw,Gx⟩
   ·exact⟨Gs,PySem.F.type_str_join⟩
   ·exact⟨PySem.F.slot_list_remove,PySem.F.type_list_remove⟩
  have plain:PlainAttrs m.ty:=by
   cases m<;>first|exact PySem.F.plainAttrs_list|exact PySem.F.plainAttrs_dict|exact PySem.F.plainAttrs_str
  have hu1:X.A.units+1<cLine:=by have:=c.room;lia
  have tyL:∀{H1:Hp} {M1:MH} {mx:MV} {v:V},RH X.K M1 H1->RM X.K H1 mx v->mtOk m mx M1->tyV X.K m.ty v H1:=by
   intro H1 M1 mx v rh r hm;cases m
   case join=>
    obtain⟨z,rfl⟩:=hm;cases r;exact rfl
   case dclear|dget|dgetD=>
    obtain⟨a,kvs,rfl,hm⟩:=hm;cases r;obtain⟨vs,e,_⟩:=rh.dic hm;exact .inr (.inr (.inl ⟨rfl,.inl ⟨vs,e⟩⟩))
   all_goals
    obtain⟨a,xs,rfl,hm⟩:=hm;cases r;obtain⟨vs,e,_⟩:=rh.lst hm;exact .inl ⟨rfl,vs,SqL.of e⟩
  refine .plain c ?_ (λ_=>rfl) rfl;cases args with
  |nil=>
   refine(Sg plain slot.1 slot.2 (IP hu1 m) (sE o c h2).pe (J1 h2) h1).weak λσ H Q hw=>?_;obtain⟨σm,M,rs,rh,hw⟩:=hw;refine⟨σm,M,rs,rh,Xc c.mon o (λv M1 ⟨q0,q1⟩=>?_) hw⟩;intro u H1 k1 r1 rh1;cases es with
   |cons _ _=>exact absurd h3 XB
   |nil=>
    exact⟨tyL rh1 r1 q0,v,[],M1,r1,.nil,rh1,DP (λm M' hq=>hq.on k1) q1⟩
  |cons x xs=>
   cases es with
   |nil=>cases J5 h3
   |cons a es=>
    have h3':=h3;obtain⟨x',xs',e',h3⟩:=J7 h3;cases e';have ha:=sA (.cons a es) c h3';have hall:=Wz (pos:=cp) (VJ (env:=X.env) (pos:=cp) h3');refine(Sh plain slot.1 slot.2 (IP hu1 m) (sE o c h2).pe ha (J1 h2) ?_ h1 (XX h3.1) (Wz (VJ (pos:=cp) h3.2)).2).weak λσ H Q hw=>?_
    ·rw[hall.1];simp only[Bool.true_and,Yd,decide_eq_true_eq];refine⟨rfl,?_⟩;simp at h4 ⊢;lia
    obtain⟨σm,M,rs,rh,hw⟩:=hw;refine⟨σm,M,rs,rh,Xc c.mon o (λv M1 ⟨q0,q1⟩=>?_) hw⟩;intro u H1 k1 r1 rh1;refine⟨tyL rh1 r1 q0,σm,M1,rs.mono k1,rh1,mon_es c.mon (.cons a es) (λvs M2 q2=>?_) q1⟩;intro us H2 k2 r2 rh2;exact⟨v,vs,M2,r1.mono k2,r2,rh2,DP (λm M' hq=>hq.on (k1.trans k2)) q2⟩
 |.comp own fr src tg test elt,X,e,c,h=>by
  obtain⟨x,t,it,ifs,scope,p,rfl,h1,h2,h3,h4,h5,h6,h7⟩:=J4 h;refine .plain c ?_ (λ_=>rfl) rfl;refine(Zj7 own fr (g:=gOf X.K tg) (te:=liE X.K (wE Φ elt)) (λe s h=>by rw[c.nox]at h;exact h) c.calm h1 (sSr src (tg:=t) c h4) (λC fp s₃ H₃=>sTg (X:=cxC X scope own fr C fp s₃ H₃) (lim:=own.length) (all:=false) c.calm h3 (λz=>by cases z) tg h5) (tt:=ttOf X.K Φ test) (λC fp s₃ H₃=>sI (X:=cxC X scope own fr C fp s₃ H₃) test (c.comp (VA h1).kind h3) h6)
   (λC fp s₃ H₃=>(sE (X:=cxC X scope own fr C fp s₃ H₃) elt (c.comp (VA h1).kind h3) h7).pe) (E5 h2 _)).thaw.weak λσ H Q hw=>?_
  exact Jd c.mon h5 hw
 |.fld cn o f,X,e,c,h=>absurd h XB
 |.mcall j cn m o es,X,e,c,h=>absurd h XB
 |.make j cn a es,X,e,c,h=>absurd h XB
 |.disp ps,X,e,c,h=>absurd h XB
theorem sP{G:GI}{Φ:List (Str×SpM)}:∀(ps:IPs) {X:Cx} {pos:Pos} {ks:List (Option Expr)} {vs:List Expr},Cok X G Φ->Wy G ps X.env.scope X.N ks vs=true->PPs X pos ks vs (trOf X.K Φ ps)
 |.nil,X,pos,ks,vs,c,h=>by
  obtain⟨rfl,rfl⟩:=Zg4 h;exact Sx
 |.cons k v r,X,pos,ks,vs,c,h=>by
  obtain⟨x,ks',y,vs',rfl,rfl,h1,h2,h3⟩:=ZeF h;exact Sy (sE k c h1).pe (sE v c h2).pe (sP r c h3)
theorem sA{G:GI}{Φ:List (Str×SpM)}:∀(ies:IEs) {X:Cx} {es:List Expr},Cok X G Φ->chkEs G ies X.env.scope X.N es=true->PA X es (liA X.K (wEs Φ ies))
 |.nil,X,es,c,h=>by
  cases es with
  |cons _ _=>cases J5 h
  |nil=>
   refine pa_nil.weak λσ H Q hw=>?_;obtain⟨σm,M,rs,rh,hw⟩:=hw;exact hw _ _ (Kp.refl _) .nil rh
 |.cons a as,X,es,c,h=>by
  cases es with
  |nil=>cases h
  |cons x xs=>
   obtain⟨x',xs',e',h⟩:=J7 h;cases e';refine(U9 (sE a c h.1).pe (sA as c h.2) (XX h.1)).weak λσ H Q hw=>?_;have:wEs Φ (.cons a as)=λσ M Q=>wE Φ a σ M λv M1=>wEs Φ as σ M1 λvs M2=>Q (v::vs) M2:=rfl;rw[this]at hw;exact ZlN (te:=wE Φ a) (t:=wEs Φ as) (Xc c.mon a) (mon_es c.mon as) hw
theorem sO{G:GI}{Φ:List (Str×SpM)}:∀(io:IO) {X:Cx} {e:Option Expr},Cok X G Φ->chkO G io X.env.scope X.N e=true->PO X e (liO X.K (wO Φ io))
 |.none,X,e,c,h=>by
  cases e with
  |some _=>cases Zg6 h
  |none=>
   intro pins s σ H Q I hw;refine S2 pins s σ H Q I ?_;obtain⟨σm,M,rs,rh,hw⟩:=hw;exact hw _ (Kp.refl _) rh
 |.some a,X,e,c,h=>by
  cases e with
  |none=>exact absurd h XB
  |some x=>
   obtain⟨x',e',h⟩:=Zg5 h;cases e';intro pins s σ H Q I hw;refine S3 (sE a c h).pe pins s σ H Q I ?_;obtain⟨σm,M,rs,rh,hw⟩:=hw;refine⟨σm,M,rs,rh,Xc c.mon a (λv M1 ⟨i,e,q⟩=>?_) hw⟩;subst e;intro u H1 k1 r1 rh1;cases r1;exact⟨i,rfl,q H1 k1 rh1⟩
theorem sI{G:GI}{Φ:List (Str×SpM)}:∀(io:IO) {X:Cx} {es:List Expr},Cok X G Φ->chkI G io X.env.scope X.N es=true->PTs X es (ttOf X.K Φ io)
 |.none,X,es,c,h=>by
  cases es with
  |cons _ _=>cases Zg8 h
  |nil=>exact .inl ⟨rfl,rfl⟩
 |.some a,X,es,c,h=>by
  obtain⟨x,rfl,h1,h2⟩:=Zg7 h;exact .inr ⟨x,rfl,(sE a c h2).pt h1⟩
theorem sSr{G:GI}{Φ:List (Str×SpM)}:∀(s:ISr) {X:Cx} {tg e:Expr},Cok X G Φ->chkSr G s X.env.scope X.N e=true->PI X tg e (liSr X (wSr Φ s))
 |.seq a,X,tg,e,c,h=>by
  refine(TU (sE a c h).pe).weak λσ H R hw=>?_;obtain⟨σm,M,rs,rh,hw⟩:=hw;refine⟨σm,M,rs,rh,Xc c.mon a (λv M1 q=>?_) hw⟩;intro u H1 k1 r1 rh1;rcases q with⟨xs,e,q⟩|⟨b,xs,e,hb,q⟩|⟨b,kvs,e,hb,q⟩|⟨z,e,q⟩
  ·rcases e with e|e
   ·subst e;cases r1 with
    |tup h1 q1=>exact .inl ⟨_,rfl,.inr (.inl ⟨_,SqT.of h1,q _ _ k1 rh1 (.inl ⟨_,_,h1,q1,rfl⟩)⟩)⟩
   ·subst e;cases r1 with
    |frl h1 q1=>exact .inl ⟨_,rfl,.inl ⟨_,h1.sq,q _ _ k1 rh1 (.inr ⟨_,_,h1,q1,rfl⟩)⟩⟩
  ·subst e;cases r1;obtain⟨vs,e2,_⟩:=rh1.lst hb;exact .inl ⟨_,rfl,.inl ⟨_,SqL.of e2,q _ _ k1 rh1 rfl⟩⟩
  ·subst e;cases r1;obtain⟨vs,e2,r2,nd⟩:=rh1.dic hb;refine .inl ⟨_,rfl,.inr (.inr ⟨vs,e2,λo nf=>?_⟩)⟩;have k:=Kp.upd e2 rfl (.frz o (.dK vs));exact q o _ _ (k1.trans k) (rh1.put k (o:=.fdic o kvs) ⟨rfl,r2.mono k,nd⟩) ⟨rfl,nf⟩
  ·subst e;cases r1;exact .inr ⟨z,rfl,q _ _ k1 rh1 rfl⟩
 |.rng a,X,tg,e,c,h=>by
  obtain⟨p,x,p2,rfl,h2,h3,h4⟩:=ZlV h;refine(Rf (Uc h3).1 (c.bls _ h2) (U9 (sE a c h4).pe pa_nil (XX h4)) (XX h4)).weak λσ H R hw=>?_;obtain⟨σm,M,rs,rh,hw⟩:=hw;refine⟨σm,M,rs,rh,Xc c.mon a (λv M1 ⟨j,e,q1,q2,q⟩=>?_) hw⟩;subst e;intro u H1 k1 r1 rh1;cases r1;exact⟨j,rfl,q1,q2,q _ _ k1 rh1 rfl⟩
 |.rng2 a b,X,tg,e,c,h=>by
  obtain⟨p,x,y,p2,rfl,h2,h3,h4,h5⟩:=Zjr h;refine(Rg (Uc h3).1 (c.bls _ h2) (U9 (sE a c h4).pe (U9 (sE b c h5).pe pa_nil (XX h5)) (XX h4)) (by rw[XX h4,XX h5];rfl) (XX h5)).weak λσ H R hw=>?_
  obtain⟨σm,M,rs,rh,hw⟩:=hw;refine⟨σm,M,rs,rh,Xc c.mon a (λv M1 q1=>?_) hw⟩;intro u H1 k1 r1 rh1;refine⟨σm,M1,rs.mono k1,rh1,Xc c.mon b (λw M2 ⟨i,j,e1,e2,hb,q⟩=>?_) q1⟩;subst e1 e2;intro u2 H2 k2 r2 rh2;cases r1;cases r2;exact⟨i,j,rfl,hb,q _ _ (k1.trans k2) rh2 rfl⟩
 |.rng3 a b d,X,tg,e,c,h=>by
  obtain⟨p,x,y,z,p2,rfl,h2,h3,h4,h5,h6⟩:=Zjq h;refine(Zh5 (Uc h3).1 (c.bls _ h2) (U9 (sE a c h4).pe (U9 (sE b c h5).pe (U9 (sE d c h6).pe pa_nil (XX h6)) (XX h5)) (XX h4)) (by rw[XX h4,XX h5,XX h6];rfl) (by rw[XX h5,XX h6];rfl)).weak λσ H R hw=>?_
  obtain⟨σm,M,rs,rh,hw⟩:=hw;refine⟨σm,M,rs,rh,Xc c.mon a (λv M1 q1=>?_) hw⟩;intro u H1 k1 r1 rh1;refine⟨σm,M1,rs.mono k1,rh1,Xc c.mon b (λw M2 q2=>?_) q1⟩;intro u2 H2 k2 r2 rh2;refine⟨σm,M2,rs.mono (k1.trans k2),rh2,Xc c.mon d (λw2 M3 ⟨i,j,e1,e2,e3,hb,q⟩=>?_) q2⟩;subst e1 e2 e3;intro u3 H3 k3 r3 rh3;cases r1;cases r2;cases r3;exact⟨i,j,rfl,hb,q _ _ (k1.trans (k2.trans k3)) rh3 rfl⟩
end
end L2
namespace L2
set_option genInjectivity false
open PySem PySem.Spec PyProof.Rows
mutual
inductive IS where
 |pass|brk|cnt|never
 |ret (e:IE)|retN
 |set (i:Nat) (e:IE)
 |asg (t:ITgs) (e:IE)
 |put (o i e:IE)
 |fset (c:Str) (o:IE) (f:Str) (e:IE)
 |expr (e:IE)
 |ite (c:IE) (a b:ISs)
 |for_ (t:ITg) (s:ISr) (b:ISs)
 |while_ (c:IE) (b:ISs)
inductive ISs where|nil|cons (s:IS) (r:ISs)
end
structure EndM where
 nx:Sm->MH->Prop
 rt:QM
 bk:Sm->MH->Prop:=λ_ _=>False
 ct:Sm->MH->Prop:=λ_ _=>False
mutual
noncomputable def wS(Φ:List (Str×SpM)):IS->EndM->Sm->MH->Prop
 |.pass,D,σ,M=>D.nx σ M
 |.brk,D,σ,M=>D.bk σ M
 |.cnt,D,σ,M=>D.ct σ M
 |.never,_,_,_=>False
 |.ret e,D,σ,M=>wE Φ e σ M D.rt
 |.retN,D,_,M=>D.rt .non M
 |.set i e,D,σ,M=>wE Φ e σ M λv M1=>D.nx (σ.set i (some v)) M1
 |.asg t e,D,σ,M=>wE Φ e σ M λv M1=>∃xs,v=.tup xs/\wTgs t xs σ λσ'=>D.nx σ' M1
 |.put o i e,D,σ,M=>wE Φ e σ M λv M1=>wE Φ o σ M1 λx M2=>wE Φ i σ M2 λy M3=>wPut x y v M3 λM4=>D.nx σ M4
 |.fset c o f e,D,σ,M=>wE Φ e σ M λv M1=>wE Φ o σ M1 λx M2=>∃a fs,x=.ref a/\M2 a=some (.ins c fs)/\fs.length<1000/\D.nx σ (updM M2 a (.ins c (putM fs f v)))
 |.expr e,D,σ,M=>wE Φ e σ M λ_ M1=>D.nx σ M1
 |.ite c a b,D,σ,M=>wE Φ c σ M λx M1=>onB x λk=>(if k=true then wSs Φ a D σ M1 else wSs Φ b D σ M1)
 |.for_ t s b,D,σ,M=>wSr Φ s σ M λS M1=>∃J:Nat->Sm->MH->Prop,J 0 σ M1/\(∀i σ M,J i σ M->S.ok M)/\
   (∀i x σ M,S.items[i]?=some x->J i σ M->wTg t x σ λσ2=>wSs Φ b {nx:=J (i+1),rt:=λv M=>S.okT M/\D.rt v (S.thaw M),bk:=λσ M=>S.okT M/\D.nx σ (S.thaw M),ct:=J (i+1)} σ2 M)/\∀σ M,J S.len σ M->D.nx σ (S.thaw M)
 |.while_ c b,D,σ,M=>∃J:Nat->Sm->MH->Prop,(∃m,J m σ M)/\∀m σ M,J m σ M->wE Φ c σ M λx M1=>∃k,x=.bl k/\
   (if k=true then wSs Φ b {nx:=λσ' M'=>∃m',m'<m/\J m' σ' M',rt:=D.rt,bk:=D.nx,ct:=λσ' M'=>∃m',m'<m/\J m' σ' M'} σ M1 else D.nx σ M1)
noncomputable def wSs(Φ:List (Str×SpM)):ISs->EndM->Sm->MH->Prop
 |.nil,D,σ,M=>D.nx σ M
 |.cons s r,D,σ,M=>wS Φ s {nx:=λσ M=>wSs Φ r D σ M,rt:=D.rt,bk:=D.bk,ct:=D.ct} σ M
end
theorem Jf{Φ:List (Str×SpM)}{c:IE}{a b:ISs}{D:EndM}{σ:Sm}{M:MH}:wS Φ (.ite c a b) D σ M=wE Φ c σ M λx M1=>∃k,x=.bl k/\(if k=true then wSs Φ a D σ M1 else wSs Φ b D σ M1):=by rw[wS];simp only[VG]
structure EndM.Le (D D':EndM):Prop where
 nx:∀σ M,D.nx σ M->D'.nx σ M
 rt:∀v M,D.rt v M->D'.rt v M
 bk:∀σ M,D.bk σ M->D'.bk σ M
 ct:∀σ M,D.ct σ M->D'.ct σ M
mutual
theorem Jg{Φ:List (Str×SpM)}(hΦ:∀(j:Nat) f sp,Φ[j]?=some (f,sp)->MonW sp):∀(s:IS) {D D':EndM} {σ:Sm} {M:MH},D.Le D'->wS Φ s D σ M->wS Φ s D' σ M
 |.pass,D,D',σ,M,l,h=>by exact l.nx _ _ h
 |.brk,D,D',σ,M,l,h=>by exact l.bk _ _ h
 |.cnt,D,D',σ,M,l,h=>by exact l.ct _ _ h
 |.never,D,D',σ,M,l,h=>h.elim
 |.ret e,D,D',σ,M,l,h=>by exact Xc hΦ e l.rt h
 |.retN,D,D',σ,M,l,h=>by exact l.rt _ _ h
 |.set i e,D,D',σ,M,l,h=>by exact Xc hΦ e (λv M1 h1=>l.nx _ _ h1) h
 |.asg t e,D,D',σ,M,l,h=>by exact Xc hΦ e (λv M1 ⟨xs,e,h1⟩=>⟨xs,e,mon_tgs t (λσ' h2=>l.nx _ _ h2) h1⟩) h
 |.put o i e,D,D',σ,M,l,h=>by
  exact Xc hΦ e (λv M1 h1=>Xc hΦ o (λx M2 h2=>Xc hΦ i (λy M3 h3=>IQ (λM4 h4=>l.nx _ _ h4) h3) h2) h1) h
 |.fset c o f e,D,D',σ,M,l,h=>by
  exact Xc hΦ e (λv M1 h1=>Xc hΦ o (λx M2 ⟨a,fs,e1,e2,e3,h2⟩=>⟨a,fs,e1,e2,e3,l.nx _ _ h2⟩) h1) h
 |.expr e,D,D',σ,M,l,h=>by exact Xc hΦ e (λv M1 h1=>l.nx _ _ h1) h
 |.ite c a b,D,D',σ,M,l,h=>by
  rw[Jf]at h ⊢;exact Xc hΦ c (λx M1 ⟨k,e,h1⟩=>⟨k,e,YS (mon_ss hΦ a l) (mon_ss hΦ b l) h1⟩) h
 |.for_ t s b,D,D',σ,M,l,h=>by
  refine mon_sr hΦ s (λS M1 ⟨J,j0,j1,j2,j3⟩=>⟨J,j0,j1,λi x σ M hx hj=>?_,λσ M hj=>l.nx _ _ (j3 σ M hj)⟩) h;exact Ut t (λσ2 h2=>by refine mon_ss hΦ b ?_ h2;exact⟨λ_ _ z=>z,λ_ _ z=>⟨z.1,l.rt _ _ z.2⟩,λ_ _ z=>⟨z.1,l.nx _ _ z.2⟩,λ_ _ z=>z⟩) (j2 i x σ M hx hj)
 |.while_ c b,D,D',σ,M,l,h=>by
  obtain⟨J,j0,j1⟩:=h;refine⟨J,j0,λm σ M hj=>Xc hΦ c (λx M1 ⟨k,e,h1⟩=>⟨k,e,YS (λz=>by refine mon_ss hΦ b ?_ z;exact⟨λ_ _ z=>z,l.rt,l.nx,λ_ _ z=>z⟩) (l.nx _ _) h1⟩) (j1 m σ M hj)⟩
theorem mon_ss{Φ:List (Str×SpM)}(hΦ:∀(j:Nat) f sp,Φ[j]?=some (f,sp)->MonW sp):∀(s:ISs) {D D':EndM} {σ:Sm} {M:MH},D.Le D'->wSs Φ s D σ M->wSs Φ s D' σ M
 |.nil,D,D',σ,M,l,h=>by exact l.nx _ _ h
 |.cons s r,D,D',σ,M,l,h=>by
  refine Jg hΦ s ?_ h;exact⟨λσ M h1=>mon_ss hΦ r l h1,l.rt,l.bk,l.ct⟩
end
noncomputable def Jh:Expr->Bool
 |.Tuple ..=>false|_=>true
noncomputable def WB:Expr->Bool
 |.ListComp ..=>false|.SetComp ..=>false|.DictComp ..=>false|_=>true
noncomputable def Ji:Stmt->Option (Option Expr)|.Return v _=>some v|_=>none
noncomputable def Cb:Stmt->Option (List Expr×Expr)|.Assign ts v _=>some (ts,v)|_=>none
noncomputable def asEx:Stmt->Option Expr|.Expr v _=>some v|_=>none
noncomputable def Jj:Stmt->Option (Expr×List Stmt×List Stmt)|.If t x y _=>some (t,x,y)|_=>none
noncomputable def Jk:Stmt->Option (Expr×Expr×List Stmt×List Stmt)|.For t i b r _=>some (t,i,b,r)|_=>none
section
variable{e:Stmt}
theorem ZjJ{x:Option Expr}(h:Ji e=some x):∃p,e=.Return x p:=by cases e<;>cases h;exact⟨_,rfl⟩
theorem E6{x:List Expr×Expr}(h:Cb e=some x):∃p,e=.Assign x.1 x.2 p:=by cases e<;>cases h;exact⟨_,rfl⟩
theorem Zmz{x:Expr}(h:asEx e=some x):∃p,e=.Expr x p:=by cases e<;>cases h;exact⟨_,rfl⟩
theorem ZjL{x:Expr×List Stmt×List Stmt}(h:Jj e=some x):∃p,e=.If x.1 x.2.1 x.2.2 p:=by cases e<;>cases h;exact⟨_,rfl⟩
theorem ZjM{x:Expr×Expr×List Stmt×List Stmt}(h:Jk e=some x):∃p,e=.For x.1 x.2.1 x.2.2.1 x.2.2.2 p:=by cases e<;>cases h;exact⟨_,rfl⟩
end
mutual
noncomputable def chkS(G:GI)(sc:Scope)(N:List Str):IS->Stmt->Bool
 |.pass,_=>false
 |.brk,_=>false
 |.cnt,_=>false
 |.never,_=>true
 |.ret e,s=>(Ji s).any λo=>o.any λx=>chkE G e sc N x
 |.retN,_=>false
 |.set i e,s=>(Cb s).any λq=>(the1 q.1).any λt=>(YT t).any λx=>decide (N[i]?=some x)&&locB sc x&&chkE G e sc N q.2
 |.asg t e,s=>(Cb s).any λq=>(the1 q.1).any λg=>(Ww g).any λes=>chkTgs sc N N.length true t es&&chkE G e sc N q.2&&Jh q.2
 |.put o i e,s=>(Cb s).any λq=>(the1 q.1).any λt=>(Wx t).any λa=>chkE G o sc N a.1&&chkE G i sc N a.2&&Wu a.2&&chkE G e sc N q.2
 |.fset c o f e,_=>false
 |.expr e,s=>(asEx s).any λv=>chkE G e sc N v&&WB v
 |.ite c a b,s=>(Jj s).any λq=>tok c&&chkE G c sc N q.1&&chkSs G sc N a q.2.1&&chkSs G sc N b q.2.2
 |.for_ t r b,s=>(Jk s).any λq=>Zc sc N N.length true t q.1&&chkSr G r sc N q.2.1&&Wv q.2.1&&chkSs G sc N b q.2.2.1&&non0 q.2.2.2
 |.while_ c b,_=>false
noncomputable def chkSs(G:GI)(sc:Scope)(N:List Str):ISs->List Stmt->Bool
 |.nil,l=>non0 l
 |.cons s r,l=>(hd1 l).any λq=>chkS G sc N s q.1&&chkSs G sc N r q.2
end
noncomputable def liD(K:X5)(H:Hp)(D:Ends):EndM where
 nx:=λσm M=>∀σ H',Kp H H'->RS K H' σm σ->RH K M H'->D.nx σ H'
 rt:=Dn K H D.rt
 bk:=λσm M=>∀σ H',Kp H H'->RS K H' σm σ->RH K M H'->D.bk σ H'
 ct:=λσm M=>∀σ H',Kp H H'->RS K H' σm σ->RH K M H'->D.ct σ H'
theorem liD.on{K:X5}{H H1:Hp}{D:Ends}(k:Kp H H1):(liD K H D).Le (liD K H1 D):=
 ⟨λ_ _ h σ H' k'=>h σ H' (k.trans k'),λ_ _ h=>h.on k,λ_ _ h σ H' k'=>h σ H' (k.trans k'),λ_ _ h σ H' k'=>h σ H' (k.trans k')⟩
noncomputable def liSt(K:X5)(t:EndM->Sm->MH->Prop):TS:=λD σ H=>∃σm M,RS K H σm σ/\RH K M H/\t (liD K H D) σm M
theorem ZgD{e:Expr}{x:Str}{p:Pos}{ln:Nat}{env:Env}(h:WB e=true):Uh e (some (.Name x p)) ln env=pure false:=by cases e<;>first|rfl|cases h
theorem ZgC{e:Expr}{ln:Nat}{env:Env}(h:WB e=true):Uh e none ln env=pure false:=by cases e<;>first|rfl|cases h
theorem ZiM{e:Expr}{es:List Expr}{k:Nat}{p:Pos}{ln:Nat}{env:Env}:Uh e (some (.Tuple es k p)) ln env=pure false:=by cases e<;>rfl
theorem ZiN{e a b:Expr}{p:Pos}{ln:Nat}{env:Env}:Uh e (some (.Subscript a b p)) ln env=pure false:=by cases e<;>rfl
theorem ZgE{elt:Expr}{gs:List Comprehension}{scope:Scope}{pos p:Pos}{x:Str}{ln:Nat}{env:Env}:∃b:Bool,Uh (.ListComp elt gs scope pos) (some (.Name x p)) ln env=pure b:=⟨_,rfl⟩
theorem Zml{G:GI}{ie:IE}{sc:Scope}{N:List Str}{e:Expr}(h:chkE G ie sc N e=true):WB e=true\/∃own fr src tg test elt,ie=.comp own fr src tg test elt:=by
 cases e<;>first
  |exact .inl rfl
  |(cases ie<;>first
    |exact .inr ⟨_,_,_,_,_,_,rfl⟩
    |exact absurd h XB)
section
variable{G:GI}{sc:Scope}{N:List Str}{st:Stmt}
theorem Zju{e:IE}(h:chkS G sc N (.ret e) st=true):∃x p,st=.Return (some x) p/\chkE G e sc N x=true:=by
 replace h:=Xj h;obtain⟨o,h1,h⟩:=h;obtain⟨p,rfl⟩:=ZjJ h1;replace h:=Xj h;obtain⟨x,rfl,h⟩:=h;exact⟨x,p,rfl,h⟩
theorem Zjt{i:Nat}{e:IE}(h:chkS G sc N (.set i e) st=true):∃x px v p,st=.Assign [.Name x px] v p/\N[i]?=some x/\locB sc x=true/\chkE G e sc N v=true:=by
 replace h:=Xj h;obtain⟨⟨ts,v⟩,h1,h⟩:=h;obtain⟨p,rfl⟩:=E6 h1;replace h:=Xj h;obtain⟨t,h2,h⟩:=h;obtain rfl:=ZP h2;replace h:=Xj h;obtain⟨x,h3,h⟩:=h;obtain⟨px,rfl⟩:=Zb h3;replace h:=Xd h;obtain⟨h,h6⟩:=h;replace h:=Xd h;obtain⟨h4,h5⟩:=h;exact⟨x,px,v,p,rfl,XR h4,h5,h6⟩
theorem Zjy{t:ITgs}{e:IE}(h:chkS G sc N (.asg t e) st=true):∃es k pt v p,st=.Assign [.Tuple es k pt] v p/\chkTgs sc N N.length true t es=true/\chkE G e sc N v=true/\Jh v=true:=by
 replace h:=Xj h;obtain⟨⟨ts,v⟩,h1,h⟩:=h;obtain⟨p,rfl⟩:=E6 h1;replace h:=Xj h;obtain⟨g,h2,h⟩:=h;obtain rfl:=ZP h2;replace h:=Xj h;obtain⟨es,h3,h⟩:=h;obtain⟨k,pt,rfl⟩:=DW h3;replace h:=Xd h;obtain⟨h,h6⟩:=h;replace h:=Xd h;obtain⟨h4,h5⟩:=h;exact⟨es,k,pt,v,p,rfl,h4,h5,h6⟩
theorem Zjv{o i e:IE}(h:chkS G sc N (.put o i e) st=true):∃a b pt v p,st=.Assign [.Subscript a b pt] v p/\chkE G o sc N a=true/\chkE G i sc N b=true/\Wu b=true/\chkE G e sc N v=true:=by
 replace h:=Xj h;obtain⟨⟨ts,v⟩,h1,h⟩:=h;obtain⟨p,rfl⟩:=E6 h1;replace h:=Xj h;obtain⟨g,h2,h⟩:=h;obtain rfl:=ZP h2;replace h:=Xj h;obtain⟨⟨a,b⟩,h3,h⟩:=h;obtain⟨pt,rfl⟩:=DX h3;replace h:=Xd h;obtain⟨h,h7⟩:=h;replace h:=Xd h;obtain⟨h,h6⟩:=h;replace h:=Xd h;obtain⟨h4,h5⟩:=h;exact⟨a,b,pt,v,p,rfl,h4,h5,h6,h7⟩
theorem ZhD{e:IE}(h:chkS G sc N (.expr e) st=true):∃v p,st=.Expr v p/\chkE G e sc N v=true/\WB v=true:=by
 replace h:=Xj h;obtain⟨v,h1,h⟩:=h;obtain⟨p,rfl⟩:=Zmz h1;exact⟨v,p,rfl,Xd h⟩
theorem Zjw{c:IE}{a b:ISs}(h:chkS G sc N (.ite c a b) st=true):∃t x y p,st=.If t x y p/\tok c=true/\chkE G c sc N t=true/\chkSs G sc N a x=true/\chkSs G sc N b y=true:=by
 replace h:=Xj h;obtain⟨⟨t,x,y⟩,h1,h⟩:=h;obtain⟨p,rfl⟩:=ZjL h1;replace h:=Xd h;obtain⟨h,h5⟩:=h;replace h:=Xd h;obtain⟨h,h4⟩:=h;replace h:=Xd h;obtain⟨h2,h3⟩:=h;exact⟨t,x,y,p,rfl,h2,h3,h4,h5⟩
theorem Zjx{t:ITg}{s:ISr}{b:ISs}(h:chkS G sc N (.for_ t s b) st=true):∃tg it body p,st=.For tg it body [] p/\Zc sc N N.length true t tg=true/\chkSr G s sc N it=true/\Wv it=true/\chkSs G sc N b body=true:=by
 replace h:=Xj h;obtain⟨⟨tg,it,body,els⟩,h1,h⟩:=h;obtain⟨p,rfl⟩:=ZjM h1;replace h:=Xd h;obtain⟨h,h6⟩:=h;replace h:=Xd h;obtain⟨h,h5⟩:=h;replace h:=Xd h;obtain⟨h,h4⟩:=h;replace h:=Xd h;obtain⟨h2,h3⟩:=h;obtain rfl:=YA h6;exact⟨tg,it,body,p,rfl,h2,h3,h4,h5⟩
theorem ZhC{sts:List Stmt}(h:chkSs G sc N .nil sts=true):sts=[]:=by
 exact YA h
theorem Zg9{s:IS}{r:ISs}{sts:List Stmt}(h:chkSs G sc N (.cons s r) sts=true):∃x xs,sts=x::xs/\chkS G sc N s x=true/\chkSs G sc N r xs=true:=by
 replace h:=Xj h;obtain⟨⟨x,xs⟩,h1,h⟩:=h;exact⟨x,xs,Uv h1,Xd h⟩
end
mutual
theorem sS{G:GI}{Φ:List (Str×SpM)}:∀(is:IS) {X:Cx} {st:Stmt},Cok X G Φ->(∀x,X.fn x=true)->chkS G X.env.scope X.N is st=true->PS X st (liSt X.K (wS Φ is))
 |.pass,X,st,c,hf,h=>absurd h XB
 |.brk,X,st,c,hf,h=>absurd h XB
 |.cnt,X,st,c,hf,h=>absurd h XB
 |.never,X,st,c,hf,h=>by
  refine ps_never.weak λD σ H hw=>?_;obtain⟨σm,M,rs,rh,hw⟩:=hw;exact hw
 |.ret e,X,st,c,hf,h=>by
  obtain⟨v,p,rfl,h⟩:=Zju h;refine(R1 (sE e c h).pe).weak λD σ H hw=>?_;obtain⟨σm,M,rs,rh,hw⟩:=hw;exact⟨σm,M,rs,rh,hw⟩
 |.retN,X,st,c,hf,h=>absurd h XB
 |.set i e,X,st,c,hf,h=>by
   obtain⟨x,px,v,p,rfl,h1,h2,h3⟩:=Zjt h;have rd:∀D σ H,liSt X.K (wS Φ (.set i e)) D σ H->liE X.K (wE Φ e) σ H λv H1=>D.nx (σ.set i (some v)) H1:=λD σ H hw=>by
    obtain⟨σm,M,rs,rh,hw⟩:=hw;refine⟨σm,M,rs,rh,Xc c.mon e (λv M1 q=>?_) hw⟩;intro u H1 k1 r1 rh1;exact q _ _ k1 ((rs.mono k1).set r1 i) rh1
   rcases Zml h3 with hn|⟨own,fr,src,tg,test,elt,rfl⟩
   ·exact(GZ c.nd h1 (C8 h2) (sE e c h3).pe (ZgD hn) (.inl (hf _))).weak rd
   ·obtain⟨y,t,it,ifs,scope,p3,rfl,i1,i2,i3,i4,i5,i6,i7⟩:=J4 h3;obtain⟨b,hb⟩:=ZgE (elt:=y) (gs:=[⟨t,it,ifs,0⟩]) (scope:=scope) (pos:=p3) (p:=px) (x:=x) (ln:=p.line) (env:=X.env);cases b with
    |false=>exact(GZ c.nd h1 (C8 h2) (sE _ c h3).pe hb (.inl (hf _))).weak rd
    |true=>
     refine(Zei own fr (g:=gOf X.K tg) (te:=liE X.K (wE Φ elt)) (tt:=ttOf X.K Φ test) c.nd h1 (C8 h2) (λe s h=>by rw[c.nox]at h;exact h) c.calm i1 (sSr src (tg:=t) c i4)
      (λC fp s₃ H₃=>sTg (X:=cxC X scope own fr C fp s₃ H₃) (lim:=own.length) (all:=false) c.calm i3 (λz=>by cases z) tg i5) (λC fp s₃ H₃=>sI (X:=cxC X scope own fr C fp s₃ H₃) test (c.comp (VA i1).kind i3) i6)
      (λC fp s₃ H₃=>(sE (X:=cxC X scope own fr C fp s₃ H₃) elt (c.comp (VA i1).kind i3) i7).pe) hb (E5 i2 _) (.inl (hf _))).thaw.weak λD σ H hw=>?_
     exact Jd c.mon i5 (rd D σ H hw)
 |.asg t e,X,st,c,hf,h=>by
   obtain⟨es,k,pt,v,p,rfl,h1,h2,h3⟩:=Zjy h;have hT:Zc X.env.scope X.N X.N.length true (.tup t) (.Tuple es k pt)=true:=h1;refine(GY (sE e c h2).pe (sTg (lim:=X.N.length) (all:=true) c.calm c.nd (λ_=>hf) (.tup t) hT) (ZiM (e:=v) (es:=es) (k:=k) (p:=pt) (ln:=p.line) (env:=X.env)) (by cases v<;>first|rfl|cases h3) rfl).weak λD σ H hw=>?_
   obtain⟨σm,M,rs,rh,hw⟩:=hw;refine⟨σm,M,rs,rh,Xc c.mon e (λv M1 ⟨xs,e,q⟩=>?_) hw⟩;intro u H1 k1 r1 rh1;refine Ca (Ψ:=λ_=>True) (lim:=X.N.length) (λ_ _ _ _ z=>z) (.tup t) hT r1 (rs.mono k1) trivial (P:=λσ'=>(liD X.K H D).nx σ' M1) ⟨xs,e,q⟩ λσm' σ' q' rs' _=>?_;exact q' _ _ k1 rs' rh1
 |.put o i e,X,st,c,hf,h=>by
   obtain⟨a,b,pt,v,p,rfl,h1,h2,h3,h4⟩:=Zjv h;have hg:PG X (.Subscript a b pt) (gSub (liE X.K (wE Φ o)) (liE X.K (wE Φ i)) (IR X.K)):=R8 (sE o c h1).pe (sE i c h2).pe (ZkW (by have:=c.room;lia)) (by intro v;cases b<;>first|rfl|cases h3)
   refine(GY (sE e c h4).pe hg (ZiN (e:=v) (a:=a) (b:=b) (p:=pt) (ln:=p.line) (env:=X.env)) rfl rfl).weak λD σ H hw=>?_;obtain⟨σm,M,rs,rh,hw⟩:=hw;refine⟨σm,M,rs,rh,Xc c.mon e (λv M1 q1=>?_) hw⟩;intro u H1 k1 r1 rh1;refine⟨σm,M1,rs.mono k1,rh1,Xc c.mon o (λx M2 q2=>?_) q1⟩;intro u2 H2 k2 r2 rh2;refine⟨σm,M2,rs.mono (k1.trans k2),rh2,Xc c.mon i (λy M3 q3=>?_) q2⟩;intro u3 H3 k3 r3 rh3;refine⟨x,y,v,M3,r2.mono k3,r3,r1.mono (k2.trans k3),rh3,IQ (λM4 q4=>?_) q3⟩;intro H4 k4 rh4;have kk:=k1.trans (k2.trans (k3.trans k4));exact q4 _ _ kk (rs.mono kk) rh4
 |.fset cn o f e,X,st,c,hf,h=>absurd h XB
 |.expr e,X,st,c,hf,h=>by
  obtain⟨v,p,rfl,h1,h2⟩:=ZhD h;refine(R0 (sE e c h1).pe (ZgC h2)).weak λD σ H hw=>?_;obtain⟨σm,M,rs,rh,hw⟩:=hw;refine⟨σm,M,rs,rh,Xc c.mon e (λv M1 q=>?_) hw⟩;intro u H1 k1 r1 rh1;exact q _ _ k1 (rs.mono k1) rh1
 |.ite d a b,X,st,c,hf,h=>by
  obtain⟨t,x,y,p,rfl,h1,h2,h3,h4⟩:=Zjw h;refine(R3 ((sE d c h2).pt h1) (sSs a c hf h3) (sSs b c hf h4)).weak λD σ H hw=>?_;obtain⟨σm,M,rs,rh,hw⟩:=hw;rw[Jf]at hw;refine⟨σm,M,rs,rh,Xc c.mon d (λx M1 ⟨k,e,q⟩=>⟨k,e,λH1 k1 rh1=>?_⟩) hw⟩;exact YS (λq=>⟨σm,M1,rs.mono k1,rh1,mon_ss c.mon a (liD.on k1) q⟩) (λq=>⟨σm,M1,rs.mono k1,rh1,mon_ss c.mon b (liD.on k1) q⟩) q
 |.for_ t s b,X,st,c,hf,h=>by
   obtain⟨tg,it,body,p,rfl,h1,h2,h3,h4⟩:=Zjx h;refine(Ri (by rw[c.nox];exact PassesOwn.never) c.calm (sSr s (tg:=tg) c h2) (sTg (lim:=X.N.length) (all:=true) c.calm c.nd (λ_=>hf) t h1) (sSs b c hf h4) (E5 h3 _)).thaw.weak λD σ H hw=>?_
   obtain⟨σm,M,rs,rh,hw⟩:=hw;refine⟨σm,M,rs,rh,mon_sr c.mon s (λS M1 ⟨J,j0,j1,j2,j3⟩=>?_) hw⟩;intro I H1 k1 rh1 sit;refine⟨λi m σ' H'=>m=S.len - i/\i≤S.len/\Kp H1 H'/\∃σm' M',RS X.K H' σm' σ'/\RH X.K M' H'/\J i σm' M',⟨_,rfl,YL _,Kp.refl _,σm,M1,rs.mono k1,rh1,j0⟩,?_⟩;rintro i m σ2 H2 ⟨rfl,hi,k2,σm2,M2,rs2,rh2,hj⟩;obtain⟨goes,stops⟩:=Jc sit k2 rh2 (j1 i σm2 M2 hj);by_cases hlt:i<S.len
   ·obtain⟨go,yld⟩:=goes i hlt;refine .inr ⟨go,λσ' H'=>Kp H1 H'/\∃σm' M',RS X.K H' σm' σ'/\RH X.K M' H'/\J (i+1) σm' M',λσ' H' ⟨a,z⟩=>⟨S.len - (i+1),by lia,rfl,hlt,a,z⟩,λx H' y=>?_⟩
    obtain⟨e,m,hm,rm⟩:=yld x H' y;subst e;refine Ca (Ψ:=λ_=>True) (lim:=X.N.length) (λ_ _ _ _ z=>z) t h1 rm rs2 trivial (j2 i m σm2 M2 hm hj) λσm3 σ3 q rs3 _=>?_;refine⟨σm3,M2,rs3,rh2,?_⟩;refine mon_ss c.mon b ?_ q;refine⟨λσ' M' z σv H3 k3 rs' rh'=>⟨k2.trans k3,σ',M',rs',rh',z⟩,λv M' z u H3 k3 r3 rh'=>?_,λσ' M' z σv H3 k3 rs' rh'=>?_,λσ' M' z σv H3 k3 rs' rh'=>⟨k2.trans k3,σ',M',rs',rh',z⟩⟩
    ·obtain⟨H4,th,k4,rh4⟩:=C9 sit rh' z.1;exact⟨H4,th,z.2 u H4 (k1.trans (k2.trans (k3.trans k4))) (r3.mono k4) rh4⟩
    ·obtain⟨H4,th,k4,rh4⟩:=C9 sit rh' z.1;exact⟨H4,th,z.2 σv H4 (k1.trans (k2.trans (k3.trans k4))) (rs'.mono k4) rh4⟩
   ·have e:i=S.len:=by lia
    subst e;obtain⟨H4,th,k4,rh4⟩:=C9 sit rh2 (Ja (j1 _ σm2 M2 hj));exact .inl ⟨stops _ (Xh _),H4,th,j3 σm2 M2 hj _ _ (k1.trans (k2.trans k4)) (rs2.mono k4) rh4⟩
 |.while_ d b,X,st,c,hf,h=>absurd h XB
theorem sSs{G:GI}{Φ:List (Str×SpM)}:∀(is:ISs) {X:Cx} {sts:List Stmt},Cok X G Φ->(∀x,X.fn x=true)->chkSs G X.env.scope X.N is sts=true->PSs X sts (liSt X.K (wSs Φ is))
 |.nil,X,sts,c,hf,h=>by
   cases ZhC h;refine pss_nil.weak λD σ H hw=>?_;obtain⟨σm,M,rs,rh,hw⟩:=hw;exact hw σ H (Kp.refl _) rs rh
 |.cons s r,X,sts,c,hf,h=>by
   obtain⟨x,xs,rfl,h1,h2⟩:=Zg9 h;refine(QY (sS s c hf h1) (sSs r c hf h2)).weak λD σ H hw=>?_;obtain⟨σm,M,rs,rh,hw⟩:=hw;refine⟨σm,M,rs,rh,?_⟩;refine Jg c.mon s ?_ hw;refine⟨λσ' M' z σv H1 k1 rs' rh'=>?_,λv M' z=>z,λσ' M' z=>z,λσ' M' z=>z⟩;exact⟨σ',M',rs',rh',mon_ss c.mon r (liD.on k1) z⟩
end
end L2
namespace L2
open PySem PySem.Spec PyProof.Rows
structure Fts (P:Xl) (w:Xe) (K:X5) (mg:Str->Option X0) (base:Heap) (k:Nat) (G:GI) (Φ:List (Str×SpM)):Prop where
 bls:∀x,G.bl.contains x=true->mg x=none
 gls:∀x i,G.gl.lookup x=some i->∃tk,mg x=some (.int i tk)
 fnn:∀(j:Nat) f,G.fns[j]?=some f->∃sp,Φ[j]?=some (f,sp)
 mon:∀(j:Nat) f sp,Φ[j]?=some (f,sp)->MonW sp
 fns:∀(j:Nat) f sp,G.fns[j]?=some f->Φ[j]?=some (f,sp)->∃fa fd ps,FnOk P w K mg base CX0 k fa fd ps (liSp K sp)/\mg f=some (.ref fa)/\U0 K (.ref fa)=true/\Binds K fd ps []
 mts:∀(j:Nat) c m,G.mts.contains (j,c,m)=true->∃f sp,Φ[j]?=some (f,sp)/\∃C fa fd ps,FnOk P w K mg base CX0 k fa fd ps (liSp K sp)/\XM K XA c=some (some (.ref C))/\Cls K C/\Meth K C m fa/\Binds K fd ps []
 mks:∀(j:Nat) c,G.mks.contains (j,c)=true->∃f sp,Φ[j]?=some (f,sp)/\∃k' C fa fd ps,k'+1≤k/\FnOk P w K mg base CX0 k' fa fd ps (liSp K sp)/\XM K XA c=some (some (.ref C))/\mg c=some (.ref C)/\Mk K C fa/\Binds K fd ps []
 cls:∀c f,G.cls.contains (c,f)=true->∃C,XM K XA c=some (some (.ref C))/\Cls K C/\Dw K C f
noncomputable def WC(n:Nat)(vs:List MV):Sm:=vs.map some++UK (n - vs.length) none
theorem ZiQ{K:X5}{H:Hp}{N:List Str}{ms:List MV}{vs:List V}(r:RMs K H ms vs):RS K H (WC N.length ms) (start N vs):=by
 unfold WC start;have hl:=r.length;refine⟨by simp[hl],λi m e=>?_⟩
 by_cases hi:i<ms.length
 ·rw[Zu (by simpa using hi),Xg]at e
  cases q:ms[i]? with
  |none=>rw[q]at e;cases e
  |some x=>
   rw[q]at e;have ex:x=m:=Yk (Yk e);subst ex;obtain⟨u,hu,ru⟩:=r.get q;exact⟨u,by rw[Zu (by simpa [<- hl]using hi),Xg,hu];rfl,ru⟩
 ·rw[ZY (by simpa using hi),G9]at e
  split at e<;>cases e
theorem Fun.okM{P:Xl}{w:Xe}{K:X5}{mg:Str->Option X0}{base:Heap}{G:GI}{Φ:List (Str×SpM)}{x qual:Str}{st:Stmt}{f:Addr}{fd:Xi}{N ps:List Str}{k:Nat}{sp:SpM}
  (F:Fun K x qual st f fd) (S:FnScope N ps (X7 st)) (T:Fts P w K mg base k G Φ) (ir:ISs) (hc:chkSs G (X7 st) N ir (Xm st)=true)
  (len:∀vs M Q,sp vs M Q->vs.length=ps.length) (h:∀vs M Q,sp vs M Q->wSs Φ ir {nx:=λ_ M'=>Q .non M',rt:=Q} (WC N.length vs) M):FnOk P w K mg base CX0 (k+1) f fd ps (liSp K sp):=by
 refine F.ok S (λvs H Q E hs=>?_) λcdv A outer s H vs Q E hr hs=>?_
 ·obtain⟨ms,M,r,rh,q⟩:=hs;rw[<- r.length];exact len _ _ _ q
 obtain⟨ms,M,r,rh,q⟩:=hs;have c:Cok (cxOf CX0 P w K mg base N qual (X7 st) f cdv A outer s H E).nox G Φ:=
  ⟨(by have:=hr.un;show(A.deeper _).units+70<cLine;lia),rfl,rfl,(by show(if(X7 st).kind.isAnnotationScope then GM else(X7 st).kind)=.function;rw[S.kind];rfl),S.nd,T.bls,T.gls,T.fnn,T.mon,
   (λj f sp hg hj=>let⟨fa,fd,ps,F,hm,hk,hb⟩:=T.fns j f sp hg hj;⟨k,fa,fd,ps,hr,F,hm,hk,hb⟩),
   (λj c m h=>let⟨f,sp,hj,C,fa,fd,ps,F,hC,cl,hm,hb⟩:=T.mts j c m h;⟨f,sp,hj,k,C,fa,fd,ps,hr,F,hC,cl,hm,hb⟩),
   (λj c h=>let⟨f,sp,hj,k',C,fa,fd,ps,hk,F,hC,hm,mk1,hb⟩:=T.mks j c h;⟨f,sp,hj,k',C,fa,fd,ps,hr.mono hk,F,hC,hm,mk1,hb⟩),T.cls⟩
 refine⟨_,sSs ir c (λ_=>rfl) hc,WC N.length ms,M,ZiQ r,rh,?_⟩;refine mon_ss T.mon ir ?_ (h ms M _ q);exact⟨λσ M' z σv H' k1 rs' rh'=>z _ _ k1 .non rh',λv M' z=>z,λ_ _ z=>z.elim,λ_ _ z=>z.elim⟩
noncomputable def Jl:SpM:=λvs M Q=>∃ns:List Int,vs=[.frl (ns.map .int)]/\ns.length≤63/\∀M',Q (.bl true) M'
noncomputable def Cc(K:X5):Sp:=λvs H Q _=>∃(a:Addr) (ns:List Int),vs=[.ref a]/\FrL K H a (ns.map V.int)/\ns.length≤63/\∀H',Q (.bl true) H'
theorem ZlO{K:X5}{P:Xl}{w:Xe}{mg:Str->Option X0}{base:Heap}{k:Nat}{f:Addr}{fd:Xi}{ps:List Str}(F:FnOk P w K mg base CX0 k f fd ps (liSp K Jl)):FnOk P w K mg base CX0 k f fd ps (Cc K):=
 F.imp λvs H Q E ⟨a,ns,e,hs,hl,q⟩=>by
  subst e;refine⟨[.frl (ns.map .int)],λ_=>none,.cons (.frl hs (RMs.ints ns)) .nil,λ_ _ z=>(by cases z),ns,rfl,hl,λM'=>?_⟩
  intro v H' k r rh;cases r;exact q _
theorem Zoq{K:X5}{H:Hp}{a:Addr}{vs:List V}(o:Only H)(h:SqL K H a vs):FrL K H a vs:=by
 rcases h with(h|⟨ob,h⟩)|h
 ·rcases o a with z|⟨ob,xs,z⟩
  ·rw[h]at z;cases z
  ·rw[h]at z;cases z
 ·exact .inl ⟨ob,h⟩
 ·exact .inr h
theorem Zo3{P:Xl}{w:Xe}{K:X5}{mg:Str->Option X0}{base:Heap}{k:Nat}{G:GI}{Φ Ψ:List (Str×SpM)}(hb:∀x∈G.bl,mg x=none)(hg:∀p∈G.gl,∃tk,mg p.1=some (.int p.2 tk))(hf:Φ.map (·.1)=G.fns)
  (hm:∀p∈Φ++Ψ,MonW p.2) (hF:∀p∈Φ,∃fa fd ps,FnOk P w K mg base CX0 k fa fd ps (liSp K p.2)/\mg p.1=some (.ref fa)/\U0 K (.ref fa)=true/\Binds K fd ps [])
  (ht:∀q∈G.mts,∃f sp,(Φ++Ψ)[q.1]?=some (f,sp)/\∃C fa fd ps,FnOk P w K mg base CX0 k fa fd ps (liSp K sp)/\XM K XA q.2.1=some (some (.ref C))/\Cls K C/\Meth K C q.2.2 fa/\Binds K fd ps [])
  (hk:∀q∈G.mks,∃f sp,(Φ++Ψ)[q.1]?=some (f,sp)/\∃k' C fa fd ps,k'+1≤k/\FnOk P w K mg base CX0 k' fa fd ps (liSp K sp)/\XM K XA q.2=some (some (.ref C))/\mg q.2=some (.ref C)/\Mk K C fa/\Binds K fd ps [])
  (hc:∀q∈G.cls,∃C,XM K XA q.1=some (some (.ref C))/\Cls K C/\Dw K C q.2):Fts P w K mg base k G (Φ++Ψ)where
 bls:=λx h=>hb x (by simpa using h)
 gls:=λx i h=>hg (x,i) (Vs h)
 fnn:=λj f h=>by
  rw[<- hf,Xg]at h;cases e:Φ[j]? with
  |none=>rw[e]at h;cases h
  |some p=>rw[e]at h;cases h;exact⟨p.2,by rw[Zu (Xx.mp e).1,e]⟩
 mon:=λj f sp h=>hm (f,sp) (Xk h)
 fns:=λj f sp hj h=>by
  rw[<- hf,Xg]at hj;cases e:Φ[j]? with
  |none=>rw[e]at hj;cases hj
  |some p=>
   rw[Zu (Xx.mp e).1,e]at h;cases h;exact hF (f,sp) (Xk e)
 mts:=λj c m h=>ht (j,c,m) (by simpa using h)
 mks:=λj c h=>hk (j,c) (by simpa using h)
 cls:=λc f h=>hc (c,f) (by simpa using h)
theorem Xs{P:Xl}{w:Xe}{K:X5}{mg:Str->Option X0}{base:Heap}{k:Nat}{G:GI}{Φ:List (Str×SpM)}(hb:∀x∈G.bl,mg x=none)(hg:∀p∈G.gl,∃tk,mg p.1=some (.int p.2 tk))(hf:Φ.map (·.1)=G.fns)
  (hm:∀p∈Φ,MonW p.2) (hF:∀p∈Φ,∃fa fd ps,FnOk P w K mg base CX0 k fa fd ps (liSp K p.2)/\mg p.1=some (.ref fa)/\U0 K (.ref fa)=true/\Binds K fd ps []) (h1:G.mts=[]:=by rfl) (h2:G.mks=[]:=by rfl) (h3:G.cls=[]:=by rfl):Fts P w K mg base k G Φ:=by
 have:=Zo3 (Ψ:=[]) hb hg hf (by rw[Vg];exact hm) hF (by rw[h1];exact λ_ z=>nomatch z) (by rw[h2];exact λ_ z=>nomatch z) (by rw[h3];exact λ_ z=>nomatch z)
 rwa [Vg]at this
structure Fn1 (K:X5) (x:Str) (st:Stmt) (f:Addr) (d:Xi):Prop where
 a:XM K XA x=some (some (.ref f))
 F:Fun K x x st f d
structure FnT (K:X5) (mg:Str->Option X0) (x:Str) (ps:List Str) (st:Stmt) (f:Addr) (d:Xi):Prop where
 F:Fun K x x st f d
 b:Binds K d ps []
 m:mg x=some (.ref f)
theorem Fn1.t{K:X5}{h:Heap}{mg:Str->Option X0}{x:Str}{ps:List Str}{st:Stmt}{f:Addr}{d:Xi}(H:Fn1 K x st f d)(X:K.In h)(G:h.Ns XA mg)
  (b:∀(kV doc pm:X0) (an:Option Addr) (cdv ct:X0) (us:List X0),us.length=ps.length->bindArgs (Ul x x (Vy st) (Xm st) (X7 st) .none kV doc pm an cdv ct) ⟨us,[]⟩=pure (ps.zip us)):FnT K mg x ps st f d:=⟨H.F,H.F.binds b,Z0 X G H.a⟩
theorem Fn1.bt{K:X5}{x:Str}{y:Str}{st:Stmt}{f:Addr}{d:Xi}(H:Fn1 K x st f d)
  (r:∀(kV doc pm:X0) (an:Option Addr) (cdv ct v:X0),bindArgs (Ul x x (Vy st) (Xm st) (X7 st) .none kV doc pm an cdv ct) ⟨[v],[]⟩=pure [(y,v)]) (s:X1) (v:X0):BindsTo s d ⟨[v],[]⟩ [(y,v)]:=by
 obtain⟨_,_,kV,doc,pm,an,cdv,ct,_,rfl,_⟩:=H.F.ex;exact .of_eq (r kV doc pm an cdv ct v)
theorem us0{p:List X0->Prop}(h:p [])(us:List X0)(hl:us.length=0):p us:=by cases us with|nil=>exact h|cons _ _=>cases hl
theorem us1{p:List X0->Prop}(h:∀a0,p [a0])(us:List X0)(hl:us.length=1):p us:=by cases us with|nil=>cases hl|cons a r=>exact us0 (p:=λr=>p (a::r)) (h a) r (Wh hl)
theorem us2{p:List X0->Prop}(h:∀a0 a1,p [a0,a1])(us:List X0)(hl:us.length=2):p us:=by cases us with|nil=>cases hl|cons a r=>exact us1 (p:=λr=>p (a::r)) (h a) r (Wh hl)
theorem us3{p:List X0->Prop}(h:∀a0 a1 a2,p [a0,a1,a2])(us:List X0)(hl:us.length=3):p us:=by cases us with|nil=>cases hl|cons a r=>exact us2 (p:=λr=>p (a::r)) (h a) r (Wh hl)
theorem us4{p:List X0->Prop}(h:∀a0 a1 a2 a3,p [a0,a1,a2,a3])(us:List X0)(hl:us.length=4):p us:=by cases us with|nil=>cases hl|cons a r=>exact us3 (p:=λr=>p (a::r)) (h a) r (Wh hl)
theorem us5{p:List X0->Prop}(h:∀a0 a1 a2 a3 a4,p [a0,a1,a2,a3,a4])(us:List X0)(hl:us.length=5):p us:=by cases us with|nil=>cases hl|cons a r=>exact us4 (p:=λr=>p (a::r)) (h a) r (Wh hl)
section
variable{M:MH}{Q:QM}{i j:Int}{x y:MV}{a b:Addr}
theorem ZpG:wBin .Add (.int i) (.int j) M Q=Q (.int (i+j)) M:=rfl
theorem Zp9:wBin .Sub (.int i) (.int j) M Q=Q (.int (i - j)) M:=rfl
theorem Zpv:wBin .Mult (.int i) (.int j) M Q=(CMul i j/\Q (.int (i*j)) M):=rfl
theorem Znu:wBin .FloorDiv (.int i) (.int j) M Q=(Wn i j/\Q (.int (i/j)) M):=rfl
theorem Jn:wBin .Mod (.int i) (.int j) M Q=(0<j/\Q (.int (i%j)) M):=rfl
theorem Zpg:wBin .LShift (.int i) (.int j) M Q=(CPow i j/\Q (.int (i*2^j.toNat)) M):=rfl
theorem Zny{x y:Str}:wBin .Add (.str x) (.str y) M Q=(x.length+y.length≤sizeLine/\Q (.str (x++y)) M):=rfl
theorem Znh{x:Str}:wBin .Mult (.str x) (.int i) M Q=(x.length≤16/\ -1000≤i/\i≤1000/\Q (.str (Txt.mul x i)) M):=rfl
theorem Znx{xs ys:List MV}:wBin .Add (.tup xs) (.tup ys) M Q=(xs≠ []/\xs.length+ys.length≤sizeLine/\Q (.tup (xs++ys)) M):=rfl
theorem q_lt:wCmp .Lt (.int i) (.int j) M Q=Q (.bl (decide (i<j))) M:=propext ⟨fun⟨_,_,e,f,h⟩=>by cases e;cases f;exact h,λh=>⟨i,j,rfl,rfl,h⟩⟩
theorem q_le:wCmp .LtE (.int i) (.int j) M Q=Q (.bl (decide (i≤j))) M:=propext ⟨λh=>Or.elim h (fun⟨_,_,e,f,h⟩=>by cases e;cases f;exact h) (fun⟨_,_,e,_⟩=>nomatch e),λh=>Or.inl ⟨i,j,rfl,rfl,h⟩⟩
theorem Zpw{x y:Str}:wCmp .LtE (.str x) (.str y) M Q=Q (.bl (!decide (y.cps.toList<x.cps.toList))) M:=propext ⟨λh=>Or.elim h (fun⟨_,_,e,_⟩=>nomatch e) (fun⟨_,_,e,f,h⟩=>by cases e;cases f;exact h),λh=>Or.inr ⟨x,y,rfl,rfl,h⟩⟩
theorem q_gt:wCmp .Gt (.int i) (.int j) M Q=Q (.bl (decide (j<i))) M:=propext ⟨fun⟨_,_,e,f,h⟩=>by cases e;cases f;exact h,λh=>⟨i,j,rfl,rfl,h⟩⟩
theorem ZpD:wCmp .Eq (.int i) (.int j) M Q=Q (.bl (decide (i=j))) M:=rfl
theorem Zpu:wCmp .NotEq (.int i) (.int j) M Q=Q (.bl (!decide (i=j))) M:=rfl
theorem ZpB{x y:Str}:wCmp .Eq (.str x) (.str y) M Q=Q (.bl (decide (x=y))) M:=rfl
theorem Zps{x y:Str}:wCmp .NotEq (.str x) (.str y) M Q=Q (.bl (!decide (x=y))) M:=rfl
theorem Zla:wCmp .IsNot x .non M Q=Q (.bl (!VD x)) M:=propext ⟨λh=>Or.elim h (λh=>h.2) (fun⟨_,e,_⟩=>nomatch e),λh=>Or.inl ⟨rfl,h⟩⟩
theorem ZpC{y:MV}:wCmp .Eq (.ref a) y M Q=wEq (.ref a) y M λb=>Q (.bl b) M:=rfl
theorem Zpt{y:MV}:wCmp .NotEq (.ref a) y M Q=wEq (.ref a) y M λb=>Q (.bl (!b)) M:=rfl
theorem WD{xs:List MV}{y:MV}:wCmp .Eq (.tup xs) y M Q=wEq (.tup xs) y M λb=>Q (.bl b) M:=rfl
theorem Zpr{xs:List MV}{y:MV}:wCmp .NotEq (.tup xs) y M Q=wEq (.tup xs) y M λb=>Q (.bl (!b)) M:=rfl
theorem q_in:wCmp .In x y M Q=wIn x y M λb=>Q (.bl b) M:=rfl
theorem Zpq:wCmp .NotIn x y M Q=wIn x y M λb=>Q (.bl (!b)) M:=rfl
theorem WE{xs:List MV}{k:Bool->Prop}(h:M a=some (.lst xs))(hb:M b=some (.lst []))(q:k xs.isEmpty):wEq (.ref a) (.ref b) M k:=.inr (.inl ⟨a,b,xs,rfl,rfl,h,hb,q⟩)
theorem Zos{d e:Yr}{k:Bool->Prop}(n:eqS x y=none)(h:DM M x d)(h':DM M y e)(s:ZG d=true)(s':ZG e=true)(q:k (U7 d e)):wEq x y M k:=by
 unfold wEq;rw[n];exact .inr (.inr (.inl ⟨d,e,h,h',s,s',q⟩))
theorem E7{k:Bool->Prop}{m:Nat}(n:eqS x y=none)(h:Alike M m x y)(le:m≤60)(q:k true):wEq x y M k:=by
 unfold wEq;rw[n];exact .inl ⟨m,le,h,q⟩
theorem Alike.flat{x:MV}(n:Nat)(f:Yv x=true):Alike M n x x:=by
 cases n<;>rw[Alike]
 ·exact⟨f,rfl⟩
 ·exact .inl ⟨f,rfl⟩
theorem Alike.tup{xs ys:List MV}{n:Nat}(e:xs.length=ys.length)(h:∀(i:Nat) u v,xs[i]?=some u->ys[i]?=some v->Alike M n u v):Alike M (n+1) (.tup xs) (.tup ys):=by
 rw[Alike];exact .inr (.inl ⟨xs,ys,rfl,rfl,e,h⟩)
theorem Alike.two{a b a' b':MV}{n:Nat}(h1:Alike M n a a')(h2:Alike M n b b'):Alike M (n+1) (.tup [a,b]) (.tup [a',b']):=by
 refine .tup rfl λi u v h h'=>?_
 match i with
 |0=>cases h;cases h';exact h1
 |1=>cases h;cases h';exact h2
 |i+2=>cases h
theorem Alike.lst{x y:MV}{xs ys:List MV}{n:Nat}(h1:LstM M x xs)(h2:LstM M y ys)(e:xs.length=ys.length)(h:∀(i:Nat) u v,xs[i]?=some u->ys[i]?=some v->Alike M n u v):Alike M (n+1) x y:=by
 rw[Alike];exact .inr (.inr (.inl ⟨xs,ys,h1,h2,e,h⟩))
theorem Alike.dic{a b:Addr}{ka kb:List (Key×MV)}{n:Nat}(h1:M a=some (.dic ka))(h2:M b=some (.dic kb))(e:ka.length=kb.length)(h:∀k u,(k,u)∈ka->∃v,valM kb k=some v/\Alike M n u v):Alike M (n+1) (.ref a) (.ref b):=by
 rw[Alike];exact .inr (.inr (.inr ⟨a,b,ka,kb,rfl,rfl,h1,h2,e,h⟩))
noncomputable def ixO(o:Option MO)(y:MV)(M:MH)(Q:QM):Prop:=match o with
 |some (.lst xs)=>∃i v,y=.int i/\atI xs i=some v/\Q v M
 |some (.dic kvs)=>∃kk v,keyM y=some kk/\valM kvs kk=some v/\Q v M
 |some (.fdic _ kvs)=>∃kk v,keyM y=some kk/\valM kvs kk=some v/\Q v M
 |_=>False
theorem Jo:wIx (.ref a) y M Q=ixO (M a) y M Q:=propext ⟨λh=>by
  rcases h with⟨xs,i,v,e,r⟩|⟨kvs,kk,v,e,r⟩|⟨o,kvs,kk,v,e,r⟩
  ·rw[e];exact⟨i,v,r⟩
  ·rw[e];exact⟨kk,v,r⟩
  ·rw[e];exact⟨kk,v,r⟩,λh=>by
  cases e:M a with
  |none=>rw[e]at h;exact h.elim
  |some o=>
   rw[e]at h;cases o with
   |lst xs=>obtain⟨i,v,r⟩:=h;exact .inl ⟨xs,i,v,e,r⟩
   |dic kvs=>obtain⟨kk,v,r⟩:=h;exact .inr (.inl ⟨kvs,kk,v,e,r⟩)
   |ins _ _=>exact h.elim
   |fdic o kvs=>obtain⟨kk,v,r⟩:=h;exact .inr (.inr ⟨o,kvs,kk,v,e,r⟩)⟩
theorem Jp{xs:List MV}:ixO (some (.lst xs)) (.int i) M Q=∃v,atI xs i=some v/\Q v M:=propext ⟨fun⟨_,v,e,h⟩=>by cases e;exact⟨v,h⟩,fun⟨v,h⟩=>⟨i,v,rfl,h⟩⟩
theorem Zl8{kvs:List (Key×MV)}{x:Str}:ixO (some (.dic kvs)) (.str x) M Q=∃v,valM kvs (Xf x)=some v/\Q v M:=propext ⟨fun⟨_,v,e,h⟩=>by cases e;exact⟨v,h⟩,fun⟨v,h⟩=>⟨_,v,rfl,h⟩⟩
theorem Zl7{o:Obj}{kvs:List (Key×MV)}{x:Str}:ixO (some (.fdic o kvs)) (.str x) M Q=∃v,valM kvs (Xf x)=some v/\Q v M:=propext ⟨fun⟨_,v,e,h⟩=>by cases e;exact⟨v,h⟩,fun⟨v,h⟩=>⟨_,v,rfl,h⟩⟩
theorem Jq{xs:List MV}:wIx (.tup xs) (.int i) M Q=∃v,atI xs i=some v/\Q v M:=propext ⟨fun⟨_,v,e,h⟩=>by cases e;exact⟨v,h⟩,fun⟨v,h⟩=>⟨i,v,rfl,h⟩⟩
theorem Zpy{xs:List MV}:wIx (.frl xs) (.int i) M Q=∃v,atI xs i=some v/\Q v M:=propext ⟨fun⟨_,v,e,h⟩=>by cases e;exact⟨v,h⟩,fun⟨v,h⟩=>⟨i,v,rfl,h⟩⟩
theorem Zpx{z:Str}:wIx (.str z) (.int i) M Q=(z.length≤sizeLine/\∃c,atI z.cps.toList i=some c/\Q (.str ⟨#[c]⟩) M):=propext ⟨fun⟨_,c,e,h1,h2⟩=>by cases e;exact⟨h1,c,h2⟩,fun⟨h1,c,h2⟩=>⟨i,c,rfl,h1,h2⟩⟩
noncomputable def slO(o:Option MO)(lo hi:Option Int)(M:MH)(Q:QM):Prop:=match o with
 |some (.lst xs)=>∀p,M p=none->Q (.ref p) (updM M p (.lst (cutM xs lo hi)))
 |_=>False
theorem Zpf{lo hi:Option Int}:wSl (.ref a) lo hi M Q=slO (M a) lo hi M Q:=propext ⟨fun⟨xs,e,h⟩=>by rw[e];exact h,λh=>by
  cases e:M a with
  |none=>rw[e]at h;exact h.elim
  |some o=>
   rw[e]at h;cases o with
   |lst xs=>exact⟨xs,e,h⟩
   |dic kvs=>exact h.elim
   |ins _ _=>exact h.elim
   |fdic _ _=>exact h.elim⟩
theorem Znc{lo hi:Option Int}{xs:List MV}:slO (some (.lst xs)) lo hi M Q=∀p,M p=none->Q (.ref p) (updM M p (.lst (cutM xs lo hi))):=rfl
theorem Zpe{lo hi:Option Int}{z:Str}:wSl (.str z) lo hi M Q=(z.length≤sizeLine/\Q (.str (cutS z lo hi)) M):=rfl
theorem Zpd{lo hi:Option Int}{xs:List MV}:wSl (.tup xs) lo hi M Q=Q (.tup (cutM xs lo hi)) M:=rfl
theorem Znl{xs:List MV}:wBi .len [.tup xs] M Q=Q (.int xs.length) M:=rfl
theorem Zno{xs:List MV}:wBi .len [.frl xs] M Q=Q (.int xs.length) M:=rfl
theorem Znm{z:Str}:wBi .len [.str z] M Q=(z.length≤sizeLine/\Q (.int z.length) M):=rfl
noncomputable def lenO(o:Option MO)(M:MH)(Q:QM):Prop:=match o with
 |some (.lst xs)=>Q (.int xs.length) M
 |some (.dic kvs)=>Q (.int kvs.length) M
 |_=>False
theorem Znn:wBi .len [.ref a] M Q=lenO (M a) M Q:=propext ⟨λh=>by
  rcases h with⟨xs,e,h⟩|⟨kvs,e,h⟩<;>(rw[e];exact h),λh=>by
  cases e:M a with
  |none=>rw[e]at h;exact h.elim
  |some o=>
   rw[e]at h;cases o with
   |lst xs=>exact .inl ⟨xs,e,h⟩
   |dic kvs=>exact .inr ⟨kvs,e,h⟩
   |ins _ _=>exact h.elim
   |fdic _ _=>exact h.elim⟩
theorem Zl6{xs:List MV}:lenO (some (.lst xs)) M Q=Q (.int xs.length) M:=rfl
noncomputable def isO(o:Option Ty7)(c:Ty7)(M:MH)(Q:QM):Prop:=match o with
 |some T=>c≠.none/\Q (.bl (isTy T c)) M
 |none=>False
theorem Zpz{c:Ty7}:wBi .isinst [x,.ty c] M Q=isO (tyM M x) c M Q:=propext (by
 have e:wBi .isinst [x,.ty c] M Q=∃T,tyM M x=some T/\c≠.none/\Q (.bl (isTy T c)) M:=by cases x<;>rfl
 rw[e];exact⟨fun⟨T,e,h⟩=>by rw[e];exact h,λh=>by
  cases e:tyM M x with
  |none=>rw[e]at h;exact h.elim
  |some T=>rw[e]at h;exact⟨T,rfl,h⟩⟩)
noncomputable def isO2(o:Option Ty7)(c d:Ty7)(M:MH)(Q:QM):Prop:=match o with
 |some T=>c≠.none/\d≠.none/\Q (.bl (isTy T c||isTy T d)) M
 |none=>False
theorem Znt{c d:Ty7}:wBi .isinst [x,.tup [.ty c,.ty d]] M Q=isO2 (tyM M x) c d M Q:=propext (by
 have e:wBi .isinst [x,.tup [.ty c,.ty d]] M Q=∃T,tyM M x=some T/\c≠.none/\d≠.none/\Q (.bl (isTy T c||isTy T d)) M:=by cases x<;>rfl
 rw[e];exact⟨fun⟨T,e,h⟩=>by rw[e];exact h,λh=>by
  cases e:tyM M x with
  |none=>rw[e]at h;exact h.elim
  |some T=>rw[e]at h;exact⟨T,rfl,h⟩⟩)
theorem Zl9{T c d:Ty7}:isO2 (some T) c d M Q=(c≠.none/\d≠.none/\Q (.bl (isTy T c||isTy T d)) M):=rfl
theorem Zns{T c:Ty7}:isO (some T) c M Q=(c≠.none/\Q (.bl (isTy T c)) M):=rfl
theorem Zp0:tyM M (.int i)=some .int:=rfl
theorem ZoY{k:Str}:tyM M (.str k)=some .str:=rfl
theorem ZoX{xs:List MV}:tyM M (.tup xs)=some .tuple:=rfl
noncomputable def tyO:Option MO->Option Ty7
 |some (.lst _)=>some .list
 |some (.dic _)=>some .dict
 |_=>none
theorem ZoZ:tyM M (.ref a)=tyO (M a):=by
 cases e:M a with
 |none=>simp[tyM,tyO,e]
 |some o=>cases o<;>simp[tyM,tyO,e]
theorem Zn7{xs:List MV}:tyO (some (.lst xs))=some .list:=rfl
theorem Zn8{kvs:List (Key×MV)}:tyO (some (.dic kvs))=some .dict:=rfl
theorem ZpF:wBi .all [.ref a] M Q=∃bs:List Bool,M a=some (.lst (bs.map MV.bl))/\Q (.bl (bs.all id)) M:=rfl
theorem Zlc:wBi .dictL [.ref a] M Q=∃ps:List (Key×MV),M a=some (.lst (ps.map prM))/\∀p,M p=none->Q (.ref p) (updM M p (.dic (Ub ps))):=rfl
theorem Zl4{xs:List MV}:wBi .list [.tup xs] M Q=∀p,M p=none->Q (.ref p) (updM M p (.lst xs)):=rfl
theorem Zl5:wBi .list [.ref a] M Q=∃xs,M a=some (.lst xs)/\∀p,M p=none->Q (.ref p) (updM M p (.lst xs)):=rfl
theorem Zn9:wBi .tuple [.ref a] M Q=∃xs,M a=some (.lst xs)/\Q (.tup xs) M:=rfl
theorem Zlb{xs:List MV}:wBi .dict [.tup xs] M Q=∃ps:List (Key×MV),xs=ps.map prM/\∀p,M p=none->Q (.ref p) (updM M p (.dic (Ub ps))):=rfl
theorem Znv:wBi .dict [.ref a] M Q=∃kvs,M a=some (.dic kvs)/\∀p,M p=none->Q (.ref p) (updM M p (.dic kvs)):=rfl
noncomputable def apO(o:Option MO)(a:Addr)(y:MV)(M:MH)(Q:QM):Prop:=match o with
 |some (.lst xs)=>xs.length<sizeLine/\Q .non (updM M a (.lst (xs++[y])))
 |_=>False
theorem ZpE:wMts .append (.ref a) [y] M Q=apO (M a) a y M Q:=propext ⟨fun⟨xs,e,h⟩=>by rw[e];exact h,λh=>by
  cases e:M a with
  |none=>rw[e]at h;exact h.elim
  |some o=>
   rw[e]at h;cases o with
   |lst xs=>exact⟨xs,e,h⟩
   |dic kvs=>exact h.elim
   |ins _ _=>exact h.elim
   |fdic _ _=>exact h.elim⟩
theorem Znw{xs:List MV}:apO (some (.lst xs)) a y M Q=(xs.length<sizeLine/\Q .non (updM M a (.lst (xs++[y])))):=rfl
theorem ZpA:wMts .extend (.ref a) [.ref b] M Q=∃xs,M a=some (.lst xs)/\∃ys,M b=some (.lst ys)/\xs.length+ys.length≤sizeLine/\Q .non (updM M a (.lst (xs++ys))):=rfl
theorem Zng:mtOk .append x M=(∃a xs,x=.ref a/\M a=some (.lst xs)):=rfl
theorem Znf:mtOk .extend x M=(∃a xs,x=.ref a/\M a=some (.lst xs)):=rfl
theorem Zpp{z:Str}:mtOk .join (.str z) M=True:=propext ⟨λ_=>trivial,λ_=>⟨z,rfl⟩⟩
theorem Znp{sep:Str}:wMts .join (.str sep) [.ref b] M Q=(∃ss,M b=some (.lst (ss.map MV.str))/\ss.toArray.foldl (λn z=>n+z.length+sep.length) 0≤sizeLine/\(ZD sep ss).length≤sizeLine/\Q (.str (ZD sep ss)) M):=
 propext ⟨fun⟨_,_,ss,e,e',h⟩=>by cases e;cases e';exact⟨ss,h⟩,fun⟨ss,h⟩=>⟨sep,b,ss,rfl,rfl,h⟩⟩
noncomputable def puO(o:Option MO)(a:Addr)(i v:MV)(M:MH)(Q:MH->Prop):Prop:=match o with
 |some (.lst xs)=>∃k j,i=.int k/\ixN xs.length k=some j/\Q (updM M a (.lst (xs.set j v)))
 |some (.dic kvs)=>∃kk,keyM i=some kk/\kvs.length<sizeLine/\Q (updM M a (.dic (putM kvs kk v)))
 |_=>False
theorem Zpk{v:MV}{R:MH->Prop}:wPut (.ref a) x v M R=puO (M a) a x v M R:=propext ⟨λh=>by
  rcases h with⟨xs,k,j,e,r⟩|⟨kvs,kk,e,r⟩
  ·rw[e];exact⟨k,j,r⟩
  ·rw[e];exact⟨kk,r⟩,λh=>by
  cases e:M a with
  |none=>rw[e]at h;exact h.elim
  |some o=>
   rw[e]at h;cases o with
   |lst xs=>obtain⟨k,j,r⟩:=h;exact .inl ⟨xs,k,j,e,r⟩
   |dic kvs=>obtain⟨kk,r⟩:=h;exact .inr ⟨kvs,kk,e,r⟩
   |ins _ _=>exact h.elim
   |fdic _ _=>exact h.elim⟩
theorem Zl3{kvs:List (Key×MV)}{z:Str}{v:MV}{R:MH->Prop}:puO (some (.dic kvs)) a (.str z) v M R=(kvs.length<sizeLine/\R (updM M a (.dic (putM kvs (Xf z) v)))):=propext ⟨fun⟨_,e,h⟩=>by cases e;exact h,λh=>⟨_,rfl,h⟩⟩
noncomputable def srO(o:Option MO)(a:Addr)(M:MH)(Q:Src->MH->Prop):Prop:=match o with
 |some (.lst xs)=>Q (.lst a xs) M
 |some (.dic kvs)=>∀o,Q (.dic a o kvs) (updM M a (.fdic o kvs))
 |_=>False
noncomputable def srV(v:MV)(M:MH)(Q:Src->MH->Prop):Prop:=(∃xs,(v=.tup xs\/v=.frl xs)/\Q (.tup xs) M)\/(∃a xs,v=.ref a/\M a=some (.lst xs)/\Q (.lst a xs) M)\/(∃a kvs,v=.ref a/\M a=some (.dic kvs)/\∀o,Q (.dic a o kvs) (updM M a (.fdic o kvs)))\/∃z,v=.str z/\Q (.str z) M
theorem Zph{Φ:List (Str×SpM)}{e:IE}{σ:Sm}{R:Src->MH->Prop}:wSr Φ (.seq e) σ M R=wE Φ e σ M λv M1=>srV v M1 R:=rfl
theorem Zpc{R:Src->MH->Prop}:srV (.ref a) M R=srO (M a) a M R:=propext ⟨λh=>by
  rcases h with⟨xs,e,h⟩|⟨b,xs,e,f,h⟩|⟨b,xs,e,f,h⟩|⟨z,e,_⟩
  ·rcases e with e|e<;>cases e
  ·cases e;rw[f];exact h
  ·cases e;rw[f];exact h
  ·exact(nomatch e),λh=>by
  cases e:M a with
  |none=>rw[e]at h;exact h.elim
  |some o=>
   rw[e]at h;cases o with
   |lst xs=>exact .inr (.inl ⟨a,xs,rfl,e,h⟩)
   |dic kvs=>exact .inr (.inr (.inl ⟨a,kvs,rfl,e,h⟩))
   |ins _ _=>exact h.elim
   |fdic _ _=>exact h.elim⟩
theorem Znb{kvs:List (Key×MV)}{R:Src->MH->Prop}:srO (some (.dic kvs)) a M R=∀o,R (.dic a o kvs) (updM M a (.fdic o kvs)):=rfl
theorem Zpb{z:Str}{R:Src->MH->Prop}:srV (.str z) M R=R (.str z) M:=propext ⟨λh=>by
  rcases h with⟨xs,e,h⟩|⟨_,_,e,_⟩|⟨_,_,e,_⟩|⟨_,e,h⟩
  ·rcases e with e|e<;>exact(nomatch e)
  ·exact(nomatch e)
  ·exact(nomatch e)
  ·cases e;exact h,λh=>.inr (.inr (.inr ⟨z,rfl,h⟩))⟩
theorem Zp4{xs:List MV}:Src.thaw M (.tup xs)=M:=rfl
theorem Zp3{xs:List MV}:Src.thaw M (.lst a xs)=M:=rfl
theorem Zp2{n:Nat}:Src.thaw M (.rng i n)=M:=rfl
theorem Zp1{o:Obj}{kvs:List (Key×MV)}:Src.thaw M (.dic a o kvs)=updM M a (.dic kvs):=rfl
theorem Zpo{xs:List MV}:Src.okT M (.tup xs)=True:=rfl
theorem Zpn{xs:List MV}:Src.okT M (.lst a xs)=True:=rfl
theorem Zpm{n:Nat}:Src.okT M (.rng i n)=True:=rfl
theorem Zpl{o:Obj}{kvs:List (Key×MV)}:Src.okT M (.dic a o kvs)=(M a=some (.fdic o kvs)):=rfl
theorem Zna{xs:List MV}{R:Src->MH->Prop}:srO (some (.lst xs)) a M R=R (.lst a xs) M:=rfl
theorem Zpa{zs:List MV}{R:Src->MH->Prop}:srV (.tup zs) M R=R (.tup zs) M:=propext ⟨λh=>by
  rcases h with⟨xs,e,h⟩|h
  ·rcases e with e|e
   ·cases e;exact h
   ·exact nomatch e
  ·rcases h with⟨_,_,e,_⟩|⟨_,_,e,_⟩|⟨_,e,_⟩<;>exact(nomatch e),λh=>.inl ⟨zs,.inl rfl,h⟩⟩
noncomputable def rgV(v:MV)(M:MH)(Q:Src->MH->Prop):Prop:=∃j,v=.int j/\ -(2^62)≤j/\j<2^62/\Q (.rng 0 j.toNat) M
theorem Zpi{Φ:List (Str×SpM)}{e:IE}{σ:Sm}{R:Src->MH->Prop}:wSr Φ (.rng e) σ M R=wE Φ e σ M λv M1=>rgV v M1 R:=rfl
theorem Zpj{R:Src->MH->Prop}:rgV (.int i) M R=(-(2^62)≤i/\i<2^62/\R (.rng 0 i.toNat) M):=propext ⟨fun⟨_,e,h⟩=>by cases e;exact h,λh=>⟨i,rfl,h⟩⟩
noncomputable def rgV2(x y:MV)(M:MH)(Q:Src->MH->Prop):Prop:=∃i j,x=.int i/\y=.int j/\(-(2^62)≤i/\i<2^62/\ -(2^62)≤j/\j<2^62)/\Q (.rng i (j - i).toNat) M
theorem Znd{Φ:List (Str×SpM)}{e f:IE}{σ:Sm}{R:Src->MH->Prop}:wSr Φ (.rng2 e f) σ M R=wE Φ e σ M λx M1=>wE Φ f σ M1 λy M2=>rgV2 x y M2 R:=rfl
theorem Zne{R:Src->MH->Prop}:rgV2 (.int i) (.int j) M R=((-(2^62)≤i/\i<2^62/\ -(2^62)≤j/\j<2^62)/\R (.rng i (j - i).toNat) M):=propext ⟨fun⟨_,_,e,f,h⟩=>by cases e;cases f;exact h,λh=>⟨i,j,rfl,rfl,h⟩⟩
theorem Znk:wBi .max [.int i,.int j] M Q=Q (.int (if j>i then j else i)) M:=rfl
theorem Znj:wBi .min [.int i,.int j] M Q=Q (.int (if j<i then j else i)) M:=rfl
end
theorem v_s{v:MV}{k:MV->Prop}:onV (some (some v)) k=k v:=rfl
theorem b_0{b:Bool}{k:Bool->Prop}:onB (.bl b) k=k b:=rfl
theorem f_s{f:Str}{sp:SpM}{k:SpM->Prop}:onF (some (f,sp)) k=k sp:=rfl
theorem ZpZ{Φ:List (Str×SpM)}{σ:Sm}{M:MH}{Q:QM}{i:Nat}:wE Φ (.var i) σ M Q=onV σ[i]? (λv=>Q v M):=rfl
theorem Zq5{Φ:List (Str×SpM)}{σ:Sm}{M:MH}{Q:QM}{i:Int}:wE Φ (.int i) σ M Q=(Q (.int i) M):=rfl
theorem Zq1{Φ:List (Str×SpM)}{σ:Sm}{M:MH}{Q:QM}{x:Str}:wE Φ (.str x) σ M Q=(Q (.str x) M):=rfl
theorem e_bl{Φ:List (Str×SpM)}{σ:Sm}{M:MH}{Q:QM}{b:Bool}:wE Φ (.bl b) σ M Q=(Q (.bl b) M):=rfl
theorem Zq3{Φ:List (Str×SpM)}{σ:Sm}{M:MH}{Q:QM}:wE Φ (.non) σ M Q=(Q .non M):=rfl
theorem Zq7{Φ:List (Str×SpM)}{σ:Sm}{M:MH}{Q:QM}{x:Str}{i:Int}:wE Φ (.glb x i) σ M Q=(Q (.int i) M):=rfl
theorem e_ty{Φ:List (Str×SpM)}{σ:Sm}{M:MH}{Q:QM}{c:Ty7}:wE Φ (.ty c) σ M Q=(Q (.ty c) M):=rfl
theorem Zqb{Φ:List (Str×SpM)}{σ:Sm}{M:MH}{Q:QM}{op:ZW}{a b:IE}:wE Φ (.bin op a b) σ M Q=(wE Φ a σ M λx M1=>wE Φ b σ M1 λy M2=>wBin op x y M2 Q):=rfl
theorem Zq2{Φ:List (Str×SpM)}{σ:Sm}{M:MH}{Q:QM}{a:IE}:wE Φ (.not a) σ M Q=(wE Φ a σ M λx M1=>onB x λb=>Q (.bl (!b)) M1):=rfl
theorem Zq9{Φ:List (Str×SpM)}{σ:Sm}{M:MH}{Q:QM}{op:CmpOp}{a b:IE}:wE Φ (.cmp op a b) σ M Q=(wE Φ a σ M λx M1=>wE Φ b σ M1 λy M2=>wCmp op x y M2 Q):=rfl
theorem Zqa{Φ:List (Str×SpM)}{σ:Sm}{M:MH}{Q:QM}{op op':CmpOp}{a b c:IE}:wE Φ (.chn op op' a b c) σ M Q=(wE Φ a σ M λx M1=>wE Φ b σ M1 λy M2=>wCmp op x y M2 λz M3=>onB z λk=>(if k=true then wE Φ c σ M3 λw M4=>wCmp op' y w M4 Q else Q (.bl false) M3)):=rfl
theorem Zqc{Φ:List (Str×SpM)}{σ:Sm}{M:MH}{Q:QM}{a b:IE}:wE Φ (.and a b) σ M Q=(wE Φ a σ M λx M1=>onB x λc=>(if c=true then wE Φ b σ M1 Q else Q (.bl false) M1)):=rfl
theorem e_or{Φ:List (Str×SpM)}{σ:Sm}{M:MH}{Q:QM}{a b:IE}:wE Φ (.or a b) σ M Q=(wE Φ a σ M λx M1=>onB x λc=>(if c=true then Q (.bl true) M1 else wE Φ b σ M1 Q)):=rfl
theorem Zq6{Φ:List (Str×SpM)}{σ:Sm}{M:MH}{Q:QM}{a b c:IE}:wE Φ (.ife c a b) σ M Q=(wE Φ c σ M λx M1=>onB x λk=>(if k=true then wE Φ a σ M1 Q else wE Φ b σ M1 Q)):=rfl
theorem Zq0{Φ:List (Str×SpM)}{σ:Sm}{M:MH}{Q:QM}{es:IEs}:wE Φ (.tup es) σ M Q=(wEs Φ es σ M λvs M1=>vs.length≤sizeLine/\Q (.tup vs) M1):=rfl
theorem Zq4{Φ:List (Str×SpM)}{σ:Sm}{M:MH}{Q:QM}{es:IEs}:wE Φ (.lst es) σ M Q=(wEs Φ es σ M λvs M1=>vs.length≤sizeLine/\∀p,M1 p=none->Q (.ref p) (updM M1 p (.lst vs))):=rfl
theorem Zq8{Φ:List (Str×SpM)}{σ:Sm}{M:MH}{Q:QM}:wE Φ (.dic) σ M Q=(∀p,M p=none->Q (.ref p) (updM M p (.dic []))):=rfl
theorem e_ix{Φ:List (Str×SpM)}{σ:Sm}{M:MH}{Q:QM}{a b:IE}:wE Φ (.ix a b) σ M Q=(wE Φ a σ M λx M1=>wE Φ b σ M1 λy M2=>wIx x y M2 Q):=rfl
theorem e_sl{Φ:List (Str×SpM)}{σ:Sm}{M:MH}{Q:QM}{a:IE}{lo hi:IO}:wE Φ (.sl a lo hi) σ M Q=(wE Φ a σ M λx M1=>wO Φ lo σ M1 λl M2=>wO Φ hi σ M2 λh M3=>wSl x l h M3 Q):=rfl
theorem Zot{Φ:List (Str×SpM)}{σ:Sm}{M:MH}{Q:QM}{j:Nat}{e:IE}{es:IEs}:wE Φ (.call j e es) σ M Q=(wE Φ e σ M λv M1=>wEs Φ es σ M1 λvs M2=>onF Φ[j]? λsp=>sp (v::vs) M2 Q):=rfl
theorem e_b2{Φ:List (Str×SpM)}{σ:Sm}{M:MH}{Q:QM}{f:B2}{e:IE}:wE Φ (.b2 f e) σ M Q=(wE Φ e σ M λv M1=>wB2 f v M1 Q):=rfl
theorem e_bi{Φ:List (Str×SpM)}{σ:Sm}{M:MH}{Q:QM}{f:BI}{e:IE}{es:IEs}:wE Φ (.bi f e es) σ M Q=(wE Φ e σ M λv M1=>wEs Φ es σ M1 λvs M2=>wBi f (v::vs) M2 Q):=rfl
theorem e_mt{Φ:List (Str×SpM)}{σ:Sm}{M:MH}{Q:QM}{m:MT}{o:IE}{es:IEs}:wE Φ (.mt m o es) σ M Q=(wE Φ o σ M λx M1=>mtOk m x M1/\wEs Φ es σ M1 λvs M2=>wMts m x vs M2 Q):=rfl
theorem WF{Φ:List (Str×SpM)}{σ:Sm}{M:MH}{Q:QM}{own:List Str}{fr:List Nat}{src:ISr}{tg:ITg}{test:IO}{elt:IE}:wE Φ (.comp own fr src tg test elt) σ M Q=(wSr Φ src σ M λS M1=>S.len<sizeLine/\∀D,M1 D=none->∃J:Nat->List MV->MH->Prop,J 0 [] (updM M1 D (.lst []))/\
   (∀i ys M2,J i ys M2->M2 D=some (.lst ys)/\ys.length≤i/\S.ok M2)/\
   (∀i x ys M2,S.items[i]?=some x->J i ys M2->wTg tg x (sCm own fr σ) λσ2=>wI Φ test σ2 M2 λb M4=>
    if b=true then wE Φ elt σ2 M4 λy M5=>M5 D=some (.lst ys)/\J (i+1) (ys++[y]) (updM M5 D (.lst (ys++[y])))else J (i+1) ys M4)/\
   ∀ys M2,J S.len ys M2->Q (.ref D) (S.thaw M2)):=rfl
theorem WG{M M':MH}{S:Src}(h:S.okF M):S.thaw M'=M':=by
 cases S<;>first|rfl|exact h.elim
theorem Ud{Φ:List (Str×SpM)}{own:List Str}{fr:List Nat}{src:ISr}{tg:ITg}{elt:IE}{σ:Sm}{M:MH}{Q:QM}{α:Type}(xs:List α)(f g:α->MV)
  (hs:wSr Φ src σ M λS M1=>S.items=xs.map f/\xs.length<sizeLine/\S.okF M1/\M1=M)
  (ht:∀x∈xs,∀M',(∀a o,M a=some o->M' a=some o)->wTg tg (f x) (sCm own fr σ) λσ2=>wE Φ elt σ2 M' λy M2=>y=g x/\M2=M')
  (hΦ:∀(j:Nat) f sp,Φ[j]?=some (f,sp)->MonW sp) (q:∀D,M D=none->Q (.ref D) (updM M D (.lst (xs.map g)))):wE Φ (.comp own fr src tg .none elt) σ M Q:=by
 rw[WF];refine mon_sr hΦ src (λS M1 ⟨h1,h2,h3,h4⟩=>?_) hs;subst h4;have hl:S.len=xs.length:=by rw[<- S.items_len,h1,X2]
 refine⟨by rw[hl];exact h2,λD hD=>⟨λi ys M2=>M2=updM M1 D (.lst ys)/\ys=(xs.take i).map g,⟨rfl,by simp⟩,?_,?_,?_⟩⟩
 ·rintro i ys M2 ⟨rfl,rfl⟩;refine⟨Xb,by rw[X2,XL];lia,?_⟩
  cases S with
  |tup _=>trivial
  |rng _ _=>trivial
  |rst _ _ _=>trivial
  |dic _ _ _=>exact h3.elim
  |str _=>trivial
  |lst a zs=>
   have:a≠D:=by intro e;subst e;have h3:M1 a=some (.lst zs):=h3;rw[h3]at hD;cases hD
   show updM M1 D _ a=_;rw[X9 this];exact h3
 ·rintro i x ys M2 hx ⟨rfl,rfl⟩;rw[h1]at hx;have hi:i<xs.length:=by have:=(Xx.mp hx).1;rw[X2]at this;exact this
  rw[Xg,X6 hi]at hx;cases hx;refine Ut tg (λσ2 h=>?_) (ht xs[i] (XY hi) (updM M1 D (.lst ((xs.take i).map g))) (λa o e=>by
   rw[X9 (by intro z;subst z;rw[e]at hD;cases hD)];exact e))
  rw[wI,if_pos rfl];refine Xc hΦ elt (λy M2 ⟨e1,e2⟩=>?_) h;subst e1 e2;refine⟨Xb,C3,?_⟩;rw[ZZ,X6 hi,Y4]
  rfl
 ·rintro ys M2 ⟨rfl,rfl⟩;rw[hl,YQ (Xh _),WG h3];exact q D hD
theorem Jr{Φ:List (Str×SpM)}{own:List Str}{fr:List Nat}{src:ISr}{tg:ITg}{elt:IE}{σ:Sm}{M:MH}{Q:QM}{α:Type}(xs:List α)(f g:α->MV)
  (hs:wSr Φ src σ M λS M1=>S.items=xs.map f/\xs.length<sizeLine/\S.okF M1/\∀a o,M a=some o->M1 a=some o)
  (ht:∀x∈xs,∀M',(∀a o,M a=some o->M' a=some o)->wTg tg (f x) (sCm own fr σ) λσ2=>wE Φ elt σ2 M' λy M2=>y=g x/\∀a o,M' a=some o->M2 a=some o)
  (hΦ:∀(j:Nat) f sp,Φ[j]?=some (f,sp)->MonW sp) (q:∀D M',M D=none->(∀a o,M a=some o->M' a=some o)->M' D=some (.lst (xs.map g))->Q (.ref D) M'):wE Φ (.comp own fr src tg .none elt) σ M Q:=by
 rw[WF];refine mon_sr hΦ src (λS M1 ⟨h1,h2,h3,h4⟩=>?_) hs;have hl:S.len=xs.length:=by rw[<- S.items_len,h1,X2]
 have fre:∀D,M1 D=none->M D=none:=λD hD=>by
  cases e:M D with
  |none=>rfl
  |some o=>rw[h4 _ _ e]at hD;cases hD
 have ne:∀{a D:Addr} {o:MO},M1 a=some o->M1 D=none->a≠D:=λh h' z=>by subst z;rw[h]at h';cases h'
 refine⟨by rw[hl];exact h2,λD hD=>⟨λi ys M2=>(∀a o,M1 a=some o->M2 a=some o)/\M2 D=some (.lst ys)/\ys=(xs.take i).map g,⟨λa o e=>by rw[X9 (ne e hD)];exact e,Xb,by simp⟩,?_,?_,?_⟩⟩
 ·rintro i ys M2 ⟨s2,d2,rfl⟩;refine⟨d2,by rw[X2,XL];lia,?_⟩
  cases S with
  |tup _=>trivial
  |rng _ _=>trivial
  |rst _ _ _=>trivial
  |dic _ _ _=>exact h3.elim
  |str _=>trivial
  |lst a zs=>exact s2 _ _ h3
 ·rintro i x ys M2 hx ⟨s2,d2,rfl⟩;rw[h1]at hx;have hi:i<xs.length:=by have:=(Xx.mp hx).1;rw[X2]at this;exact this
  rw[Xg,X6 hi]at hx;cases hx;refine Ut tg (λσ2 h=>?_) (ht xs[i] (XY hi) M2 (λa o e=>s2 _ _ (h4 _ _ e)));rw[wI,if_pos rfl];refine Xc hΦ elt (λy M3 ⟨e1,e2⟩=>?_) h;subst e1;refine⟨e2 _ _ d2,λa o e=>by rw[X9 (ne e hD)];exact e2 _ _ (s2 _ _ e),Xb,?_⟩
  rw[ZZ,X6 hi,Y4]
  rfl
 ·rintro ys M2 ⟨s2,d2,rfl⟩;rw[hl,YQ (Xh _)]at d2;rw[WG h3];exact q D M2 (fre D hD) (λa o e=>s2 _ _ (h4 _ _ e)) d2
theorem Zp8{i:Nat}{v:MV}{σ:Sm}{R:Sm->Prop}:wTg (.nm i) v σ R=R (σ.set i (some v)):=rfl
theorem Zp5{ts:ITgs}{xs:List MV}{σ:Sm}{R:Sm->Prop}:wTg (.tup ts) (.tup xs) σ R=wTgs ts xs σ R:=by
 exact propext ⟨fun⟨_,e,h⟩=>by cases e;exact h,λh=>⟨_,rfl,h⟩⟩
theorem Zp7{t:ITg}{ts:ITgs}{v:MV}{r:List MV}{σ:Sm}{R:Sm->Prop}:wTgs (.cons t ts) (v::r) σ R=wTg t v σ λσ'=>wTgs ts r σ' R:=by
 exact propext ⟨fun⟨_,_,e,h⟩=>by cases e;exact h,λh=>⟨_,_,rfl,h⟩⟩
theorem Zp6{σ:Sm}{R:Sm->Prop}:wTgs .nil [] σ R=R σ:=propext ⟨λh=>h.2,λh=>⟨rfl,h⟩⟩
theorem Js{κ:Type} [DecidableEq κ] {k:κ}{v:MV}:∀{kvs:List (κ×MV)},(kvs.map (·.1)).Nodup->(k,v)∈kvs->valM kvs k=some v
 |(j,u)::r,nd,h=>by
  rw[Xz,YF]at nd;unfold valM;rcases Xn.mp h with e|h
  ·cases e;rw[if_pos rfl]
  ·rw[if_neg (λe=>nd.1 (by subst e;exact XI.mpr ⟨(j,v),h,rfl⟩)),Js nd.2 h]
section
variable{M:MH}
theorem Alike.dicFlat{a b:Addr}{kvs:List (Key×MV)}(n:Nat)(h1:M a=some (.dic kvs))(h2:M b=some (.dic kvs))(nd:(kvs.map (·.1)).Nodup)(f:∀p∈kvs,Yv p.2=true):Alike M (n+1) (.ref a) (.ref b):=
 .dic h1 h2 rfl λk u m=>⟨u,Js nd m,.flat n (f _ m)⟩
theorem Alike.lstFlat{x y:MV}{xs:List MV}(n:Nat)(h1:LstM M x xs)(h2:LstM M y xs)(f:∀v∈xs,Yv v=true):Alike M (n+1) x y:=
 .lst h1 h2 rfl λi u v e e'=>by
  rw[e]at e';cases e';exact .flat n (f u (Xk e))
end
section
variable{Φ:List (Str×SpM)}{D:EndM}{σ:Sm}{M:MH}
theorem ZoQ:wSs Φ .nil D σ M=D.nx σ M:=rfl
theorem Zn0{s:IS}{r:ISs}:wSs Φ (.cons s r) D σ M=wS Φ s {nx:=λσ M=>wSs Φ r D σ M,rt:=D.rt,bk:=D.bk,ct:=D.ct} σ M:=rfl
theorem ZoO{e:IE}:wS Φ (.ret e) D σ M=wE Φ e σ M D.rt:=rfl
theorem ZoN{i:Nat}{e:IE}:wS Φ (.set i e) D σ M=wE Φ e σ M λv M1=>D.nx (σ.set i (some v)) M1:=rfl
theorem ZoT{t:ITgs}{e:IE}:wS Φ (.asg t e) D σ M=wE Φ e σ M λv M1=>∃xs,v=.tup xs/\wTgs t xs σ λσ'=>D.nx σ' M1:=rfl
theorem ZoP{o i e:IE}:wS Φ (.put o i e) D σ M=wE Φ e σ M λv M1=>wE Φ o σ M1 λx M2=>wE Φ i σ M2 λy M3=>wPut x y v M3 λM4=>D.nx σ M4:=rfl
theorem ZmZ{e:IE}:wS Φ (.expr e) D σ M=wE Φ e σ M λ_ M1=>D.nx σ M1:=rfl
theorem ZoR{c:IE}{a b:ISs}:wS Φ (.ite c a b) D σ M=wE Φ c σ M λx M1=>onB x λk=>(if k=true then wSs Φ a D σ M1 else wSs Φ b D σ M1):=rfl
theorem ZoS{t:ITg}{s:ISr}{b:ISs}:wS Φ (.for_ t s b) D σ M=wSr Φ s σ M λS M1=>∃J:Nat->Sm->MH->Prop,J 0 σ M1/\(∀i σ M,J i σ M->S.ok M)/\
   (∀i x σ M,S.items[i]?=some x->J i σ M->wTg t x σ λσ2=>wSs Φ b {nx:=J (i+1),rt:=λv M=>S.okT M/\D.rt v (S.thaw M),bk:=λσ M=>S.okT M/\D.nx σ (S.thaw M),ct:=J (i+1)} σ2 M)/\∀σ M,J S.len σ M->D.nx σ (S.thaw M):=rfl
theorem ZnY{Q:Option Int->MH->Prop}:wO Φ .none σ M Q=Q none M:=rfl
theorem ZnX{e:IE}{Q:Option Int->MH->Prop}:wO Φ (.some e) σ M Q=wE Φ e σ M λv M1=>∃i,v=.int i/\Q (some i) M1:=rfl
theorem Zor{Q:List MV->MH->Prop}:wEs Φ .nil σ M Q=Q [] M:=rfl
theorem Zmh{e:IE}{es:IEs}{Q:List MV->MH->Prop}:wEs Φ (.cons e es) σ M Q=wE Φ e σ M λv M1=>wEs Φ es σ M1 λvs M2=>Q (v::vs) M2:=rfl
end
section
variable{Φ:List (Str×SpM)}{σ σ':Sm}{M M':MH}{Q:QM}{x x' y y' z z':MV}{o o':Option MO}{vs vs':List MV}
end
end L2
namespace My
open PySem L2
noncomputable def top(i:Nat):Stmt:=PySem.Challenge.pw_bellferry_k24_a_round.main.body.getD i (.Pass ⟨0,0,0,0⟩)
noncomputable abbrev WH:Stmt:=top 2
noncomputable abbrev WI:Stmt:=top 3
noncomputable abbrev WJ:Stmt:=top 4
noncomputable abbrev WK:Stmt:=top 5
noncomputable abbrev WL:Stmt:=top 6
noncomputable abbrev WM:Stmt:=top 8
noncomputable abbrev WN:Stmt:=top 9
noncomputable abbrev WO:Stmt:=top 10
noncomputable abbrev WP:Stmt:=top 11
noncomputable abbrev WQ:Stmt:=top 12
noncomputable abbrev WR:Stmt:=top 13
noncomputable abbrev WT:Stmt:=top 15
noncomputable abbrev WU:Stmt:=top 16
noncomputable abbrev WV:Stmt:=top 17
noncomputable abbrev WW:Stmt:=top 18
noncomputable abbrev WX:Stmt:=top 39
noncomputable abbrev WY:Stmt:=top 40
noncomputable abbrev WZ:Stmt:=top 41
noncomputable abbrev A0:Stmt:=top 42
noncomputable abbrev A1:Stmt:=top 43
noncomputable abbrev A3:Stmt:=top 44
noncomputable abbrev A4:Stmt:=top 45
noncomputable abbrev A5:Stmt:=top 46
noncomputable abbrev A6:Stmt:=top 47
noncomputable abbrev A7:Stmt:=top 48
noncomputable abbrev A8:Stmt:=top 49
noncomputable abbrev A9:Stmt:=top 50
noncomputable abbrev Aa:Stmt:=top 51
noncomputable abbrev Ab:Stmt:=top 52
noncomputable abbrev Ac:Stmt:=top 53
noncomputable abbrev Ad:Stmt:=top 54
noncomputable abbrev Ae:Stmt:=top 55
noncomputable abbrev Af:Stmt:=top 57
noncomputable abbrev Ag:Stmt:=top 58
noncomputable abbrev Ah:Stmt:=top 59
noncomputable abbrev Ai:Stmt:=top 60
noncomputable abbrev Aj:Stmt:=top 61
noncomputable abbrev Ak:Stmt:=top 62
noncomputable abbrev Al:Stmt:=top 64
noncomputable abbrev Am:Stmt:=top 65
noncomputable abbrev An:Stmt:=top 66
noncomputable abbrev Ao:Stmt:=top 67
noncomputable abbrev Ap:Stmt:=top 68
noncomputable abbrev Aq:Stmt:=top 69
noncomputable abbrev Ar:Stmt:=top 70
noncomputable abbrev As:Stmt:=top 71
noncomputable abbrev At:Stmt:=top 72
noncomputable abbrev Au:Stmt:=top 73
noncomputable abbrev Av:Stmt:=top 74
noncomputable abbrev Aw:Stmt:=top 75
noncomputable abbrev Ax:Stmt:=top 76
noncomputable abbrev Ay:Stmt:=top 77
noncomputable abbrev Az:Stmt:=top 78
noncomputable abbrev AA:Stmt:=top 79
set_option genInjectivity false in
set_option genSizeOf false in
structure Adr where
 f_is_whole:Addr
 d_is_whole:Xi
 f_is_width:Addr
 d_is_width:Xi
 f_two_to:Addr
 d_two_to:Xi
 f_fits:Addr
 d_fits:Xi
 f_cut:Addr
 d_cut:Xi
 f_parts_within:Addr
 d_parts_within:Xi
 f_size_of:Addr
 d_size_of:Xi
 f_names_read:Addr
 d_names_read:Xi
 f_vars_in:Addr
 d_vars_in:Xi
 f_worth_of_two:Addr
 d_worth_of_two:Xi
 f_worth:Addr
 d_worth:Xi
 f_wish:Addr
 d_wish:Xi
 f_number_after:Addr
 d_number_after:Xi
 f_words_after:Addr
 d_words_after:Xi
 f_after:Addr
 d_after:Xi
 f_is_name:Addr
 d_is_name:Xi
 f_refuse_name:Addr
 d_refuse_name:Xi
 f_refuse_unknown:Addr
 d_refuse_unknown:Xi
 f_refuse_ferry_names:Addr
 d_refuse_ferry_names:Xi
 f_refuse_variables:Addr
 d_refuse_variables:Xi
 f_refuse_term:Addr
 d_refuse_term:Xi
 f_refuse_step:Addr
 d_refuse_step:Xi
 f_refuse_island:Addr
 d_refuse_island:Xi
 f_refuse_islands:Addr
 d_refuse_islands:Xi
 f_refuse_ferry:Addr
 d_refuse_ferry:Xi
 f_refuse_wrong_end:Addr
 d_refuse_wrong_end:Xi
 f_refuse_wrong_ends:Addr
 d_refuse_wrong_ends:Xi
 f_frozen:Addr
 d_frozen:Xi
 f_made:Addr
 d_made:Xi
 f_one_called:Addr
 d_one_called:Xi
 f_island_of:Addr
 d_island_of:Xi
 f_ferry_of:Addr
 d_ferry_of:Xi
 f_first_stand:Addr
 d_first_stand:Xi
 f_copy_of:Addr
 d_copy_of:Xi
 f_wish_of:Addr
 d_wish_of:Xi
 f_can_be:Addr
 d_can_be:Xi
 f_do_step:Addr
 d_do_step:Xi
 f_round_of:Addr
 d_round_of:Xi
 f__law_cell:Addr
 d__law_cell:Xi
 f__law_mix:Addr
 d__law_mix:Xi
 f__law_names:Addr
 d__law_names:Xi
 f__law_word:Addr
 d__law_word:Xi
 f__law_term:Addr
 d__law_term:Xi
 f__law_step:Addr
 d__law_step:Xi
 f__law_ferries:Addr
 d__law_ferries:Xi
 f__law_world:Addr
 d__law_world:Xi
 f__law_made:Addr
 d__law_made:Xi
 f__law_first:Addr
 d__law_first:Xi
 f__law_copy:Addr
 d__law_copy:Xi
 f__law_shut:Addr
 d__law_shut:Xi
 f__law_round:Addr
 d__law_round:Xi
 f__law_whole:Addr
 d__law_whole:Xi
 f__law_is_stand:Addr
 d__law_is_stand:Xi
 f_law:Addr
 d_law:Xi
structure Txt (K:X5) (mg:Str->Option X0) (t:Adr):Prop where
 q_is_whole:FnT K mg "is_whole" ["value"] WH t.f_is_whole t.d_is_whole
 q_is_width:FnT K mg "is_width" ["number"] WI t.f_is_width t.d_is_width
 q_two_to:FnT K mg "two_to" ["exponent"] WJ t.f_two_to t.d_two_to
 q_fits:FnT K mg "fits" ["width","number"] WK t.f_fits t.d_fits
 q_cut:FnT K mg "cut" ["width","number"] WL t.f_cut t.d_cut
 q_parts_within:FnT K mg "parts_within" ["T"] WM t.f_parts_within t.d_parts_within
 q_size_of:FnT K mg "size_of" ["T"] WN t.f_size_of t.d_size_of
 q_names_read:FnT K mg "names_read" ["T"] WO t.f_names_read t.d_names_read
 q_vars_in:FnT K mg "vars_in" ["T"] WP t.f_vars_in t.d_vars_in
 q_worth_of_two:FnT K mg "worth_of_two" ["form","left","right","width"] WQ t.f_worth_of_two t.d_worth_of_two
 q_worth:FnT K mg "worth" ["T","width","words"] WR t.f_worth t.d_worth
 q_wish:FnT K mg "wish" ["width","steps","number","words"] WT t.f_wish t.d_wish
 q_number_after:FnT K mg "number_after" ["width","steps","number","words"] WU t.f_number_after t.d_number_after
 q_words_after:FnT K mg "words_after" ["width","step","words","word"] WV t.f_words_after t.d_words_after
 q_after:FnT K mg "after" ["width","steps","number","words","word"] WW t.f_after t.d_after
 q_is_name:FnT K mg "is_name" ["text"] WX t.f_is_name t.d_is_name
 q_refuse_name:FnT K mg "refuse_name" ["text","earlier"] WY t.f_refuse_name t.d_refuse_name
 q_refuse_unknown:FnT K mg "refuse_unknown" ["name","known"] WZ t.f_refuse_unknown t.d_refuse_unknown
 q_refuse_ferry_names:FnT K mg "refuse_ferry_names" ["ferries"] A0 t.f_refuse_ferry_names t.d_refuse_ferry_names
 q_refuse_variables:FnT K mg "refuse_variables" ["width","pairs"] A1 t.f_refuse_variables t.d_refuse_variables
 q_refuse_term:FnT K mg "refuse_term" ["T","known"] A3 t.f_refuse_term t.d_refuse_term
 q_refuse_step:FnT K mg "refuse_step" ["step","known","count","ferry_names"] A4 t.f_refuse_step t.d_refuse_step
 q_refuse_island:FnT K mg "refuse_island" ["width","island","ferry_names"] A5 t.f_refuse_island t.d_refuse_island
 q_refuse_islands:FnT K mg "refuse_islands" ["width","islands","ferry_names"] A6 t.f_refuse_islands t.d_refuse_islands
 q_refuse_ferry:FnT K mg "refuse_ferry" ["ferry","island_names"] A7 t.f_refuse_ferry t.d_refuse_ferry
 q_refuse_wrong_end:FnT K mg "refuse_wrong_end" ["name","step","givers","takers"] A8 t.f_refuse_wrong_end t.d_refuse_wrong_end
 q_refuse_wrong_ends:FnT K mg "refuse_wrong_ends" ["islands","ferries"] A9 t.f_refuse_wrong_ends t.d_refuse_wrong_ends
 q_frozen:FnT K mg "frozen" ["value"] Aa t.f_frozen t.d_frozen
 q_made:FnT K mg "made" ["width","islands","ferries"] Ab t.f_made t.d_made
 q_one_called:FnT K mg "one_called" ["row","name"] Ac t.f_one_called t.d_one_called
 q_island_of:FnT K mg "island_of" ["world","name"] Ad t.f_island_of t.d_island_of
 q_ferry_of:FnT K mg "ferry_of" ["world","name"] Ae t.f_ferry_of t.d_ferry_of
 q_first_stand:FnT K mg "first_stand" ["world"] Af t.f_first_stand t.d_first_stand
 q_copy_of:FnT K mg "copy_of" ["stand"] Ag t.f_copy_of t.d_copy_of
 q_wish_of:FnT K mg "wish_of" ["world","stand","name"] Ah t.f_wish_of t.d_wish_of
 q_can_be:FnT K mg "can_be" ["world","stand","asked"] Ai t.f_can_be t.d_can_be
 q_do_step:FnT K mg "do_step" ["world","stand","name","asked","behind"] Aj t.f_do_step t.d_do_step
 q_round_of:FnT K mg "round_of" ["world","stand"] Ak t.f_round_of t.d_round_of
 q__law_cell:FnT K mg "_law_cell" ["script","k"] Al t.f__law_cell t.d__law_cell
 q__law_mix:FnT K mg "_law_mix" ["number","salt"] Am t.f__law_mix t.d__law_mix
 q__law_names:FnT K mg "_law_names" ["number","many"] An t.f__law_names t.d__law_names
 q__law_word:FnT K mg "_law_word" ["number","width"] Ao t.f__law_word t.d__law_word
 q__law_term:FnT K mg "_law_term" ["number","own","deep"] Ap t.f__law_term t.d__law_term
 q__law_step:FnT K mg "_law_step" ["number","name","ferries","own","many"] Aq t.f__law_step t.d__law_step
 q__law_ferries:FnT K mg "_law_ferries" ["number","names","many"] Ar t.f__law_ferries t.d__law_ferries
 q__law_world:FnT K mg "_law_world" ["script","start"] As t.f__law_world t.d__law_world
 q__law_made:FnT K mg "_law_made" ["parts"] At t.f__law_made t.d__law_made
 q__law_first:FnT K mg "_law_first" ["islands","ferries"] Au t.f__law_first t.d__law_first
 q__law_copy:FnT K mg "_law_copy" ["stand"] Av t.f__law_copy t.d__law_copy
 q__law_shut:FnT K mg "_law_shut" ["step","ferries","stand"] Aw t.f__law_shut t.d__law_shut
 q__law_round:FnT K mg "_law_round" ["width","islands","ferries","stand"] Ax t.f__law_round t.d__law_round
 q__law_whole:FnT K mg "_law_whole" ["found"] Ay t.f__law_whole t.d__law_whole
 q__law_is_stand:FnT K mg "_law_is_stand" ["found","due"] Az t.f__law_is_stand t.d__law_is_stand
 q_law:FnT K mg "law" ["script"] AA t.f_law t.d_law
 z_all:mg "all"=none
 z_bool:mg "bool"=none
 z_dict:mg "dict"=none
 z_int:mg "int"=none
 z_isinstance:mg "isinstance"=none
 z_len:mg "len"=none
 z_list:mg "list"=none
 z_max:mg "max"=none
 z_min:mg "min"=none
 z_range:mg "range"=none
 z_set:mg "set"=none
 z_sorted:mg "sorted"=none
 z_tuple:mg "tuple"=none
 c_MOST_WIDTH:∃tk,mg "MOST_WIDTH"=some (.int 64 tk)
 c_MOST_LETTERS:∃tk,mg "MOST_LETTERS"=some (.int 8 tk)
 c_MOST_ISLANDS:∃tk,mg "MOST_ISLANDS"=some (.int 5 tk)
 c_MOST_FERRIES:∃tk,mg "MOST_FERRIES"=some (.int 6 tk)
 c_MOST_VARS:∃tk,mg "MOST_VARS"=some (.int 6 tk)
 c_MOST_STEPS:∃tk,mg "MOST_STEPS"=some (.int 12 tk)
 c_MOST_PARTS:∃tk,mg "MOST_PARTS"=some (.int 30 tk)
 c_MOST_DEPTH:∃tk,mg "MOST_DEPTH"=some (.int 8 tk)
 c_MOST_K:∃tk,mg "MOST_K"=some (.int 3 tk)
 c_MOST_STAGES:∃tk,mg "MOST_STAGES"=some (.int 3 tk)
theorem Zef:FnScope ["value"] ["value"] (X7 WH):=mkSc
theorem Zee:FnScope ["number"] ["number"] (X7 WI):=mkSc
theorem ZgO:FnScope ["exponent","answer","k"] ["exponent"] (X7 WJ):=mkSc
theorem ZkZ:FnScope ["width","number"] ["width","number"] (X7 WK):=mkSc
theorem ZmY:FnScope ["width","number"] ["width","number"] (X7 WL):=mkSc
theorem Z9F:FnScope ["T"] ["T"] (X7 WM):=mkSc
theorem ZfJ:FnScope ["T","parts","deepest","part","size"] ["T"] (X7 WN):=mkSc
theorem Zc0:FnScope ["T","names","part"] ["T"] (X7 WO):=mkSc
theorem ZfI:FnScope ["T"] ["T"] (X7 WP):=mkSc
theorem Z9D:FnScope ["form","left","right","width"] ["form","left","right","width"] (X7 WQ):=mkSc
theorem ZiV:FnScope ["T","width","words","first"] ["T","width","words"] (X7 WR):=mkSc
theorem ZkX:FnScope ["width","steps","number","words","step"] ["width","steps","number","words"] (X7 WT):=mkSc
theorem Z9G:FnScope ["width","steps","number","words","step"] ["width","steps","number","words"] (X7 WU):=mkSc
theorem ZaN:FnScope ["width","step","words","word","behind"] ["width","step","words","word"] (X7 WV):=mkSc
theorem ZiW:FnScope ["width","steps","number","words","word"] ["width","steps","number","words","word"] (X7 WW):=mkSc
theorem ZfK:FnScope ["text"] ["text"] (X7 WX):=mkSc
theorem ZaQ:FnScope ["text","earlier"] ["text","earlier"] (X7 WY):=mkSc
theorem Z7X:FnScope ["name","known"] ["name","known"] (X7 WZ):=mkSc
theorem Z4h:FnScope ["ferries","earlier","ferry"] ["ferries"] (X7 A0):=mkSc
theorem Z6n:FnScope ["width","pairs","earlier","pair","name"] ["width","pairs"] (X7 A1):=mkSc
theorem ZaO:FnScope ["T","known","size","name"] ["T","known"] (X7 A3):=mkSc
theorem ZaP:FnScope ["step","known","count","ferry_names"] ["step","known","count","ferry_names"] (X7 A4):=mkSc
theorem Z9f:FnScope ["width","island","ferry_names","known","step"] ["width","island","ferry_names"] (X7 A5):=mkSc
theorem Z7Y:FnScope ["width","islands","ferry_names","earlier","island"] ["width","islands","ferry_names"] (X7 A6):=mkSc
theorem Z9E:FnScope ["ferry","island_names"] ["ferry","island_names"] (X7 A7):=mkSc
theorem Z6m:FnScope ["name","step","givers","takers"] ["name","step","givers","takers"] (X7 A8):=mkSc
theorem Z5q:FnScope ["islands","ferries","givers","takers","island","step"] ["islands","ferries"] (X7 A9):=mkSc
theorem Jt:FnScope ["value"] ["value"] (X7 Aa):=mkSc
theorem ZkY:FnScope ["width","islands","ferries","island_names","ferry"] ["width","islands","ferries"] (X7 Ab):=mkSc
theorem ZbZ:FnScope ["row","name","one"] ["row","name"] (X7 Ac):=mkSc
theorem ZcQ:FnScope ["world","name"] ["world","name"] (X7 Ad):=mkSc
theorem Zeg:FnScope ["world","name"] ["world","name"] (X7 Ae):=mkSc
theorem ZaR:FnScope ["world","numbers","words","given","taken"] ["world"] (X7 Af):=mkSc
theorem ZfM:FnScope ["stand","words","given"] ["stand"] (X7 Ag):=mkSc
theorem ZfH:FnScope ["world","stand","name"] ["world","stand","name"] (X7 Ah):=mkSc
theorem ZgP:FnScope ["world","stand","asked","under_way"] ["world","stand","asked"] (X7 Ai):=mkSc
theorem ZfL:FnScope ["world","stand","name","asked","behind","word","ferry","steps","went"] ["world","stand","name","asked","behind"] (X7 Aj):=mkSc
theorem Zed:FnScope ["world","stand","behind","names","island","asked"] ["world","stand"] (X7 Ak):=mkSc
theorem ZcY:FnScope ["script","k"] ["script","k"] (X7 Al):=mkSc
theorem Zeh:FnScope ["number","salt","mixed"] ["number","salt"] (X7 Am):=mkSc
theorem Zc4:FnScope ["number","many","letters","first","step","size","at","stem","names","k","sign"] ["number","many"] (X7 An):=mkSc
theorem ZcS:FnScope ["number","width","far"] ["number","width"] (X7 Ao):=mkSc
theorem ZcT:FnScope ["number","own","deep","way","more","far","one","two"] ["number","own","deep"] (X7 Ap):=mkSc
theorem ZcU:FnScope ["number","name","ferries","own","many","takes","gives","way","more","term"] ["number","name","ferries","own","many"] (X7 Aq):=mkSc
theorem Z9H:FnScope ["number","names","many","ferries","j","more","giver","taker","ends"] ["number","names","many"] (X7 Ar):=mkSc
theorem Zc1:FnScope ["script","start","head","many","names","size","width","ferries","islands","i","more","first","own","cells","long","pairs","steps"] ["script","start"] (X7 As):=mkSc
theorem ZcW:FnScope ["parts","islands"] ["parts"] (X7 At):=mkSc
theorem Zc5:FnScope ["islands","ferries","stand","name","pairs","steps","var","word","ferry"] ["islands","ferries"] (X7 Au):=mkSc
theorem ZcX:FnScope ["stand","copy","name"] ["stand"] (X7 Av):=mkSc
theorem ZcV:FnScope ["step","ferries","stand","name","giver","taker","k","stages","held"] ["step","ferries","stand"] (X7 Aw):=mkSc
theorem Zc3:FnScope ["width","islands","ferries","stand","behind","names","name","pairs","steps","at","step","seen","count"] ["width","islands","ferries","stand"] (X7 Ax):=mkSc
theorem Zc2:FnScope ["found"] ["found"] (X7 Ay):=mkSc
theorem Z9g:FnScope ["found","due","name","var"] ["found","due"] (X7 Az):=mkSc
theorem ZmX:FnScope ["script","parts","world","stand","k","due","names","handed","found","name"] ["script"] (X7 AA):=mkSc
noncomputable def GB:List Str:=["all","bool","dict","int","isinstance","len","list","max","min","range","set","sorted","tuple"]
noncomputable def GL:List (Str×Int):=[("MOST_WIDTH",64),("MOST_LETTERS",8),("MOST_ISLANDS",5),("MOST_FERRIES",6),("MOST_VARS",6),("MOST_STEPS",12),("MOST_PARTS",30),("MOST_DEPTH",8),("MOST_K",3),("MOST_STAGES",3)]
theorem Xt{K:X5}{mg:Str->Option X0}{t:Adr}(T:Txt K mg t):∀x∈GB,mg x=none:=(fMc ⟨T.z_all,(fMc ⟨T.z_bool,(fMc ⟨T.z_dict,(fMc ⟨T.z_int,(fMc ⟨T.z_isinstance,(fMc ⟨T.z_len,(fMc ⟨T.z_list,(fMc ⟨T.z_max,(fMc ⟨T.z_min,(fMc ⟨T.z_range,(fMc ⟨T.z_set,(fMc ⟨T.z_sorted,(fMc ⟨T.z_tuple,nl0⟩)⟩)⟩)⟩)⟩)⟩)⟩)⟩)⟩)⟩)⟩)⟩)⟩)
theorem Xu{K:X5}{mg:Str->Option X0}{t:Adr}(T:Txt K mg t):∀p∈GL,∃tk,mg p.1=some (.int p.2 tk):=(fMc ⟨T.c_MOST_WIDTH,(fMc ⟨T.c_MOST_LETTERS,(fMc ⟨T.c_MOST_ISLANDS,(fMc ⟨T.c_MOST_FERRIES,(fMc ⟨T.c_MOST_VARS,(fMc ⟨T.c_MOST_STEPS,(fMc ⟨T.c_MOST_PARTS,(fMc ⟨T.c_MOST_DEPTH,(fMc ⟨T.c_MOST_K,(fMc ⟨T.c_MOST_STAGES,nl0⟩)⟩)⟩)⟩)⟩)⟩)⟩)⟩)⟩)⟩)
noncomputable def Ju:ISs:=.cons (.ret (.and (.bi .isinst (.var 0) (.cons (.ty .int) .nil)) (.not (.bi .isinst (.var 0) (.cons (.ty .bool) .nil))))) .nil
noncomputable abbrev E8:ISs:=Ju
noncomputable def Jv:GI:={bl:=GB,gl:=GL,fns:=[]}
theorem ZeQ:chkSs Jv (X7 WH) ["value"] E8 (Xm WH)=true:=by decide+kernel
noncomputable def Jw:ISs:=.cons (.ret (.and (.call 0 (.var 0) .nil) (.chn .LtE .LtE (.int 1) (.var 0) (.glb "MOST_WIDTH" 64)))) .nil
noncomputable abbrev E9:ISs:=Jw
noncomputable def Jx:GI:={bl:=GB,gl:=GL,fns:=["is_whole"]}
theorem ZeP:chkSs Jx (X7 WI) ["number"] E9 (Xm WI)=true:=by decide+kernel
noncomputable def Jy:ISs:=.cons (.ret (.var 1)) .nil
noncomputable def Jz:ISs:=.cons (.set 1 (.bin .Mult (.var 1) (.int 2))) .nil
noncomputable def JA:ISs:=.cons (.for_ (.nm 2) (.rng (.var 0)) Jz) Jy
noncomputable def JB:ISs:=.cons (.set 1 (.int 1)) JA
noncomputable abbrev Ea:ISs:=JB
noncomputable def JC:GI:={bl:=GB,gl:=GL,fns:=[]}
theorem Zic:chkSs JC (X7 WJ) ["exponent","answer","k"] Ea (Xm WJ)=true:=by decide+kernel
noncomputable def JD:ISs:=.cons (.ret (.and (.call 0 (.var 1) .nil) (.chn .LtE .Lt (.int 0) (.var 1) (.call 1 (.var 0) .nil)))) .nil
noncomputable abbrev Eb:ISs:=JD
noncomputable def JE:GI:={bl:=GB,gl:=GL,fns:=["is_whole","two_to"]}
theorem Zmo:chkSs JE (X7 WK) ["width","number"] Eb (Xm WK)=true:=by decide+kernel
noncomputable def JF:ISs:=.cons (.ret (.bin .Mod (.var 1) (.call 0 (.var 0) .nil))) .nil
noncomputable abbrev Ec:ISs:=JF
noncomputable def JG:GI:={bl:=GB,gl:=GL,fns:=["two_to"]}
theorem Zox:chkSs JG (X7 WL) ["width","number"] Ec (Xm WL)=true:=by decide+kernel
noncomputable def Ed:ISs:=.cons (.ret (.bi .list (.sl (.var 0) (.some (.int 1)) .none) .nil)) .nil
noncomputable def Ee:ISs:=.cons (.ret (.lst .nil)) .nil
noncomputable def JH:ISs:=.cons (.ite (.or (.cmp .Eq (.ix (.var 0) (.int 0)) (.str "num")) (.cmp .Eq (.ix (.var 0) (.int 0)) (.str "var"))) Ee .nil) Ed
noncomputable abbrev Ef:ISs:=JH
noncomputable def JI:GI:={bl:=GB,gl:=GL,fns:=[]}
theorem ZaA:chkSs JI (X7 WM) ["T"] Ef (Xm WM)=true:=by decide+kernel
noncomputable def JJ:ISs:=.cons (.ret (.tup (.cons (.var 1) (.cons (.bin .Add (.var 2) (.int 1)) .nil)))) .nil
noncomputable def JK:ISs:=.cons (.set 2 (.bi .max (.var 2) (.cons (.ix (.var 4) (.int 1)) .nil))) .nil
noncomputable def JL:ISs:=.cons (.set 1 (.bin .Add (.var 1) (.ix (.var 4) (.int 0)))) JK
noncomputable def JM:ISs:=.cons (.set 4 (.call 1 (.var 3) .nil)) JL
noncomputable def JN:ISs:=.cons (.for_ (.nm 3) (.seq (.call 0 (.var 0) .nil)) JM) JJ
noncomputable def JO:ISs:=.cons (.set 2 (.int 0)) JN
noncomputable def JP:ISs:=.cons (.set 1 (.int 1)) JO
noncomputable abbrev Eg:ISs:=JP
noncomputable def JQ:GI:={bl:=GB,gl:=GL,fns:=["parts_within","size_of"]}
theorem Zgf:chkSs JQ (X7 WN) ["T","parts","deepest","part","size"] Eg (Xm WN)=true:=by decide+kernel
noncomputable def JR:ISs:=.cons (.ret (.var 1)) .nil
noncomputable def JS:ISs:=.cons (.expr (.mt .extend (.var 1) (.cons (.call 0 (.var 2) .nil) .nil))) .nil
noncomputable def JT:ISs:=.cons (.for_ (.nm 2) (.seq (.call 1 (.var 0) .nil)) JS) JR
noncomputable def Eh:ISs:=.cons (.set 1 (.lst .nil)) JT
noncomputable def JU:ISs:=.cons (.ret (.lst (.cons (.ix (.var 0) (.int 1)) .nil))) .nil
noncomputable def JV:ISs:=.cons (.ite (.cmp .Eq (.ix (.var 0) (.int 0)) (.str "var")) JU .nil) Eh
noncomputable abbrev Ei:ISs:=JV
noncomputable def JW:GI:={bl:=GB,gl:=GL,fns:=["names_read","parts_within"]}
theorem Zcx:chkSs JW (X7 WO) ["T","names","part"] Ei (Xm WO)=true:=by decide+kernel
noncomputable def JX:ISs:=.cons (.ret (.b2 .ssrt (.call 0 (.var 0) .nil))) .nil
noncomputable abbrev Ej:ISs:=JX
noncomputable def JY:GI:={bl:=GB,gl:=GL,fns:=["names_read"]}
theorem Zge:chkSs JY (X7 WP) ["T"] Ej (Xm WP)=true:=by decide+kernel
noncomputable def JZ:ISs:=.cons (.ret (.ife (.cmp .Eq (.var 1) (.var 2)) (.int 1) (.int 0))) .nil
noncomputable def K0:ISs:=.cons (.ret (.ife (.cmp .Lt (.var 1) (.var 2)) (.int 1) (.int 0))) .nil
noncomputable def Ek:ISs:=.cons (.ite (.cmp .Eq (.var 0) (.str "less")) K0 .nil) JZ
noncomputable def K2:ISs:=.cons (.ret (.call 0 (.var 3) (.cons (.bin .Mult (.var 1) (.var 2)) .nil))) .nil
noncomputable def Cd:ISs:=.cons (.ite (.cmp .Eq (.var 0) (.str "times")) K2 .nil) Ek
noncomputable def K3:ISs:=.cons (.ret (.call 0 (.var 3) (.cons (.bin .Sub (.var 1) (.var 2)) .nil))) .nil
noncomputable def AB:ISs:=.cons (.ite (.cmp .Eq (.var 0) (.str "minus")) K3 .nil) Cd
noncomputable def K4:ISs:=.cons (.ret (.call 0 (.var 3) (.cons (.bin .Add (.var 1) (.var 2)) .nil))) .nil
noncomputable def K5:ISs:=.cons (.ite (.cmp .Eq (.var 0) (.str "plus")) K4 .nil) AB
noncomputable abbrev El:ISs:=K5
noncomputable def K6:GI:={bl:=GB,gl:=GL,fns:=["cut"]}
theorem Zay:chkSs K6 (X7 WQ) ["form","left","right","width"] El (Xm WQ)=true:=by decide+kernel
noncomputable def K7:ISs:=.cons (.ret (.call 2 (.ix (.var 0) (.int 0)) (.cons (.var 3) (.cons (.call 1 (.ix (.var 0) (.int 2)) (.cons (.var 1) (.cons (.var 2) .nil))) (.cons (.var 1) .nil))))) .nil
noncomputable def K8:ISs:=.cons (.ret (.call 1 (.ife (.cmp .NotEq (.var 3) (.int 0)) (.ix (.var 0) (.int 2)) (.ix (.var 0) (.int 3))) (.cons (.var 1) (.cons (.var 2) .nil)))) .nil
noncomputable def Em:ISs:=.cons (.ite (.cmp .Eq (.ix (.var 0) (.int 0)) (.str "pick")) K8 .nil) K7
noncomputable def En:ISs:=.cons (.set 3 (.call 1 (.ix (.var 0) (.int 1)) (.cons (.var 1) (.cons (.var 2) .nil)))) Em
noncomputable def K9:ISs:=.cons (.ret (.ix (.var 2) (.ix (.var 0) (.int 1)))) .nil
noncomputable def Ce:ISs:=.cons (.ite (.cmp .Eq (.ix (.var 0) (.int 0)) (.str "var")) K9 .nil) En
noncomputable def Ka:ISs:=.cons (.ret (.call 0 (.var 1) (.cons (.ix (.var 0) (.int 1)) .nil))) .nil
noncomputable def Kb:ISs:=.cons (.ite (.cmp .Eq (.ix (.var 0) (.int 0)) (.str "num")) Ka .nil) Ce
noncomputable abbrev Eo:ISs:=Kb
noncomputable def Kc:GI:={bl:=GB,gl:=GL,fns:=["cut","worth","worth_of_two"]}
theorem ZjG:chkSs Kc (X7 WR) ["T","width","words","first"] Eo (Xm WR)=true:=by decide+kernel
noncomputable def Ep:ISs:=.cons (.ret (.tup (.cons (.str "own") .nil))) .nil
noncomputable def Kd:ISs:=.cons (.ret (.tup (.cons (.str "give") (.cons (.ix (.var 4) (.int 1)) (.cons (.call 0 (.ix (.var 4) (.int 2)) (.cons (.var 0) (.cons (.var 3) .nil))) .nil))))) .nil
noncomputable def Cf:ISs:=.cons (.ite (.cmp .Eq (.ix (.var 4) (.int 0)) (.str "give")) Kd .nil) Ep
noncomputable def Ke:ISs:=.cons (.ret (.tup (.cons (.str "take") (.cons (.ix (.var 4) (.int 1)) .nil)))) .nil
noncomputable def Er:ISs:=.cons (.ite (.cmp .Eq (.ix (.var 4) (.int 0)) (.str "take")) Ke .nil) Cf
noncomputable def Es:ISs:=.cons (.set 4 (.ix (.var 1) (.var 2))) Er
noncomputable def Et:ISs:=.cons (.ret .non) .nil
noncomputable def Kf:ISs:=.cons (.ite (.cmp .Eq (.var 2) (.bi .len (.var 1) .nil)) Et .nil) Es
noncomputable abbrev Eu:ISs:=Kf
noncomputable def Kg:GI:={bl:=GB,gl:=GL,fns:=["worth"]}
theorem Zmm:chkSs Kg (X7 WT) ["width","steps","number","words","step"] Eu (Xm WT)=true:=by decide+kernel
noncomputable def AC:ISs:=.cons (.ret (.bin .Add (.var 2) (.int 1))) .nil
noncomputable def Kh:ISs:=.cons (.ret (.ix (.var 4) (.int 2))) .nil
noncomputable def Ki:ISs:=.cons (.ite (.and (.cmp .Eq (.ix (.var 4) (.int 0)) (.str "jump")) (.cmp .NotEq (.call 0 (.ix (.var 4) (.int 1)) (.cons (.var 0) (.cons (.var 3) .nil))) (.int 0))) Kh .nil) AC
noncomputable def Kj:ISs:=.cons (.set 4 (.ix (.var 1) (.var 2))) Ki
noncomputable abbrev Ev:ISs:=Kj
noncomputable def Kk:GI:={bl:=GB,gl:=GL,fns:=["worth"]}
theorem ZaB:chkSs Kk (X7 WU) ["width","steps","number","words","step"] Ev (Xm WU)=true:=by decide+kernel
noncomputable def AD:ISs:=.cons (.ret (.var 4)) .nil
noncomputable def Kl:ISs:=.cons (.put (.var 4) (.ix (.var 1) (.int 1)) (.call 0 (.ix (.var 1) (.int 2)) (.cons (.var 0) (.cons (.var 2) .nil)))) .nil
noncomputable def AE:ISs:=.cons (.ite (.cmp .Eq (.ix (.var 1) (.int 0)) (.str "put")) Kl .nil) AD
noncomputable def Km:ISs:=.cons (.put (.var 4) (.ix (.var 1) (.int 2)) (.var 3)) .nil
noncomputable def Kn:ISs:=.cons (.ite (.cmp .Eq (.ix (.var 1) (.int 0)) (.str "take")) Km .nil) AE
noncomputable def Ko:ISs:=.cons (.set 4 (.bi .dict (.var 2) .nil)) Kn
noncomputable abbrev Ew:ISs:=Ko
noncomputable def Kq:GI:={bl:=GB,gl:=GL,fns:=["worth"]}
theorem Zb7:chkSs Kq (X7 WV) ["width","step","words","word","behind"] Ew (Xm WV)=true:=by decide+kernel
noncomputable def Kr:ISs:=.cons (.ret (.tup (.cons (.call 0 (.var 0) (.cons (.var 1) (.cons (.var 2) (.cons (.var 3) .nil)))) (.cons (.call 1 (.var 0) (.cons (.ix (.var 1) (.var 2)) (.cons (.var 3) (.cons (.var 4) .nil)))) .nil)))) .nil
noncomputable abbrev Ex:ISs:=Kr
noncomputable def Ks:GI:={bl:=GB,gl:=GL,fns:=["number_after","words_after"]}
theorem ZjH:chkSs Ks (X7 WW) ["width","steps","number","words","word"] Ex (Xm WW)=true:=by decide+kernel
noncomputable def Kt:ISs:=.cons (.ret (.and (.chn .LtE .LtE (.int 1) (.bi .len (.var 0) .nil) (.glb "MOST_LETTERS" 8)) (.bi .all (.comp ["sign"] [] (.seq (.var 0)) (.nm 0) .none (.chn .LtE .LtE (.str "a") (.var 0) (.str "z"))) .nil))) .nil
noncomputable abbrev Ey:ISs:=Kt
noncomputable def Ku:GI:={bl:=GB,gl:=GL,fns:=[]}
theorem Zgg:chkSs Ku (X7 WX) ["text"] Ey (Xm WX)=true:=by decide+kernel
noncomputable def Zb3:ISs:=.cons .never .nil
noncomputable def Kv:ISs:=.cons (.ite (.cmp .In (.var 0) (.var 1)) Zb3 .nil) .nil
noncomputable def Zb4:ISs:=.cons .never .nil
noncomputable def Kw:ISs:=.cons (.ite (.not (.call 0 (.var 0) .nil)) Zb4 .nil) Kv
noncomputable abbrev Ez:ISs:=Kw
noncomputable def Kx:GI:={bl:=GB,gl:=GL,fns:=["is_name"]}
theorem Zba:chkSs Kx (X7 WY) ["text","earlier"] Ez (Xm WY)=true:=by decide+kernel
noncomputable def Z84:ISs:=.cons .never .nil
noncomputable def Ky:ISs:=.cons (.ite (.cmp .NotIn (.var 0) (.var 1)) Z84 .nil) .nil
noncomputable abbrev EA:ISs:=Ky
noncomputable def Kz:GI:={bl:=GB,gl:=GL,fns:=[]}
theorem Z8f:chkSs Kz (X7 WZ) ["name","known"] EA (Xm WZ)=true:=by decide+kernel
noncomputable def KA:ISs:=.cons (.expr (.mt .append (.var 1) (.cons (.ix (.var 2) (.int 0)) .nil))) .nil
noncomputable def KB:ISs:=.cons (.expr (.call 0 (.ix (.var 2) (.int 0)) (.cons (.var 1) .nil))) KA
noncomputable def KC:ISs:=.cons (.for_ (.nm 2) (.seq (.var 0)) KB) .nil
noncomputable def KD:ISs:=.cons (.set 1 (.lst .nil)) KC
noncomputable abbrev EB:ISs:=KD
noncomputable def KE:GI:={bl:=GB,gl:=GL,fns:=["refuse_name"]}
theorem Z5b:chkSs KE (X7 A0) ["ferries","earlier","ferry"] EB (Xm A0)=true:=by decide+kernel
noncomputable def Z6u:ISs:=.cons .never .nil
noncomputable def KF:ISs:=.cons (.ite (.not (.call 0 (.var 0) (.cons (.ix (.var 3) (.int 1)) .nil))) Z6u .nil) .nil
noncomputable def KG:ISs:=.cons (.expr (.mt .append (.var 2) (.cons (.var 4) .nil))) KF
noncomputable def KH:ISs:=.cons (.expr (.call 1 (.var 4) (.cons (.var 2) .nil))) KG
noncomputable def KI:ISs:=.cons (.set 4 (.ix (.var 3) (.int 0))) KH
noncomputable def KJ:ISs:=.cons (.for_ (.nm 3) (.seq (.var 1)) KI) .nil
noncomputable def KK:ISs:=.cons (.set 2 (.lst .nil)) KJ
noncomputable abbrev EC:ISs:=KK
noncomputable def KL:GI:={bl:=GB,gl:=GL,fns:=["fits","refuse_name"]}
theorem Z6B:chkSs KL (X7 A1) ["width","pairs","earlier","pair","name"] EC (Xm A1)=true:=by decide+kernel
noncomputable def KM:ISs:=.cons (.expr (.call 0 (.var 3) (.cons (.var 1) .nil))) .nil
noncomputable def KN:ISs:=.cons (.for_ (.nm 3) (.seq (.call 2 (.var 0) .nil)) KM) .nil
noncomputable def Zb2:ISs:=.cons .never .nil
noncomputable def KO:ISs:=.cons (.ite (.or (.cmp .Gt (.ix (.var 2) (.int 0)) (.glb "MOST_PARTS" 30)) (.cmp .Gt (.ix (.var 2) (.int 1)) (.glb "MOST_DEPTH" 8))) Zb2 .nil) KN
noncomputable def KP:ISs:=.cons (.set 2 (.call 1 (.var 0) .nil)) KO
noncomputable abbrev ED:ISs:=KP
noncomputable def KQ:GI:={bl:=GB,gl:=GL,fns:=["refuse_unknown","size_of","vars_in"]}
theorem Zb8:chkSs KQ (X7 A3) ["T","known","size","name"] ED (Xm A3)=true:=by decide+kernel
noncomputable def KR:ISs:=.cons (.expr (.call 1 (.ix (.var 0) (.int 2)) (.cons (.var 1) .nil))) .nil
noncomputable def KS:ISs:=.cons (.expr (.call 1 (.ix (.var 0) (.int 1)) (.cons (.var 3) .nil))) KR
noncomputable def KU:ISs:=.cons (.expr (.call 0 (.ix (.var 0) (.int 2)) (.cons (.var 1) .nil))) .nil
noncomputable def KW:ISs:=.cons (.expr (.call 1 (.ix (.var 0) (.int 1)) (.cons (.var 3) .nil))) KU
noncomputable def KY:ISs:=.cons (.expr (.call 0 (.ix (.var 0) (.int 2)) (.cons (.var 1) .nil))) .nil
noncomputable def KZ:ISs:=.cons (.expr (.call 1 (.ix (.var 0) (.int 1)) (.cons (.var 1) .nil))) KY
noncomputable def Zaa:ISs:=.cons .never .nil
noncomputable def L0:ISs:=.cons (.ite (.not (.chn .LtE .LtE (.int 0) (.ix (.var 0) (.int 2)) (.var 2))) Zaa .nil) .nil
noncomputable def L1:ISs:=.cons (.expr (.call 0 (.ix (.var 0) (.int 1)) (.cons (.var 1) .nil))) L0
noncomputable def EE:ISs:=.cons (.ite (.cmp .Eq (.ix (.var 0) (.int 0)) (.str "put")) KZ L1) .nil
noncomputable def Cg:ISs:=.cons (.ite (.cmp .Eq (.ix (.var 0) (.int 0)) (.str "give")) KW EE) .nil
noncomputable def L3:ISs:=.cons (.ite (.cmp .Eq (.ix (.var 0) (.int 0)) (.str "take")) KS Cg) .nil
noncomputable abbrev EF:ISs:=L3
noncomputable def L4:GI:={bl:=GB,gl:=GL,fns:=["refuse_term","refuse_unknown"]}
theorem Zb9:chkSs L4 (X7 A4) ["step","known","count","ferry_names"] EF (Xm A4)=true:=by decide+kernel
noncomputable def L5:ISs:=.cons (.expr (.call 0 (.var 4) (.cons (.var 3) (.cons (.bi .len (.ix (.var 1) (.int 2)) .nil) (.cons (.var 2) .nil))))) .nil
noncomputable def L6:ISs:=.cons (.for_ (.nm 4) (.seq (.ix (.var 1) (.int 2))) L5) .nil
noncomputable def L7:ISs:=.cons (.set 3 (.comp ["pair"] [] (.seq (.ix (.var 1) (.int 1))) (.nm 0) .none (.ix (.var 0) (.int 0)))) L6
noncomputable def L8:ISs:=.cons (.expr (.call 1 (.var 0) (.cons (.ix (.var 1) (.int 1)) .nil))) L7
noncomputable def Z9l:ISs:=.cons .never .nil
noncomputable def L9:ISs:=.cons (.ite (.cmp .Gt (.bi .len (.ix (.var 1) (.int 2)) .nil) (.glb "MOST_STEPS" 12)) Z9l .nil) L8
noncomputable def Z9m:ISs:=.cons .never .nil
noncomputable def La:ISs:=.cons (.ite (.cmp .Gt (.bi .len (.ix (.var 1) (.int 1)) .nil) (.glb "MOST_VARS" 6)) Z9m .nil) L9
noncomputable abbrev EG:ISs:=La
noncomputable def Lb:GI:={bl:=GB,gl:=GL,fns:=["refuse_step","refuse_variables"]}
theorem Z9q:chkSs Lb (X7 A5) ["width","island","ferry_names","known","step"] EG (Xm A5)=true:=by decide+kernel
noncomputable def Lc:ISs:=.cons (.expr (.call 0 (.var 0) (.cons (.var 4) (.cons (.var 2) .nil)))) .nil
noncomputable def Ld:ISs:=.cons (.expr (.mt .append (.var 3) (.cons (.ix (.var 4) (.int 0)) .nil))) Lc
noncomputable def Lf:ISs:=.cons (.expr (.call 1 (.ix (.var 4) (.int 0)) (.cons (.var 3) .nil))) Ld
noncomputable def Lg:ISs:=.cons (.for_ (.nm 4) (.seq (.var 1)) Lf) .nil
noncomputable def Lh:ISs:=.cons (.set 3 (.bi .list (.var 2) .nil)) Lg
noncomputable abbrev EH:ISs:=Lh
noncomputable def Li:GI:={bl:=GB,gl:=GL,fns:=["refuse_island","refuse_name"]}
theorem Z8g:chkSs Li (X7 A6) ["width","islands","ferry_names","earlier","island"] EH (Xm A6)=true:=by decide+kernel
noncomputable def Zab:ISs:=.cons .never .nil
noncomputable def Lj:ISs:=.cons (.ite (.not (.chn .LtE .LtE (.int 1) (.ix (.var 0) (.int 4)) (.glb "MOST_STAGES" 3))) Zab .nil) .nil
noncomputable def Zac:ISs:=.cons .never .nil
noncomputable def Lk:ISs:=.cons (.ite (.not (.chn .LtE .LtE (.int 0) (.ix (.var 0) (.int 3)) (.glb "MOST_K" 3))) Zac .nil) Lj
noncomputable def Zad:ISs:=.cons .never .nil
noncomputable def Ll:ISs:=.cons (.ite (.cmp .Eq (.ix (.var 0) (.int 1)) (.ix (.var 0) (.int 2))) Zad .nil) Lk
noncomputable def Lm:ISs:=.cons (.expr (.call 0 (.ix (.var 0) (.int 2)) (.cons (.var 1) .nil))) Ll
noncomputable def Ln:ISs:=.cons (.expr (.call 0 (.ix (.var 0) (.int 1)) (.cons (.var 1) .nil))) Lm
noncomputable abbrev EI:ISs:=Ln
noncomputable def Lo:GI:={bl:=GB,gl:=GL,fns:=["refuse_unknown"]}
theorem Zaz:chkSs Lo (X7 A7) ["ferry","island_names"] EI (Xm A7)=true:=by decide+kernel
noncomputable def Z6s:ISs:=.cons .never .nil
noncomputable def AF:ISs:=.cons (.ite (.and (.cmp .Eq (.ix (.var 1) (.int 0)) (.str "give")) (.cmp .NotEq (.ix (.var 2) (.ix (.var 1) (.int 1))) (.var 0))) Z6s .nil) .nil
noncomputable def Z6t:ISs:=.cons .never .nil
noncomputable def Lp:ISs:=.cons (.ite (.and (.cmp .Eq (.ix (.var 1) (.int 0)) (.str "take")) (.cmp .NotEq (.ix (.var 3) (.ix (.var 1) (.int 1))) (.var 0))) Z6t .nil) AF
noncomputable abbrev EJ:ISs:=Lp
noncomputable def Lq:GI:={bl:=GB,gl:=GL,fns:=[]}
theorem Z6A:chkSs Lq (X7 A8) ["name","step","givers","takers"] EJ (Xm A8)=true:=by decide+kernel
noncomputable def Lr:ISs:=.cons (.expr (.call 0 (.ix (.var 4) (.int 0)) (.cons (.var 5) (.cons (.var 2) (.cons (.var 3) .nil))))) .nil
noncomputable def Ls:ISs:=.cons (.for_ (.nm 5) (.seq (.ix (.var 4) (.int 2))) Lr) .nil
noncomputable def Lu:ISs:=.cons (.for_ (.nm 4) (.seq (.var 0)) Ls) .nil
noncomputable def Lv:ISs:=.cons (.set 3 (.bi .dictL (.comp ["ferry"] [] (.seq (.var 1)) (.nm 0) .none (.tup (.cons (.ix (.var 0) (.int 0)) (.cons (.ix (.var 0) (.int 2)) .nil)))) .nil)) Lu
noncomputable def Lw:ISs:=.cons (.set 2 (.bi .dictL (.comp ["ferry"] [] (.seq (.var 1)) (.nm 0) .none (.tup (.cons (.ix (.var 0) (.int 0)) (.cons (.ix (.var 0) (.int 1)) .nil)))) .nil)) Lv
noncomputable abbrev EK:ISs:=Lw
noncomputable def Lx:GI:={bl:=GB,gl:=GL,fns:=["refuse_wrong_end"]}
theorem Z5t:chkSs Lx (X7 A9) ["islands","ferries","givers","takers","island","step"] EK (Xm A9)=true:=by decide+kernel
noncomputable def VL:ISs:=.cons (.ret (.var 0)) .nil
noncomputable def EL:ISs:=.cons (.ret (.bi .tuple (.comp ["part"] [] (.seq (.var 0)) (.nm 0) .none (.call 0 (.var 0) .nil)) .nil)) .nil
noncomputable def EM:ISs:=.cons (.ite (.bi .isinst (.var 0) (.cons (.tup (.cons (.ty .list) (.cons (.ty .tuple) .nil))) .nil)) EL .nil) VL
noncomputable abbrev VM:ISs:=EM
noncomputable def EN:GI:={bl:=GB,gl:=GL,fns:=["frozen"]}
theorem Ly:chkSs EN (X7 Aa) ["value"] VM (Xm Aa)=true:=by decide+kernel
noncomputable def Lz:ISs:=.cons (.ret (.call 0 (.tup (.cons (.var 0) (.cons (.var 1) (.cons (.var 2) .nil)))) .nil)) .nil
noncomputable def LA:ISs:=.cons (.expr (.call 5 (.var 1) (.cons (.var 2) .nil))) Lz
noncomputable def LB:ISs:=.cons (.expr (.call 2 (.var 4) (.cons (.var 3) .nil))) .nil
noncomputable def LC:ISs:=.cons (.for_ (.nm 4) (.seq (.var 2)) LB) LA
noncomputable def LD:ISs:=.cons (.set 3 (.comp ["island"] [] (.seq (.var 1)) (.nm 0) .none (.ix (.var 0) (.int 0)))) LC
noncomputable def LE:ISs:=.cons (.expr (.call 4 (.var 0) (.cons (.var 1) (.cons (.comp ["ferry"] [] (.seq (.var 2)) (.nm 0) .none (.ix (.var 0) (.int 0))) .nil)))) LD
noncomputable def LF:ISs:=.cons (.expr (.call 3 (.var 2) .nil)) LE
noncomputable def Zm7:ISs:=.cons .never .nil
noncomputable def LG:ISs:=.cons (.ite (.cmp .Gt (.bi .len (.var 2) .nil) (.glb "MOST_FERRIES" 6)) Zm7 .nil) LF
noncomputable def Zm8:ISs:=.cons .never .nil
noncomputable def LH:ISs:=.cons (.ite (.cmp .Gt (.bi .len (.var 1) .nil) (.glb "MOST_ISLANDS" 5)) Zm8 .nil) LG
noncomputable def Zm9:ISs:=.cons .never .nil
noncomputable def LI:ISs:=.cons (.ite (.not (.call 1 (.var 0) .nil)) Zm9 .nil) LH
noncomputable abbrev EO:ISs:=LI
noncomputable def LJ:GI:={bl:=GB,gl:=GL,fns:=["frozen","is_width","refuse_ferry","refuse_ferry_names","refuse_islands","refuse_wrong_ends"]}
theorem Zmn:chkSs LJ (X7 Ab) ["width","islands","ferries","island_names","ferry"] EO (Xm Ab)=true:=by decide+kernel
noncomputable def Zco:ISs:=.cons .never .nil
noncomputable def LK:ISs:=.cons (.ret (.var 2)) .nil
noncomputable def LL:ISs:=.cons (.ite (.cmp .Eq (.ix (.var 2) (.int 0)) (.var 1)) LK .nil) .nil
noncomputable def LM:ISs:=.cons (.for_ (.nm 2) (.seq (.var 0)) LL) Zco
noncomputable abbrev EQ:ISs:=LM
noncomputable def LN:GI:={bl:=GB,gl:=GL,fns:=[]}
theorem Zcw:chkSs LN (X7 Ac) ["row","name","one"] EQ (Xm Ac)=true:=by decide+kernel
noncomputable def LO:ISs:=.cons (.ret (.call 0 (.ix (.var 0) (.int 1)) (.cons (.var 1) .nil))) .nil
noncomputable abbrev ER:ISs:=LO
noncomputable def LP:GI:={bl:=GB,gl:=GL,fns:=["one_called"]}
theorem ZdD:chkSs LP (X7 Ad) ["world","name"] ER (Xm Ad)=true:=by decide+kernel
noncomputable def LQ:ISs:=.cons (.ret (.call 0 (.ix (.var 0) (.int 2)) (.cons (.var 1) .nil))) .nil
noncomputable abbrev ES:ISs:=LQ
noncomputable def LR:GI:={bl:=GB,gl:=GL,fns:=["one_called"]}
theorem ZeR:chkSs LR (X7 Ae) ["world","name"] ES (Xm Ae)=true:=by decide+kernel
noncomputable def LS:ISs:=.cons (.ret (.tup (.cons (.var 1) (.cons (.var 2) (.cons (.var 3) (.cons (.var 4) .nil)))))) .nil
noncomputable def LT:ISs:=.cons (.set 4 (.bi .dictL (.comp ["ferry"] [] (.seq (.ix (.var 0) (.int 2))) (.nm 0) .none (.tup (.cons (.ix (.var 0) (.int 0)) (.cons (.int 0) .nil)))) .nil)) LS
noncomputable def LU:ISs:=.cons (.set 3 (.bi .dictL (.comp ["ferry"] [] (.seq (.ix (.var 0) (.int 2))) (.nm 0) .none (.tup (.cons (.ix (.var 0) (.int 0)) (.cons (.lst .nil) .nil)))) .nil)) LT
noncomputable def LV:ISs:=.cons (.set 2 (.bi .dictL (.comp ["island"] [] (.seq (.ix (.var 0) (.int 1))) (.nm 0) .none (.tup (.cons (.ix (.var 0) (.int 0)) (.cons (.bi .dict (.ix (.var 0) (.int 1)) .nil) .nil)))) .nil)) LU
noncomputable def LW:ISs:=.cons (.set 1 (.bi .dictL (.comp ["island"] [] (.seq (.ix (.var 0) (.int 1))) (.nm 0) .none (.tup (.cons (.ix (.var 0) (.int 0)) (.cons (.int 0) .nil)))) .nil)) LV
noncomputable abbrev ET:ISs:=LW
noncomputable def LX:GI:={bl:=GB,gl:=GL,fns:=[]}
theorem Zbb:chkSs LX (X7 Af) ["world","numbers","words","given","taken"] ET (Xm Af)=true:=by decide+kernel
noncomputable def LY:ISs:=.cons (.ret (.tup (.cons (.bi .dict (.ix (.var 0) (.int 0)) .nil) (.cons (.var 1) (.cons (.var 2) (.cons (.bi .dict (.ix (.var 0) (.int 3)) .nil) .nil)))))) .nil
noncomputable def LZ:ISs:=.cons (.set 2 (.bi .dictL (.comp ["name"] [0] (.seq (.ix (.var 0) (.int 2))) (.nm 0) .none (.tup (.cons (.var 0) (.cons (.bi .list (.ix (.ix (.var 1) (.int 2)) (.var 0)) .nil) .nil)))) .nil)) LY
noncomputable def Mb:ISs:=.cons (.set 1 (.bi .dictL (.comp ["name"] [0] (.seq (.ix (.var 0) (.int 1))) (.nm 0) .none (.tup (.cons (.var 0) (.cons (.bi .dict (.ix (.ix (.var 1) (.int 1)) (.var 0)) .nil) .nil)))) .nil)) LZ
noncomputable abbrev EU:ISs:=Mb
noncomputable def Mc:GI:={bl:=GB,gl:=GL,fns:=[]}
theorem Zgi:chkSs Mc (X7 Ag) ["stand","words","given"] EU (Xm Ag)=true:=by decide+kernel
noncomputable def Md:ISs:=.cons (.ret (.call 1 (.ix (.var 0) (.int 0)) (.cons (.ix (.call 0 (.var 0) (.cons (.var 2) .nil)) (.int 2)) (.cons (.ix (.ix (.var 1) (.int 0)) (.var 2)) (.cons (.ix (.ix (.var 1) (.int 1)) (.var 2)) .nil))))) .nil
noncomputable abbrev EV:ISs:=Md
noncomputable def Me:GI:={bl:=GB,gl:=GL,fns:=["island_of","wish"]}
theorem Zgd:chkSs Me (X7 Ah) ["world","stand","name"] EV (Xm Ah)=true:=by decide+kernel
noncomputable def Mg:ISs:=.cons (.ret (.cmp .Lt (.var 3) (.call 1 (.ix (.call 0 (.var 0) (.cons (.ix (.var 2) (.int 1)) .nil)) (.int 3)) .nil))) .nil
noncomputable def Mh:ISs:=.cons (.ret (.cmp .Gt (.var 3) (.int 0))) .nil
noncomputable def EW:ISs:=.cons (.ite (.cmp .Eq (.ix (.var 2) (.int 0)) (.str "take")) Mh .nil) Mg
noncomputable def EX:ISs:=.cons (.set 3 (.bin .Sub (.bi .len (.ix (.ix (.var 1) (.int 2)) (.ix (.var 2) (.int 1))) .nil) (.ix (.ix (.var 1) (.int 3)) (.ix (.var 2) (.int 1))))) EW
noncomputable def EY:ISs:=.cons (.ret (.bl true)) .nil
noncomputable def Mi:ISs:=.cons (.ite (.cmp .Eq (.ix (.var 2) (.int 0)) (.str "own")) EY .nil) EX
noncomputable abbrev EZ:ISs:=Mi
noncomputable def Mj:GI:={bl:=GB,gl:=GL,fns:=["ferry_of","two_to"]}
theorem Zid:chkSs Mj (X7 Ai) ["world","stand","asked","under_way"] EZ (Xm Ai)=true:=by decide+kernel
noncomputable def Ml:ISs:=.cons (.put (.ix (.var 4) (.int 1)) (.var 2) (.ix (.var 8) (.int 1))) .nil
noncomputable def Mm:ISs:=.cons (.put (.ix (.var 4) (.int 0)) (.var 2) (.ix (.var 8) (.int 0))) Ml
noncomputable def Mn:ISs:=.cons (.set 8 (.call 0 (.ix (.var 0) (.int 0)) (.cons (.var 7) (.cons (.ix (.ix (.var 1) (.int 0)) (.var 2)) (.cons (.ix (.ix (.var 1) (.int 1)) (.var 2)) (.cons (.var 5) .nil)))))) Mm
noncomputable def F0:ISs:=.cons (.set 7 (.ix (.call 1 (.var 0) (.cons (.var 2) .nil)) (.int 2))) Mn
noncomputable def Mo:ISs:=.cons (.expr (.mt .append (.ix (.ix (.var 4) (.int 2)) (.ix (.var 3) (.int 1))) (.cons (.ix (.var 3) (.int 2)) .nil))) .nil
noncomputable def AG:ISs:=.cons (.ite (.cmp .Eq (.ix (.var 3) (.int 0)) (.str "give")) Mo .nil) F0
noncomputable def Mp:ISs:=.cons (.put (.ix (.var 4) (.int 3)) (.var 6) (.bin .Add (.ix (.ix (.var 1) (.int 3)) (.var 6)) (.int 1))) .nil
noncomputable def Mr:ISs:=.cons (.set 5 (.ix (.ix (.ix (.var 1) (.int 2)) (.var 6)) (.ix (.ix (.var 1) (.int 3)) (.var 6)))) Mp
noncomputable def Ms:ISs:=.cons (.set 6 (.ix (.var 3) (.int 1))) Mr
noncomputable def Mt:ISs:=.cons (.ite (.cmp .Eq (.ix (.var 3) (.int 0)) (.str "take")) Ms .nil) AG
noncomputable def Mu:ISs:=.cons (.set 5 .non) Mt
noncomputable abbrev F1:ISs:=Mu
noncomputable def Mv:GI:={bl:=GB,gl:=GL,fns:=["after","island_of"]}
theorem Zgh:chkSs Mv (X7 Aj) ["world","stand","name","asked","behind","word","ferry","steps","went"] F1 (Xm Aj)=true:=by decide+kernel
noncomputable def Mw:ISs:=.cons (.ret (.tup (.cons (.var 2) (.cons (.var 3) .nil)))) .nil
noncomputable def Mx:ISs:=.cons (.expr (.mt .append (.var 3) (.cons (.ix (.var 4) (.int 0)) .nil))) .nil
noncomputable def Mz:ISs:=.cons (.expr (.call 2 (.var 0) (.cons (.var 1) (.cons (.ix (.var 4) (.int 0)) (.cons (.var 5) (.cons (.var 2) .nil)))))) Mx
noncomputable def MA:ISs:=.cons (.ite (.and (.cmp .IsNot (.var 5) .non) (.call 0 (.var 0) (.cons (.var 1) (.cons (.var 5) .nil)))) Mz .nil) .nil
noncomputable def MB:ISs:=.cons (.set 5 (.call 3 (.var 0) (.cons (.var 1) (.cons (.ix (.var 4) (.int 0)) .nil)))) MA
noncomputable def MC:ISs:=.cons (.for_ (.nm 4) (.seq (.ix (.var 0) (.int 1))) MB) Mw
noncomputable def MD:ISs:=.cons (.set 3 (.lst .nil)) MC
noncomputable def ME:ISs:=.cons (.set 2 (.call 1 (.var 1) .nil)) MD
noncomputable abbrev F2:ISs:=ME
noncomputable def MF:GI:={bl:=GB,gl:=GL,fns:=["can_be","copy_of","do_step","wish_of"]}
theorem ZeO:chkSs MF (X7 Ak) ["world","stand","behind","names","island","asked"] F2 (Xm Ak)=true:=by decide+kernel
noncomputable def MG:ISs:=.cons (.ret (.bin .Mod (.bin .Mult (.bin .Mult (.var 1) (.var 1)) (.int 7919)) (.int 1000003))) .nil
noncomputable def MI:ISs:=.cons (.ret (.bin .Mod (.ix (.var 0) (.var 1)) (.int 1000000007))) .nil
noncomputable def MJ:ISs:=.cons (.ite (.cmp .Lt (.var 1) (.bi .len (.var 0) .nil)) MI .nil) MG
noncomputable abbrev F3:ISs:=MJ
noncomputable def MK:GI:={bl:=GB,gl:=GL,fns:=[]}
theorem ZdL:chkSs MK (X7 Al) ["script","k"] F3 (Xm Al)=true:=by decide+kernel
noncomputable def ML:ISs:=.cons (.ret (.bin .Mod (.bin .Mult (.var 2) (.var 2)) (.int 2147483629))) .nil
noncomputable def MM:ISs:=.cons (.set 2 (.bin .Mod (.bin .Add (.bin .Add (.bin .Mult (.var 0) (.int 69621)) (.bin .Mult (.var 1) (.int 16807))) (.int 1013)) (.int 2147483647))) ML
noncomputable abbrev F4:ISs:=MM
noncomputable def MN:GI:={bl:=GB,gl:=GL,fns:=[]}
theorem ZeS:chkSs MN (X7 Am) ["number","salt","mixed"] F4 (Xm Am)=true:=by decide+kernel
noncomputable def MP:ISs:=.cons (.ret (.var 8)) .nil
noncomputable def MQ:ISs:=.cons (.expr (.mt .append (.var 8) (.cons (.bin .Add (.bin .Add (.sl (.var 7) .none (.some (.var 6))) (.var 10)) (.sl (.var 7) (.some (.bin .Add (.var 6) (.int 1))) .none)) .nil))) .nil
noncomputable def MR:ISs:=.cons (.expr (.mt .append (.var 8) (.cons (.bin .Add (.bin .Mult (.ix (.var 2) (.var 3)) (.bin .Mod (.var 9) (.int 4))) (.var 10)) .nil))) .nil
noncomputable def MS:ISs:=.cons (.ite (.cmp .Eq (.bin .Mod (.bin .FloorDiv (.var 0) (.int 13312)) (.int 2)) (.int 0)) MQ MR) .nil
noncomputable def MU:ISs:=.cons (.set 10 (.ix (.var 2) (.bin .Mod (.bin .Add (.var 3) (.bin .Mult (.var 9) (.var 4))) (.int 26)))) MS
noncomputable def MW:ISs:=.cons (.for_ (.nm 9) (.rng (.var 1)) MU) MP
noncomputable def MX:ISs:=.cons (.set 8 (.lst .nil)) MW
noncomputable def MY:ISs:=.cons (.set 7 (.mt .join (.str "") (.cons (.comp ["k"] [2,0] (.rng (.var 5)) (.nm 0) .none (.ix (.var 1) (.bin .Mod (.call 0 (.var 2) (.cons (.bin .Add (.int 20) (.var 0)) .nil)) (.int 26)))) .nil))) MX
noncomputable def MZ:ISs:=.cons (.set 6 (.bin .Mod (.bin .FloorDiv (.var 0) (.int 1664)) (.var 5))) MY
noncomputable def N0:ISs:=.cons (.set 5 (.bin .Add (.int 1) (.bin .Mod (.bin .FloorDiv (.var 0) (.int 208)) (.int 8)))) MZ
noncomputable def N2:ISs:=.cons (.set 4 (.ix (.lst (.cons (.int 1) (.cons (.int 3) (.cons (.int 5) (.cons (.int 7) (.cons (.int 9) (.cons (.int 11) (.cons (.int 15) (.cons (.int 17) .nil))))))))) (.bin .Mod (.bin .FloorDiv (.var 0) (.int 26)) (.int 8)))) N0
noncomputable def N3:ISs:=.cons (.set 3 (.bin .Mod (.var 0) (.int 26))) N2
noncomputable def N5:ISs:=.cons (.set 2 (.str "abcdefghijklmnopqrstuvwxyz")) N3
noncomputable abbrev F5:ISs:=N5
noncomputable def N6:GI:={bl:=GB,gl:=GL,fns:=["_law_mix"]}
theorem ZcB:chkSs N6 (X7 An) ["number","many","letters","first","step","size","at","stem","names","k","sign"] F5 (Xm An)=true:=by decide+kernel
noncomputable def N7:ISs:=.cons (.ret (.bin .Mod (.ix (.lst (.cons (.var 2) (.cons (.var 2) (.cons (.int 0) (.cons (.bin .Sub (.bin .LShift (.int 1) (.var 1)) (.int 1)) .nil))))) (.bin .Mod (.bin .FloorDiv (.var 0) (.int 8)) (.int 4))) (.bin .LShift (.int 1) (.var 1)))) .nil
noncomputable def N8:ISs:=.cons (.set 2 (.bin .Add (.bin .Mult (.bin .Add (.bin .Mult (.call 0 (.var 0) (.cons (.int 7) .nil)) (.int 2147483629)) (.call 0 (.var 0) (.cons (.int 8) .nil))) (.int 8)) (.bin .Mod (.var 0) (.int 8)))) N7
noncomputable abbrev F6:ISs:=N8
noncomputable def N9:GI:={bl:=GB,gl:=GL,fns:=["_law_mix"]}
theorem ZdF:chkSs N9 (X7 Ao) ["number","width","far"] F6 (Xm Ao)=true:=by decide+kernel
noncomputable def Na:ISs:=.cons (.ret (.tup (.cons (.ix (.lst (.cons (.str "plus") (.cons (.str "minus") (.cons (.str "times") (.cons (.str "less") (.cons (.str "same") (.cons (.str "minus") .nil))))))) (.bin .Sub (.var 3) (.int 2))) (.cons (.var 6) (.cons (.var 7) .nil))))) .nil
noncomputable def Nb:ISs:=.cons (.ret (.tup (.cons (.str "pick") (.cons (.call 1 (.call 0 (.var 0) (.cons (.int 4) .nil)) (.cons (.var 1) (.cons (.bin .Sub (.var 2) (.int 1)) .nil))) (.cons (.var 6) (.cons (.var 7) .nil)))))) .nil
noncomputable def Nc:ISs:=.cons (.ite (.cmp .Eq (.var 3) (.int 8)) Nb .nil) Na
noncomputable def Nd:ISs:=.cons (.set 7 (.call 1 (.call 0 (.var 0) (.cons (.int 3) .nil)) (.cons (.var 1) (.cons (.bin .Sub (.var 2) (.int 1)) .nil)))) Nc
noncomputable def Nf:ISs:=.cons (.set 6 (.call 1 (.call 0 (.var 0) (.cons (.int 2) .nil)) (.cons (.var 1) (.cons (.bin .Sub (.var 2) (.int 1)) .nil)))) Nd
noncomputable def Ng:ISs:=.cons (.ret (.tup (.cons (.str "num") (.cons (.ix (.lst (.cons (.bin .Sub (.bin .Mod (.bin .FloorDiv (.var 4) (.int 8)) (.int 9)) (.int 4)) (.cons (.var 5) (.cons (.bin .Sub (.int 0) (.var 5)) (.cons (.bin .Mod (.bin .FloorDiv (.var 4) (.int 8)) (.int 2)) .nil))))) (.bin .Mod (.bin .FloorDiv (.var 4) (.int 128)) (.int 4))) .nil)))) .nil
noncomputable def F7:ISs:=.cons (.set 5 (.call 2 (.var 4) (.cons (.int 64) .nil))) Ng
noncomputable def Nh:ISs:=.cons (.ret (.tup (.cons (.str "var") (.cons (.ix (.var 1) (.bin .Mod (.bin .FloorDiv (.var 4) (.int 3)) (.bi .len (.var 1) .nil))) .nil)))) .nil
noncomputable def F8:ISs:=.cons (.ite (.and (.cmp .NotEq (.var 1) (.lst .nil)) (.cmp .Gt (.bin .Mod (.var 4) (.int 3)) (.int 0))) Nh .nil) F7
noncomputable def Ni:ISs:=.cons (.ite (.or (.cmp .Eq (.var 2) (.int 0)) (.cmp .Lt (.var 3) (.int 2))) F8 .nil) Nf
noncomputable def Nj:ISs:=.cons (.set 4 (.call 0 (.var 0) (.cons (.int 1) .nil))) Ni
noncomputable def Nk:ISs:=.cons (.set 3 (.bin .Mod (.var 0) (.int 9))) Nj
noncomputable abbrev F9:ISs:=Nk
noncomputable def Nl:GI:={bl:=GB,gl:=GL,fns:=["_law_mix","_law_term","_law_word"]}
theorem ZdG:chkSs Nl (X7 Ap) ["number","own","deep","way","more","far","one","two"] F9 (Xm Ap)=true:=by decide+kernel
noncomputable def Fa:ISs:=.cons (.ret (.tup (.cons (.str "put") (.cons (.ix (.var 3) (.bin .Mod (.bin .FloorDiv (.var 8) (.int 8)) (.bi .len (.var 3) .nil))) (.cons (.var 9) .nil))))) .nil
noncomputable def Fb:ISs:=.cons (.ret (.tup (.cons (.str "jump") (.cons (.var 9) (.cons (.bin .Mod (.bin .FloorDiv (.var 8) (.int 512)) (.bin .Add (.var 4) (.int 1))) .nil))))) .nil
noncomputable def Fc:ISs:=.cons (.ite (.or (.cmp .Eq (.var 7) (.int 7)) (.cmp .Eq (.var 3) (.lst .nil))) Fb .nil) Fa
noncomputable def Nm:ISs:=.cons (.ret (.tup (.cons (.str "give") (.cons (.ix (.var 6) (.bin .Mod (.var 8) (.bi .len (.var 6) .nil))) (.cons (.var 9) .nil))))) .nil
noncomputable def Fd:ISs:=.cons (.ite (.and (.cmp .Lt (.var 7) (.int 6)) (.cmp .NotEq (.var 6) (.lst .nil))) Nm .nil) Fc
noncomputable def Fe:ISs:=.cons (.set 9 (.call 1 (.call 0 (.var 0) (.cons (.int 6) .nil)) (.cons (.var 3) (.cons (.bin .Mod (.bin .FloorDiv (.var 8) (.int 64)) (.int 3)) .nil)))) Fd
noncomputable def Nn:ISs:=.cons (.ret (.tup (.cons (.str "take") (.cons (.ix (.var 5) (.bin .Mod (.var 8) (.bi .len (.var 5) .nil))) (.cons (.ix (.var 3) (.bin .Mod (.bin .FloorDiv (.var 8) (.int 8)) (.bi .len (.var 3) .nil))) .nil))))) .nil
noncomputable def No:ISs:=.cons (.ite (.and (.cmp .Lt (.var 7) (.int 3)) (.and (.cmp .NotEq (.var 5) (.lst .nil)) (.cmp .NotEq (.var 3) (.lst .nil)))) Nn .nil) Fe
noncomputable def Np:ISs:=.cons (.set 8 (.call 0 (.var 0) (.cons (.int 5) .nil))) No
noncomputable def Nq:ISs:=.cons (.set 7 (.bin .Mod (.var 0) (.int 8))) Np
noncomputable def Nr:ISs:=.cons (.set 6 (.comp ["ferry"] [1] (.seq (.var 2)) (.nm 0) (.some (.cmp .Eq (.ix (.var 0) (.int 1)) (.var 1))) (.ix (.var 0) (.int 0)))) Nq
noncomputable def Nt:ISs:=.cons (.set 5 (.comp ["ferry"] [1] (.seq (.var 2)) (.nm 0) (.some (.cmp .Eq (.ix (.var 0) (.int 2)) (.var 1))) (.ix (.var 0) (.int 0)))) Nr
noncomputable abbrev Ff:ISs:=Nt
noncomputable def Nu:GI:={bl:=GB,gl:=GL,fns:=["_law_mix","_law_term"]}
theorem ZdH:chkSs Nu (X7 Aq) ["number","name","ferries","own","many","takes","gives","way","more","term"] Ff (Xm Aq)=true:=by decide+kernel
noncomputable def Fg:ISs:=.cons (.ret (.var 3)) .nil
noncomputable def Nv:ISs:=.cons (.expr (.mt .append (.var 3) (.cons (.bin .Add (.var 8) (.tup (.cons (.bin .Mod (.bin .FloorDiv (.var 5) (.int 64)) (.int 4)) (.cons (.bin .Add (.int 1) (.bin .Mod (.bin .FloorDiv (.var 5) (.int 256)) (.int 3))) .nil)))) .nil))) .nil
noncomputable def Nw:ISs:=.cons (.set 8 (.tup (.cons (.ix (.var 1) (.bin .Add (.int 5) (.var 4))) (.cons (.ix (.var 1) (.var 6)) (.cons (.ix (.var 1) (.var 7)) .nil))))) Nv
noncomputable def Ny:ISs:=.cons (.set 7 (.bin .Mod (.bin .Add (.bin .Add (.var 6) (.int 1)) (.bin .Mod (.bin .FloorDiv (.var 5) (.int 8)) (.bin .Sub (.var 2) (.int 1)))) (.var 2))) Nw
noncomputable def Nz:ISs:=.cons (.set 6 (.bin .Mod (.var 5) (.var 2))) Ny
noncomputable def NA:ISs:=.cons (.set 5 (.call 0 (.var 0) (.cons (.bin .Add (.int 10) (.var 4)) .nil))) Nz
noncomputable def ND:ISs:=.cons (.for_ (.nm 4) (.rng (.bin .Mod (.bin .FloorDiv (.var 0) (.int 8)) (.int 7))) NA) .nil
noncomputable def NE:ISs:=.cons (.ite (.cmp .Gt (.var 2) (.int 1)) ND .nil) Fg
noncomputable def NF:ISs:=.cons (.set 3 (.lst .nil)) NE
noncomputable abbrev Fh:ISs:=NF
noncomputable def NG:GI:={bl:=GB,gl:=GL,fns:=["_law_mix"]}
theorem ZaC:chkSs NG (X7 Ar) ["number","names","many","ferries","j","more","giver","taker","ends"] Fh (Xm Ar)=true:=by decide+kernel
noncomputable def NH:ISs:=.cons (.ret (.tup (.cons (.var 6) (.cons (.var 8) (.cons (.var 7) .nil))))) .nil
noncomputable def NI:ISs:=.cons (.expr (.mt .append (.var 8) (.cons (.tup (.cons (.ix (.var 4) (.var 9)) (.cons (.var 15) (.cons (.var 16) .nil)))) .nil))) .nil
noncomputable def NJ:ISs:=.cons (.set 16 (.comp ["cell"] [7,12,14,4,9] (.seq (.sl (.var 13) .none (.some (.int 12)))) (.nm 0) .none (.call 4 (.call 2 (.var 0) (.cons (.int 4) .nil)) (.cons (.ix (.var 4) (.var 5)) (.cons (.var 1) (.cons (.var 2) (.cons (.var 3) .nil))))))) NI
noncomputable def NK:ISs:=.cons (.set 15 (.comp ["j"] [12,6,10] (.rng (.bi .len (.var 12) .nil)) (.nm 0) .none (.tup (.cons (.ix (.var 1) (.var 0)) (.cons (.call 5 (.call 2 (.var 3) (.cons (.var 0) .nil)) (.cons (.var 2) .nil)) .nil))))) NJ
noncomputable def NL:ISs:=.cons (.set 14 (.bi .min (.bi .len (.var 13) .nil) (.cons (.int 12) .nil))) NK
noncomputable def NM:ISs:=.cons (.set 13 (.comp ["k"] [0,9,3,1] (.rng2 (.var 1) (.bi .len (.var 0) .nil)) (.nm 0) (.some (.cmp .Eq (.bin .Mod (.bin .Sub (.var 0) (.var 4)) (.var 3)) (.var 2))) (.bin .Mod (.ix (.var 1) (.var 0)) (.int 1000000007)))) NL
noncomputable def NN:ISs:=.cons (.set 12 (.sl (.var 4) (.some (.var 11)) (.some (.bin .Add (.var 11) (.bin .Mod (.var 10) (.int 7)))))) NM
noncomputable def NO:ISs:=.cons (.set 11 (.ix (.lst (.cons (.int 11) (.cons (.int 11) (.cons (.int 5) (.cons (.int 0) .nil))))) (.bin .Mod (.bin .FloorDiv (.var 10) (.int 7)) (.int 4)))) NN
noncomputable def NP:ISs:=.cons (.set 10 (.call 2 (.var 5) (.cons (.bin .Add (.int 20) (.var 9)) .nil))) NO
noncomputable def NQ:ISs:=.cons (.for_ (.nm 9) (.rng (.var 3)) NP) NH
noncomputable def NR:ISs:=.cons (.set 8 (.lst .nil)) NQ
noncomputable def NS:ISs:=.cons (.set 7 (.call 1 (.var 2) (.cons (.var 4) (.cons (.var 3) .nil)))) NR
noncomputable def NT:ISs:=.cons (.set 6 (.ix (.lst (.cons (.bin .Add (.int 1) (.bin .Mod (.bin .FloorDiv (.var 5) (.int 4)) (.int 64))) (.cons (.int 64) (.cons (.bin .Add (.int 1) (.bin .Mod (.bin .FloorDiv (.var 5) (.int 4)) (.int 5))) (.cons (.int 8) .nil))))) (.bin .Mod (.var 5) (.int 4)))) NS
noncomputable def NU:ISs:=.cons (.set 5 (.call 2 (.call 0 (.var 0) (.cons (.int 2) .nil)) (.cons (.int 3) .nil))) NT
noncomputable def NV:ISs:=.cons (.set 4 (.call 3 (.call 2 (.call 0 (.var 0) (.cons (.int 1) .nil)) (.cons (.int 2) .nil)) (.cons (.int 17) .nil))) NU
noncomputable def NW:ISs:=.cons (.set 3 (.ix (.lst (.cons (.int 2) (.cons (.int 3) (.cons (.int 4) (.cons (.int 5) (.cons (.int 2) (.cons (.int 3) (.cons (.int 1) (.cons (.int 0) .nil))))))))) (.bin .Mod (.var 2) (.int 8)))) NV
noncomputable def NX:ISs:=.cons (.set 2 (.call 2 (.call 0 (.var 0) (.cons (.int 0) .nil)) (.cons (.int 1) .nil))) NW
noncomputable abbrev Fi:ISs:=NX
noncomputable def NY:GI:={bl:=GB,gl:=GL,fns:=["_law_cell","_law_ferries","_law_mix","_law_names","_law_step","_law_word"]}
theorem Zcy:chkSs NY (X7 As) ["script","start","head","many","names","size","width","ferries","islands","i","more","first","own","cells","long","pairs","steps"] Fi (Xm As)=true:=by decide+kernel
noncomputable def NZ:ISs:=.cons (.ret (.call 0 (.ix (.var 0) (.int 0)) (.cons (.var 1) (.cons (.bi .list (.ix (.var 0) (.int 2)) .nil) .nil)))) .nil
noncomputable def O0:ISs:=.cons (.set 1 (.comp ["name","pairs","steps"] [] (.seq (.ix (.var 0) (.int 1))) (.tup (.cons (.nm 0) (.cons (.nm 1) (.cons (.nm 2) .nil)))) .none (.tup (.cons (.var 0) (.cons (.bi .list (.var 1) .nil) (.cons (.bi .list (.var 2) .nil) .nil)))))) NZ
noncomputable abbrev Fj:ISs:=O0
noncomputable def O1:GI:={bl:=GB,gl:=GL,fns:=["made"]}
theorem ZdJ:chkSs O1 (X7 At) ["parts","islands"] Fj (Xm At)=true:=by decide+kernel
noncomputable def O2:ISs:=.cons (.ret (.var 2)) .nil
noncomputable def O3:ISs:=.cons (.put (.ix (.var 2) (.int 3)) (.ix (.var 8) (.int 0)) (.int 0)) .nil
noncomputable def O4:ISs:=.cons (.put (.ix (.var 2) (.int 2)) (.ix (.var 8) (.int 0)) (.lst .nil)) O3
noncomputable def O5:ISs:=.cons (.for_ (.nm 8) (.seq (.var 1)) O4) O2
noncomputable def O6:ISs:=.cons (.put (.ix (.ix (.var 2) (.int 1)) (.var 3)) (.var 6) (.var 7)) .nil
noncomputable def O7:ISs:=.cons (.for_ (.tup (.cons (.nm 6) (.cons (.nm 7) .nil))) (.seq (.var 4)) O6) .nil
noncomputable def O8:ISs:=.cons (.put (.ix (.var 2) (.int 1)) (.var 3) .dic) O7
noncomputable def O9:ISs:=.cons (.put (.ix (.var 2) (.int 0)) (.var 3) (.int 0)) O8
noncomputable def Oa:ISs:=.cons (.for_ (.tup (.cons (.nm 3) (.cons (.nm 4) (.cons (.nm 5) .nil)))) (.seq (.var 0)) O9) O5
noncomputable def Ob:ISs:=.cons (.set 2 (.tup (.cons .dic (.cons .dic (.cons .dic (.cons .dic .nil)))))) Oa
noncomputable abbrev Fk:ISs:=Ob
noncomputable def Oc:GI:={bl:=GB,gl:=GL,fns:=[]}
theorem ZcC:chkSs Oc (X7 Au) ["islands","ferries","stand","name","pairs","steps","var","word","ferry"] Fk (Xm Au)=true:=by decide+kernel
noncomputable def Od:ISs:=.cons (.ret (.var 1)) .nil
noncomputable def Oe:ISs:=.cons (.put (.ix (.var 1) (.int 3)) (.var 2) (.ix (.ix (.var 0) (.int 3)) (.var 2))) .nil
noncomputable def Of:ISs:=.cons (.put (.ix (.var 1) (.int 2)) (.var 2) (.bi .list (.ix (.ix (.var 0) (.int 2)) (.var 2)) .nil)) Oe
noncomputable def Og:ISs:=.cons (.for_ (.nm 2) (.seq (.ix (.var 0) (.int 2))) Of) Od
noncomputable def Oh:ISs:=.cons (.put (.ix (.var 1) (.int 1)) (.var 2) (.bi .dict (.ix (.ix (.var 0) (.int 1)) (.var 2)) .nil)) .nil
noncomputable def Oi:ISs:=.cons (.put (.ix (.var 1) (.int 0)) (.var 2) (.ix (.ix (.var 0) (.int 0)) (.var 2))) Oh
noncomputable def Oj:ISs:=.cons (.for_ (.nm 2) (.seq (.ix (.var 0) (.int 0))) Oi) Og
noncomputable def Ol:ISs:=.cons (.set 1 (.tup (.cons .dic (.cons .dic (.cons .dic (.cons .dic .nil)))))) Oj
noncomputable abbrev Fl:ISs:=Ol
noncomputable def Om:GI:={bl:=GB,gl:=GL,fns:=[]}
theorem ZdK:chkSs Om (X7 Av) ["stand","copy","name"] Fl (Xm Av)=true:=by decide+kernel
noncomputable def Fm:ISs:=.cons (.ret (.bl false)) .nil
noncomputable def On:ISs:=.cons (.ret (.bl true)) .nil
noncomputable def Fn:ISs:=.cons (.ite (.and (.cmp .Eq (.sl (.var 0) .none (.some (.int 2))) (.tup (.cons (.str "give") (.cons (.var 3) .nil)))) (.cmp .Eq (.var 8) (.bin .LShift (.int 1) (.var 6)))) On .nil) .nil
noncomputable def Oo:ISs:=.cons (.ret (.bl true)) .nil
noncomputable def Op:ISs:=.cons (.ite (.and (.cmp .Eq (.sl (.var 0) .none (.some (.int 2))) (.tup (.cons (.str "take") (.cons (.var 3) .nil)))) (.cmp .Eq (.var 8) (.int 0))) Oo .nil) Fn
noncomputable def Oq:ISs:=.cons (.set 8 (.bin .Sub (.bi .len (.ix (.ix (.var 2) (.int 2)) (.var 3)) .nil) (.ix (.ix (.var 2) (.int 3)) (.var 3)))) Op
noncomputable def Os:ISs:=.cons (.for_ (.tup (.cons (.nm 3) (.cons (.nm 4) (.cons (.nm 5) (.cons (.nm 6) (.cons (.nm 7) .nil)))))) (.seq (.var 1)) Oq) Fm
noncomputable abbrev Fo:ISs:=Os
noncomputable def Ot:GI:={bl:=GB,gl:=GL,fns:=[]}
theorem ZdI:chkSs Ot (X7 Aw) ["step","ferries","stand","name","giver","taker","k","stages","held"] Fo (Xm Aw)=true:=by decide+kernel
noncomputable def Ou:ISs:=.cons (.ret (.tup (.cons (.var 4) (.cons (.var 5) .nil)))) .nil
noncomputable def Ov:ISs:=.cons (.put (.ix (.var 4) (.int 0)) (.var 6) (.ix (.var 10) (.int 2))) .nil
noncomputable def AH:ISs:=.cons (.ite (.and (.cmp .Eq (.ix (.var 10) (.int 0)) (.str "jump")) (.cmp .NotEq (.call 2 (.ix (.var 10) (.int 1)) (.cons (.var 0) (.cons (.var 11) .nil))) (.int 0))) Ov .nil) .nil
noncomputable def Ow:ISs:=.cons (.put (.ix (.ix (.var 4) (.int 1)) (.var 6)) (.ix (.var 10) (.int 1)) (.call 2 (.ix (.var 10) (.int 2)) (.cons (.var 0) (.cons (.var 11) .nil)))) .nil
noncomputable def AI:ISs:=.cons (.ite (.cmp .Eq (.ix (.var 10) (.int 0)) (.str "put")) Ow .nil) AH
noncomputable def Ox:ISs:=.cons (.expr (.mt .append (.ix (.ix (.var 4) (.int 2)) (.ix (.var 10) (.int 1))) (.cons (.call 2 (.ix (.var 10) (.int 2)) (.cons (.var 0) (.cons (.var 11) .nil))) .nil))) .nil
noncomputable def AJ:ISs:=.cons (.ite (.cmp .Eq (.ix (.var 10) (.int 0)) (.str "give")) Ox .nil) AI
noncomputable def Oy:ISs:=.cons (.put (.ix (.var 4) (.int 3)) (.ix (.var 10) (.int 1)) (.bin .Add (.var 12) (.int 1))) .nil
noncomputable def Oz:ISs:=.cons (.put (.ix (.ix (.var 4) (.int 1)) (.var 6)) (.ix (.var 10) (.int 2)) (.ix (.ix (.ix (.var 3) (.int 2)) (.ix (.var 10) (.int 1))) (.var 12))) Oy
noncomputable def OA:ISs:=.cons (.set 12 (.ix (.ix (.var 3) (.int 3)) (.ix (.var 10) (.int 1)))) Oz
noncomputable def OB:ISs:=.cons (.ite (.cmp .Eq (.ix (.var 10) (.int 0)) (.str "take")) OA .nil) AJ
noncomputable def OC:ISs:=.cons (.put (.ix (.var 4) (.int 0)) (.var 6) (.bin .Add (.var 9) (.int 1))) OB
noncomputable def OD:ISs:=.cons (.expr (.mt .append (.var 5) (.cons (.var 6) .nil))) OC
noncomputable def OE:ISs:=.cons (.set 11 (.ix (.ix (.var 3) (.int 1)) (.var 6))) OD
noncomputable def OF:ISs:=.cons (.set 10 (.ix (.var 8) (.var 9))) OE
noncomputable def OG:ISs:=.cons (.ite (.and (.cmp .Lt (.var 9) (.bi .len (.var 8) .nil)) (.not (.call 1 (.ix (.var 8) (.var 9)) (.cons (.var 2) (.cons (.var 3) .nil))))) OF .nil) .nil
noncomputable def OH:ISs:=.cons (.set 9 (.ix (.ix (.var 3) (.int 0)) (.var 6))) OG
noncomputable def OI:ISs:=.cons (.for_ (.tup (.cons (.nm 6) (.cons (.nm 7) (.cons (.nm 8) .nil)))) (.seq (.var 1)) OH) Ou
noncomputable def OJ:ISs:=.cons (.set 5 (.lst .nil)) OI
noncomputable def OK:ISs:=.cons (.set 4 (.call 0 (.var 3) .nil)) OJ
noncomputable abbrev Fp:ISs:=OK
noncomputable def OL:GI:={bl:=GB,gl:=GL,fns:=["_law_copy","_law_shut","worth"]}
theorem ZcA:chkSs OL (X7 Ax) ["width","islands","ferries","stand","behind","names","name","pairs","steps","at","step","seen","count"] Fp (Xm Ax)=true:=by decide+kernel
noncomputable def OM:ISs:=.cons (.ret (.and (.bi .isinst (.var 0) (.cons (.ty .int) .nil)) (.not (.bi .isinst (.var 0) (.cons (.ty .bool) .nil))))) .nil
noncomputable abbrev Fq:ISs:=OM
noncomputable def ON:GI:={bl:=GB,gl:=GL,fns:=[]}
theorem Zcz:chkSs ON (X7 Ay) ["found"] Fq (Xm Ay)=true:=by decide+kernel
noncomputable def OO:ISs:=.cons (.ret (.bl true)) .nil
noncomputable def Z8d:ISs:=.cons (.ret (.bl false)) .nil
noncomputable def OP:ISs:=.cons (.ite (.or (.not (.bi .isinst (.ix (.ix (.var 0) (.int 2)) (.var 2)) (.cons (.ty .list) .nil))) (.not (.call 0 (.ix (.ix (.var 0) (.int 3)) (.var 2)) .nil))) Z8d .nil) .nil
noncomputable def OQ:ISs:=.cons (.for_ (.nm 2) (.seq (.ix (.var 1) (.int 2))) OP) OO
noncomputable def Z9n:ISs:=.cons (.ret (.bl false)) .nil
noncomputable def OR:ISs:=.cons (.ite (.not (.call 0 (.ix (.ix (.ix (.var 0) (.int 1)) (.var 2)) (.var 3)) .nil)) Z9n .nil) .nil
noncomputable def OS:ISs:=.cons (.for_ (.nm 3) (.seq (.ix (.ix (.var 1) (.int 1)) (.var 2))) OR) .nil
noncomputable def Z9o:ISs:=.cons (.ret (.bl false)) .nil
noncomputable def OT:ISs:=.cons (.ite (.or (.not (.call 0 (.ix (.ix (.var 0) (.int 0)) (.var 2)) .nil)) (.not (.bi .isinst (.ix (.ix (.var 0) (.int 1)) (.var 2)) (.cons (.ty .dict) .nil)))) Z9o .nil) OS
noncomputable def OU:ISs:=.cons (.for_ (.nm 2) (.seq (.ix (.var 1) (.int 0))) OT) OQ
noncomputable def Z9p:ISs:=.cons (.ret (.bl false)) .nil
noncomputable def OV:ISs:=.cons (.ite (.or (.not (.bi .isinst (.var 0) (.cons (.ty .tuple) .nil))) (.cmp .NotEq (.var 0) (.var 1))) Z9p .nil) OU
noncomputable abbrev Ft:ISs:=OV
noncomputable def OW:GI:={bl:=GB,gl:=GL,fns:=["_law_whole"]}
theorem Z9r:chkSs OW (X7 Az) ["found","due","name","var"] Ft (Xm Az)=true:=by decide+kernel
noncomputable def OX:ISs:=.cons (.ret (.bl true)) .nil
noncomputable def OY:ISs:=.cons (.set 3 (.var 5)) .nil
noncomputable def Zma:ISs:=.cons (.ret (.bl false)) .nil
noncomputable def OZ:ISs:=.cons (.ite (.cmp .NotEq (.var 7) (.var 3)) Zma .nil) OY
noncomputable def P0:ISs:=.cons (.expr (.mt .append (.ix (.ix (.ix (.var 8) (.int 0)) (.int 2)) (.var 9)) (.cons (.int 1) .nil))) .nil
noncomputable def P1:ISs:=.cons (.for_ (.nm 9) (.seq (.ix (.var 5) (.int 2))) P0) OZ
noncomputable def P2:ISs:=.cons (.put (.ix (.ix (.ix (.var 8) (.int 0)) (.int 1)) (.var 9)) (.str "zz") (.int 1)) .nil
noncomputable def P3:ISs:=.cons (.for_ (.nm 9) (.seq (.ix (.var 5) (.int 0))) P2) P1
noncomputable def Zmb:ISs:=.cons (.ret (.bl false)) .nil
noncomputable def P4:ISs:=.cons (.ite (.or (.not (.bi .isinst (.ix (.var 8) (.int 1)) (.cons (.ty .list) .nil))) (.cmp .NotEq (.ix (.var 8) (.int 1)) (.var 6))) Zmb .nil) P3
noncomputable def Zmc:ISs:=.cons (.ret (.bl false)) .nil
noncomputable def P5:ISs:=.cons (.ite (.or (.not (.bi .isinst (.var 8) (.cons (.ty .tuple) .nil))) (.or (.cmp .NotEq (.bi .len (.var 8) .nil) (.int 2)) (.not (.call 3 (.ix (.var 8) (.int 0)) (.cons (.var 5) .nil))))) Zmc .nil) P4
noncomputable def P6:ISs:=.cons (.set 8 (.call 9 (.var 2) (.cons (.var 7) .nil))) P5
noncomputable def P7:ISs:=.cons (.set 7 (.call 1 (.var 3) .nil)) P6
noncomputable def P8:ISs:=.cons (.asg (.cons (.nm 5) (.cons (.nm 6) .nil)) (.call 6 (.ix (.var 1) (.int 0)) (.cons (.ix (.var 1) (.int 1)) (.cons (.ix (.var 1) (.int 2)) (.cons (.var 3) .nil))))) P7
noncomputable def P9:ISs:=.cons (.for_ (.nm 4) (.rng (.bin .Add (.int 1) (.bin .Mod (.call 5 (.call 0 (.var 0) (.cons (.int 0) .nil)) (.cons (.int 2) .nil)) (.int 16)))) P8) OX
noncomputable def Zoo:ISs:=.cons (.ret (.bl false)) .nil
noncomputable def Pa:ISs:=.cons (.ite (.not (.call 3 (.call 8 (.var 2) .nil) (.cons (.var 3) .nil))) Zoo .nil) P9
noncomputable def Pb:ISs:=.cons (.set 3 (.call 2 (.ix (.var 1) (.int 1)) (.cons (.ix (.var 1) (.int 2)) .nil))) Pa
noncomputable def Pc:ISs:=.cons (.set 2 (.call 4 (.var 1) .nil)) Pb
noncomputable def Pd:ISs:=.cons (.set 1 (.call 7 (.var 0) (.cons (.int 3) .nil))) Pc
noncomputable abbrev Fu:ISs:=Pd
noncomputable def Pe:GI:={bl:=GB,gl:=GL,fns:=["_law_cell","_law_copy","_law_first","_law_is_stand","_law_made","_law_mix","_law_round","_law_world","first_stand","round_of"]}
theorem Zow:chkSs Pe (X7 AA) ["script","parts","world","stand","k","due","names","handed","found","name"] Fu (Xm AA)=true:=by decide+kernel
theorem szl:sizeLine=16777216:=by decide
theorem na1:Int.natAbs 1=1:=rfl
theorem at0{α:Type}{x:α}{xs:List α}:atI (x::xs) 0=some x:=by unfold atI ixN;simp
theorem at1{α:Type}{x y:α}{xs:List α}:atI (x::y::xs) 1=some y:=XH (j:=1) (by rfl)
theorem at2{α:Type}{x y z:α}{xs:List α}:atI (x::y::z::xs) 2=some z:=XH (j:=2) (by rfl)
theorem at3{α:Type}{x y z u:α}{xs:List α}:atI (x::y::z::u::xs) 3=some u:=XH (j:=3) (by rfl)
theorem at4{α:Type}{x y z u v:α}{xs:List α}:atI (x::y::z::u::v::xs) 4=some v:=XH (j:=4) (by rfl)
theorem ZoL{a b:String}:(XS a=XS b)↔a=b:=by
 constructor
 ·intro h;rw[Str.ofString_eq_toList,Str.ofString_eq_toList]at h;have h1:a.toList.map BU=b.toList.map BU:=by
   have:=congrArg (λs:Str=>s.cps.toList) h
   simpa using this
  have inj:∀(xs ys:List Char),xs.map BU=ys.map BU->xs=ys:=by
   intro xs
   induction xs with
   |nil=>
    intro ys e;cases ys with
    |nil=>rfl
    |cons _ _=>cases e
   |cons x r ih=>
    intro ys e;cases ys with
    |nil=>cases e
    |cons y s=>
     rw[Xz,Xz]at e;injection e with e1 e2;rw[ih s e2,Char.toNat_inj.mp e1]
  exact String.toList_inj.mp (inj _ _ h1)
 ·intro h;rw[h]
theorem Y8{c A B:Prop} [Decidable c] (h1:c->A)(h2:¬c->B):if c then A else B:=by
 split
 ·exact h1 ‹_›
 ·exact h2 ‹_›
theorem isN0:VD .non=true:=rfl
local macro_rules | `(tactic| walk_at "s") => `(tactic| simp only [seval, szl, na1, Nat.zero_add, Nat.reduceAdd, Nat.zero_le, at0, at1, at2, at3, at4, ZoL, Xb, ZoQ, Zn0, ZoO, ZoN, ZoT, ZoP, ZmZ, ZoR, ZoS, v_s, b_0, f_s, ZpZ, Zq5, Zq1, e_bl, Zq3, Zq7, e_ty, Zqb, Zq2, Zq9, Zqa, Zqc, e_or, Zq6, Zq0, Zq4, Zq8, e_ix, e_sl, Zot, e_bi, e_b2, e_mt, Zor, Zmh, ZnY, ZnX, Zp8, Zp5, Zp7, Zp6, isN0, isTy, ZpG, Zp9, Zpv, Znu, Jn, Zpg, Zny, Znh, Znx, q_lt,
q_le, Zpw, q_gt, ZpD, Zpu, ZpB, Zps, Zla, Znt, Zl9, Zpb, ZpC, Zpt, Zpr, q_in, Zpq, Jo, Jp, Zl8, Zl7, Jq, Zpy, Zpx, Zpf, Znc, Zpd, Zpe, Znl, Zno, Znm, Znn, Zl6, Zpz, Zns, Zp0, ZoY, ZoX, ZoZ, Zn7, Zn8, Zl4, Zl5, Zn9, Znv, Zlb, Zlc, ZpF, ZpE, Znw, ZpA, Zng, Znf, Zpp, Znp, Zpk, Zl3, Zph, Zpc, Zna, Znb, Zp4, Zp3, Zp2, Zp1, Zpo, Zpn, Zpm,
Zpl, Zpa, Zpi, Zpj, Znd, Zne, Znk, Znj, Wn, CMul, CPow, List.getElem?_cons_zero, List.getElem?_cons_succ, Option.some.injEq, MV.int.injEq, MV.str.injEq, MV.bl.injEq, MV.tup.injEq, MV.frl.injEq, MV.ref.injEq, MV.ty.injEq, MO.lst.injEq, MO.dic.injEq, MO.ins.injEq, Prod.mk.injEq, exists_eq_left', exists_eq_left, exists_and_left, exists_eq, true_and, and_true, false_and, and_false, true_or, or_true, false_or, or_false, reduceCtorEq, ne_eq, not_false_eq_true, not_true_eq_false, List.set_cons_zero, List.set_cons_succ, decide_eq_true_eq, Bool.not_eq_true', decide_eq_false_iff_not, if_true, if_false, Bool.false_eq_true, reduceIte, List.length_cons, List.length_nil, and_self, String.reduceEq, String.reduceNe, Int.reduceLT, Int.reduceLE, Int.reducePow, Int.reduceNeg, Int.reduceToNat, Int.reduceSub, Int.reduceAdd, Int.reduceMul, Nat.reduceLT, Nat.reducePow, Nat.reduceLeDiff])
theorem Zmg{α:Sort _}{p q:α->Prop}(h:∀a,p a->q a):(∃a,p a)->∃a,q a:=fun⟨a,x⟩=>⟨a,h a x⟩
theorem ZjT{a b c:Prop}(h:b->c):a/\b->a/\c:=λx=>⟨x.1,h x.2⟩
theorem Ziw{a b c d:Prop}(h:a->c)(g:b->d):a/\b->c/\d:=λx=>⟨h x.1,g x.2⟩
theorem Zlr{a b c d:Prop}(h:a->c)(g:b->d):a\/b->c\/d:=λx=>x.elim (λy=>.inl (h y)) λy=>.inr (g y)
theorem ZjU{α:Sort _}{p q:α->Prop}(h:∀a,p a->q a):(∀a,p a)->∀a,q a:=λx a=>h a (x a)
local macro_rules | `(tactic| walk_at "m") => `(tactic| (intro vs M Q Q' hq; repeat (first | exact hq _ _ | exact id | refine Zmg fun _ => ?_ | refine ZjT ?_ | refine Ziw ?_ ?_ | refine ZjU fun _ => ?_ | refine Zlr ?_ ?_)))
noncomputable def SameM(M M':MH):Prop:=∀a o,M a=some o->M' a=some o
theorem SameM.refl(M:MH):SameM M M:=λ_ _ h=>h
theorem SameM.trans{M M1 M2:MH}(a:SameM M M1)(b:SameM M1 M2):SameM M M2:=λc o h=>b c o (a c o h)
theorem neM{M:MH}{a p:Addr}{o:MO}(h:M a=some o)(hp:M p=none):a≠p:=by intro e;subst e;rw[h]at hp;cases hp
theorem SameM.new{M:MH}{p:Addr}(h:M p=none)(o:MO):SameM M (updM M p o):=λa u e=>by rw[X9 (neM e h)];exact e
theorem SameM.free{M M':MH}(s:SameM M M'){p:Addr}(h:M' p=none):M p=none:=by
 cases e:M p with
 |none=>rfl
 |some o=>rw[s _ _ e]at h;cases h
theorem SameM.upd{M M':MH}(s:SameM M M'){p:Addr}(h:M p=none)(o:MO):SameM M (updM M' p o):=λa u e=>by rw[X9 (neM e h)];exact s a u e
theorem AK{lo:Int}{n i:Nat}{x:MV}(h:(Src.rng lo n).items[i]?=some x):i<n/\x=.int (lo+(i:Nat)):=by
 have hi:=(Xx.mp h).1;rw[Src.items_len]at hi;refine⟨hi,?_⟩;have h':((XN n).map λi=>MV.int (lo+(i:Nat)))[i]?=some x:=h;rw[Xg,X6 (by simpa using(show i<n from hi))]at h'
 simpa using h'.symm
theorem Y9{α:Type}{f:α->MV}{xs:List α}{i:Nat}{x:MV}(h:(xs.map f)[i]?=some x):∃hi:i<xs.length,x=f xs[i]:=by
 have hi:=(Xx.mp h).1;rw[X2]at hi;refine⟨hi,?_⟩;rw[Xg,X6 hi]at h;exact(Yk h).symm
theorem Zk{Φ:List (Str×SpM)}(hm:∀p∈Φ,MonW p.2):∀(j:Nat) f sp,Φ[j]?=some (f,sp)->MonW sp:=λj f sp h=>hm (f,sp) (Xk h)
theorem Pf(xs:List MV)(k:Nat):cutM xs none (some (k:Int))=xs.take k:=by
 unfold cutM;rw[HT.sIx_none,HT.sIx_nat];simp
theorem Zgb(xs:List MV)(k:Nat):cutM xs (some (k:Int)) none=xs.drop k:=by
 unfold cutM;rw[HT.sIx_none,HT.sIx_nat];by_cases h:k≤xs.length
 ·rw[Df h,YQ (by rw[Uk];exact Xh _)]
 ·rw[De (by lia),Bs (Xh _),Bs (by lia)]
  simp
theorem Ch{κ:Type} [DecidableEq κ] (k:κ)(v:MV)(j:κ):∀kvs:List (κ×MV),valM (putM kvs k v) j=if j=k then some v else valM kvs j
 |[]=>by
  unfold putM valM;by_cases e:k=j
  ·rw[if_pos e,if_pos e.symm]
  ·rw[if_neg e,if_neg (λz=>e z.symm)]
   rfl
 |(i,u)::r=>by
  unfold putM;by_cases e:i=k
  ·rw[if_pos e];subst e;unfold valM;by_cases f:i=j
   ·rw[if_pos f,if_pos f.symm]
   ·rw[if_neg f,if_neg (λz=>f z.symm),if_neg f]
  ·rw[if_neg e];unfold valM;by_cases f:i=j
   ·rw[if_pos f,if_neg (λz=>e (f.trans z)),if_pos f]
   ·rw[if_neg f,Ch k v j r,if_neg f]
theorem Pg{κ:Type} [DecidableEq κ] (k:κ)(v:MV):∀kvs:List (κ×MV),(putM kvs k v).length≤kvs.length+1
 |[]=>by unfold putM;simp
 |(i,u)::r=>by
  unfold putM;split
  ·simp
  ·have:=Pg k v r;simp;lia
inductive Form where|plus|minus|times|less|same
noncomputable def Form.str:Form->Str
 |.plus=>"plus"|.minus=>"minus"|.times=>"times"|.less=>"less"|.same=>"same"
inductive Tm where
 |num (n:Int)|var (x:Str)|two (f:Form) (a b:Tm)|pick (c a b:Tm)
noncomputable def Tm.depth:Tm->Nat
 |.num _=>1|.var _=>1|.two _ a b=>1+max a.depth b.depth|.pick c a b=>1+max c.depth (max a.depth b.depth)
noncomputable def Tm.size:Tm->Nat
 |.num _=>1|.var _=>1|.two _ a b=>1+(a.size+b.size)|.pick c a b=>1+(c.size+(a.size+b.size))
noncomputable def Tm.reads:Tm->List Str
 |.num _=>[]|.var x=>[x]|.two _ a b=>a.reads++b.reads|.pick c a b=>c.reads++(a.reads++b.reads)
noncomputable def twoV(w:Nat)(l r:Int):Form->Int
 |.plus=>(l+r)%2^w
 |.minus=>(l - r)%2^w
 |.times=>(l*r)%2^w
 |.less=>if l<r then 1 else 0
 |.same=>if l=r then 1 else 0
noncomputable def Tm.val(ρ:Str->Int)(w:Nat):Tm->Int
 |.num n=>n%2^w
 |.var x=>ρ x
 |.two f a b=>twoV w (a.val ρ w) (b.val ρ w) f
 |.pick c a b=>if c.val ρ w≠0 then a.val ρ w else b.val ρ w
theorem AL(w:Nat):(0:Int)<2^w:=Int.pow_pos (by decide)
theorem Zlg{w:Nat}(h:1≤w):(2:Int)≤2^w:=by
 obtain⟨k,rfl⟩:∃k,w=k+1:=⟨w - 1,by lia⟩
 rw[Int.pow_succ];have:=AL k;lia
theorem ZnD{w:Nat}(h:w≤64):(2:Int)^w≤2^64:=by
 have:=Nat.pow_le_pow_right (n:=2) (by decide) h
 have e1:(2:Int)^w=((2^w:Nat):Int):=by rw[Int.natCast_pow];rfl
 have e2:(2:Int)^64=((2^64:Nat):Int):=by decide
 rw[e1,e2];exact Int.ofNat_le.mpr this
theorem AM(x:Int)(w:Nat):0≤x%2^w/\x%2^w<2^w:=⟨Yp _ (Int.ne_of_gt (AL w)),Yx _ (AL w)⟩
theorem twoV_in{w:Nat}(hw:1≤w)(l r:Int)(f:Form):0≤twoV w l r f/\twoV w l r f<2^w:=by
 have:=Zlg hw;cases f
 ·exact AM _ _
 ·exact AM _ _
 ·exact AM _ _
 ·unfold twoV;split<;>lia
 ·unfold twoV;split<;>lia
theorem Tm.val_in{ρ:Str->Int}{w:Nat}(hw:1≤w):∀{T:Tm},(∀x∈T.reads,0≤ρ x/\ρ x<2^w)->0≤T.val ρ w/\T.val ρ w<2^w
 |.num n,_=>AM _ _
 |.var x,h=>h x (by simp[Tm.reads])
 |.two f a b,_=>twoV_in hw _ _ f
 |.pick c a b,h=>by
  unfold Tm.val;split
  ·exact a.val_in hw λx hx=>h x (by simp[Tm.reads,hx])
  ·exact b.val_in hw λx hx=>h x (by simp[Tm.reads,hx])
theorem Tm.depth_pos:∀T:Tm,1≤T.depth
 |.num _=>Xh _
 |.var _=>Xh _
 |.two _ _ _=>Nat.le_add_right _ _
 |.pick _ _ _=>Nat.le_add_right _ _
noncomputable def Tm.mv:Tm->MV
 |.num n=>.tup [.str "num",.int n]
 |.var x=>.tup [.str "var",.str x]
 |.two f a b=>.tup [.str f.str,a.mv,b.mv]
 |.pick c a b=>.tup [.str "pick",c.mv,a.mv,b.mv]
theorem Ph(f:Form):¬f.str="num":=by cases f<;>decide+kernel
theorem Fv(f:Form):¬f.str="var":=by cases f<;>decide+kernel
theorem Zi1(f:Form):¬f.str="pick":=by cases f<;>decide+kernel
inductive Stp where
 |take (f x:Str)|give (f:Str) (T:Tm)|put (x:Str) (T:Tm)|jump (T:Tm) (i:Int)
noncomputable def Stp.mv:Stp->MV
 |.take f x=>.tup [.str "take",.str f,.str x]
 |.give f T=>.tup [.str "give",.str f,T.mv]
 |.put x T=>.tup [.str "put",.str x,T.mv]
 |.jump T i=>.tup [.str "jump",T.mv,.int i]
noncomputable def tmOk(ns:List Str)(T:Tm):Prop:=T.depth≤8/\T.size≤30/\∀x∈T.reads,x∈ns
noncomputable def Stp.ok(ns:List Str)(n:Nat):Stp->Prop
 |.take _ x=>x∈ns
 |.give _ T=>tmOk ns T
 |.put x T=>x∈ns/\tmOk ns T
 |.jump T i=>tmOk ns T/\0≤i/\i≤n
noncomputable def Ci(M:MH)(x:MV)(xs:List MV):Prop:=x=.tup xs\/∃a,x=.ref a/\M a=some (.lst xs)
noncomputable def readsOk(ns:List Str)(kvs:List (Key×MV))(ρ:Str->Int)(w:Nat):Prop:=∀x∈ns,valM kvs (Xf x)=some (.int (ρ x))/\0≤ρ x/\ρ x<2^w
theorem readsOk.tm{ns:List Str}{kvs:List (Key×MV)}{ρ:Str->Int}{w:Nat}(h:readsOk ns kvs ρ w){T:Tm}(o:tmOk ns T):∀x∈T.reads,valM kvs (Xf x)=some (.int (ρ x))/\0≤ρ x/\ρ x<2^w:=λx hx=>h x (o.2.2 x hx)
section
variable{P:Xl}{w:Xe}{K:X5}{mg:Str->Option X0}{base:Heap}{t:Adr}
noncomputable abbrev Uw:SpM:=λvs M Q=>∃k:Nat,vs=[.int k]/\k≤64/\Q (.int (2^k)) M
theorem Fw:MonW Uw:=by walk_at "m"
theorem Fx(T:Txt K mg t):FnOk P w K mg base CX0 1 t.f_two_to t.d_two_to ["exponent"] (liSp K Uw):=by
 refine T.q_two_to.F.okM ZgO (Xs (Φ:=[]) (Xt T) (Xu T) rfl nl0 nl0:Fts P w K mg base 0 JC []) Ea Zic (λvs M Q h=>?_) (λvs M Q h=>?_)
 ·obtain⟨k,rfl,_⟩:=h;rfl
 obtain⟨k,rfl,hk,q⟩:=h;show wSs _ _ _ [some (.int k),none,none] M;delta Ea JB;walk_at "s";delta JA;walk_at "s";refine⟨by lia,by lia,λi σ M'=>M'=M/\∃v,σ=[some (.int k),some (.int (2^i)),v],⟨rfl,_,rfl⟩,λ_ _ _ _=>trivial,?_,?_⟩
 ·rintro i x σ M' hx ⟨rfl,v,rfl⟩;obtain⟨hi,rfl⟩:=AK hx;delta Jz;walk_at "s";exact⟨_,by rw[Int.pow_succ]⟩
 ·rintro σ M' ⟨rfl,v,rfl⟩;delta Jy;walk_at "s";exact q
noncomputable abbrev VN:SpM:=λvs M Q=>∃(w:Nat) (n:Int),vs=[.int w,.int n]/\w≤64/\Q (.int (n%2^w)) M
theorem Pi:MonW VN:=by walk_at "m"
theorem Pj(T:Txt K mg t):FnOk P w K mg base CX0 2 t.f_cut t.d_cut ["width","number"] (liSp K VN):=by
 refine T.q_cut.F.okM ZmY (Xs (Φ:=[("two_to",Uw)]) (Xt T) (Xu T) rfl (fMc ⟨Fw,nl0⟩) (fMc ⟨⟨_,_,_,(FnOk.mono (Fx T) (by decide)),T.q_two_to.m,T.q_two_to.F.kp,T.q_two_to.b⟩,nl0⟩):Fts P w K mg base 1 JG [("two_to",Uw)]) Ec Zox (fun vs M Q h=>?_) (fun vs M Q h=>?_)
 ·obtain⟨k,n,rfl,_⟩:=h;rfl
 obtain⟨w,n,rfl,hw,q⟩:=h;show wSs _ _ _ [some (.int w),some (.int n)] M;delta Ec JF;walk_at "s";exact⟨w,rfl,hw,AL w,q⟩
noncomputable abbrev Cj:SpM:=λvs M Q=>∃(f:Form) (l r:Int) (w:Nat),vs=[.str f.str,.int l,.int r,.int w]/\w≤64/\(-(2^64)<l/\l<2^64)/\Q (.int (twoV w l r f)) M
theorem Z6q:MonW Cj:=by walk_at "m"
theorem Z9P(T:Txt K mg t):FnOk P w K mg base CX0 3 t.f_worth_of_two t.d_worth_of_two ["form","left","right","width"] (liSp K Cj):=by
 refine T.q_worth_of_two.F.okM Z9D (Xs (Φ:=[("cut",VN)]) (Xt T) (Xu T) rfl (fMc ⟨Pi,nl0⟩) (fMc ⟨⟨_,_,_,(FnOk.mono (Pj T) (by decide)),T.q_cut.m,T.q_cut.F.kp,T.q_cut.b⟩,nl0⟩):Fts P w K mg base 2 K6 [("cut",VN)]) El Zay (fun vs M Q h=>?_) (fun vs M Q h=>?_)
 ·obtain⟨f,l,r,w,rfl,_⟩:=h;rfl
 obtain⟨f,l,r,w,rfl,hw,hl,q⟩:=h;show wSs _ _ _ [some (.str f.str),some (.int l),some (.int r),some (.int w)] M;delta El K5;walk_at "s";cases f with
 |plus=>
  rw[if_pos (by rfl),K4]
  walk_at "s";exact⟨w,_,rfl,hw,q⟩
 |minus=>
  rw[if_neg (by decide+kernel),AB]
  walk_at "s";rw[if_pos (by rfl),K3]
  walk_at "s";exact⟨w,_,rfl,hw,q⟩
 |times=>
  rw[if_neg (by decide+kernel),AB]
  walk_at "s";rw[if_neg (by decide+kernel),Cd]
  walk_at "s";rw[if_pos (by rfl),K2]
  walk_at "s";exact⟨.inl hl,w,_,rfl,hw,q⟩
 |less=>
  rw[if_neg (by decide+kernel),AB]
  walk_at "s";rw[if_neg (by decide+kernel),Cd]
  walk_at "s";rw[if_neg (by decide+kernel),Ek]
  walk_at "s";rw[if_pos (by rfl),K0]
  walk_at "s";unfold twoV at q;split<;>simp_all
 |same=>
  rw[if_neg (by decide+kernel),AB]
  walk_at "s";rw[if_neg (by decide+kernel),Cd]
  walk_at "s";rw[if_neg (by decide+kernel),Ek]
  walk_at "s";rw[if_neg (by decide+kernel),JZ]
  walk_at "s";unfold twoV at q;split<;>simp_all
noncomputable abbrev YU(n:Nat):SpM:=λvs M Q=>∃(T:Tm) (w:Nat) (d:Addr) (kvs:List (Key×MV)) (ρ:Str->Int),vs=[T.mv,.int w,.ref d]/\T.depth≤n/\1≤w/\w≤64/\M d=some (.dic kvs)/\
 (∀x∈T.reads,valM kvs (Xf x)=some (.int (ρ x))/\0≤ρ x/\ρ x<2^w)/\Q (.int (T.val ρ w)) M
theorem AN(n:Nat):MonW (YU n):=by walk_at "m"
theorem AO(T:Txt K mg t):∀n:Nat,FnOk P w K mg base CX0 (n+3) t.f_worth t.d_worth ["T","width","words"] (liSp K (YU n))
 |0=>by
  have no:∀vs M Q,¬YU 0 vs M Q:=λvs M Q h=>by
   obtain⟨T,w,d,kvs,ρ,_,h0,_⟩:=h;have:=T.depth_pos;lia
  exact⟨λvs H Q E ⟨ms,M,r,rh,h⟩=>absurd h (no _ _ _),λA outer s H args us vs Q E _ _ _ _ ⟨ms,M,r,rh,h⟩=>absurd h (no _ _ _)⟩
 |n+1=>by
  have ih:=AO T n;refine T.q_worth.F.okM ZiV (Xs (Φ:=[("cut",VN),("worth",(YU n)),("worth_of_two",Cj)]) (Xt T) (Xu T) rfl (fMc ⟨Pi,(fMc ⟨(AN _),(fMc ⟨Z6q,nl0⟩)⟩)⟩) (fMc ⟨⟨_,_,_,FnOk.mono (Pj T) (by lia),T.q_cut.m,T.q_cut.F.kp,T.q_cut.b⟩,(fMc ⟨⟨_,_,_,ih,T.q_worth.m,T.q_worth.F.kp,T.q_worth.b⟩,(fMc ⟨⟨_,_,_,FnOk.mono (Z9P T) (by lia),T.q_worth_of_two.m,T.q_worth_of_two.F.kp,T.q_worth_of_two.b⟩,nl0⟩)⟩)⟩):Fts P w K mg base (n+3) Kc [("cut",VN),("worth",(YU n)),("worth_of_two",Cj)]) Eo ZjG (fun vs M Q h=>?_) (fun vs M Q h=>?_)
  ·obtain⟨T,w,d,kvs,ρ,rfl,_⟩:=h;rfl
  obtain⟨U,w,d,kvs,ρ,rfl,hn,hw1,hw,hd,hr,q⟩:=h;show wSs _ _ _ [some U.mv,some (.int w),some (.ref d),none] M;have p64:=ZnD hw;delta Eo Kb;cases U with
  |num m=>
   simp only[Tm.mv];walk_at "s";delta Ka;walk_at "s";exact⟨w,m,rfl,hw,q⟩
  |var x=>
   have hv:=(hr x (by simp[Tm.reads])).1
   simp only[Tm.mv];walk_at "s";delta Ce;walk_at "s";delta K9;walk_at "s";simp only[hd];walk_at "s";exact⟨_,hv,q⟩
  |two f l r=>
   have hdl:l.depth≤n:=by unfold Tm.depth at hn;lia
   have hdr:r.depth≤n:=by unfold Tm.depth at hn;lia
   have hrl:∀x∈l.reads,valM kvs (Xf x)=some (.int (ρ x))/\0≤ρ x/\ρ x<2^w:=λx hx=>hr x (by simp[Tm.reads,hx])
   have hrr:∀x∈r.reads,valM kvs (Xf x)=some (.int (ρ x))/\0≤ρ x/\ρ x<2^w:=λx hx=>hr x (by simp[Tm.reads,hx])
   have inl:=l.val_in hw1 λx hx=>(hrl x hx).2;simp only[Tm.mv];walk_at "s";rw[if_neg (Ph f),Ce];walk_at "s";rw[if_neg (Fv f),En];walk_at "s";refine⟨l,w,d,kvs,ρ,rfl,hdl,hw1,hw,hd,hrl,?_⟩;delta Em;walk_at "s";rw[if_neg (Zi1 f),K7];walk_at "s";exact⟨r,w,d,kvs,ρ,rfl,hdr,hw1,hw,hd,hrr,f,_,_,w,rfl,hw,⟨by lia,by lia⟩,q⟩
  |pick c l r=>
   have hdc:c.depth≤n:=by unfold Tm.depth at hn;lia
   have hdl:l.depth≤n:=by unfold Tm.depth at hn;lia
   have hdr:r.depth≤n:=by unfold Tm.depth at hn;lia
   have hrc:∀x∈c.reads,valM kvs (Xf x)=some (.int (ρ x))/\0≤ρ x/\ρ x<2^w:=λx hx=>hr x (by simp[Tm.reads,hx])
   have hrl:∀x∈l.reads,valM kvs (Xf x)=some (.int (ρ x))/\0≤ρ x/\ρ x<2^w:=λx hx=>hr x (by simp[Tm.reads,hx])
   have hrr:∀x∈r.reads,valM kvs (Xf x)=some (.int (ρ x))/\0≤ρ x/\ρ x<2^w:=λx hx=>hr x (by simp[Tm.reads,hx])
   simp only[Tm.mv];walk_at "s";delta Ce;walk_at "s";delta En;walk_at "s";refine⟨c,w,d,kvs,ρ,rfl,hdc,hw1,hw,hd,hrc,?_⟩;delta Em;walk_at "s";delta K8;walk_at "s";refine Y8 (λh0=>?_) (λh0=>?_)
   ·have e:Tm.val ρ w (.pick c l r)=l.val ρ w:=if_pos h0;rw[e]at q;exact⟨l,w,d,kvs,ρ,rfl,hdl,hw1,hw,hd,hrl,q⟩
   ·have e:Tm.val ρ w (.pick c l r)=r.val ρ w:=if_neg h0;rw[e]at q;exact⟨r,w,d,kvs,ρ,rfl,hdr,hw1,hw,hd,hrr,q⟩
noncomputable def dueM(ss:List Stp)(ρ:Str->Int)(w:Nat)(i:Nat):MV:=match ss[i]? with
 |none=>.non
 |some (.take f _)=>.tup [.str "take",.str f]
 |some (.give f T)=>.tup [.str "give",.str f,.int (T.val ρ w)]
 |some _=>.tup [.str "own"]
noncomputable abbrev Ck:SpM:=λvs M Q=>∃(x:MV) (pw:Addr) (ss:List Stp) (i w:Nat) (kvs:List (Key×MV)) (ρ:Str->Int) (ns:List Str),vs=[.int w,x,.int i,.ref pw]/\Ci M x (ss.map Stp.mv)/\(∀s∈ss,s.ok ns ss.length)/\i≤ss.length/\1≤w/\w≤64/\M pw=some (.dic kvs)/\readsOk ns kvs ρ w/\
 Q (dueM ss ρ w i) M
theorem Zen:MonW Ck:=by walk_at "m"
theorem Zlw(T:Txt K mg t):FnOk P w K mg base CX0 50 t.f_wish t.d_wish ["width","steps","number","words"] (liSp K Ck):=by
 refine T.q_wish.F.okM ZkX (Xs (Φ:=[("worth",(YU 40))]) (Xt T) (Xu T) rfl (fMc ⟨(AN _),nl0⟩) (fMc ⟨⟨_,_,_,FnOk.mono (AO T 40) (by decide),T.q_worth.m,T.q_worth.F.kp,T.q_worth.b⟩,nl0⟩):Fts P w K mg base 49 Kg [("worth",(YU 40))]) Eu Zmm (fun vs M Q h=>?_) (fun vs M Q h=>?_)
 ·obtain⟨_,_,_,_,_,_,_,_,rfl,_⟩:=h;rfl
 obtain⟨x,pw,ss,i,w,kvs,ρ,ns,rfl,hx,hss,hi,hw1,hw2,hpw,hr,q⟩:=h;show wSs _ _ _ [some (.int w),some x,some (.int i),some (.ref pw),none] M;delta Eu Kf;have len:∀R:Prop,R->R:=λ_ h=>h;have rest:∀hi':i<ss.length,wSs [("worth",YU 40)] Er {nx:=fun x M'=>Q MV.non M',rt:=Q} [some (.int w),some x,some (.int i),some (.ref pw),some ss[i].mv] M:=by
  intro hi';have ok:=hss ss[i] (XY _);have ed:dueM ss ρ w i=dueM [ss[i]] ρ w 0:=by unfold dueM;rw[X6 hi'];rfl
  rw[ed]at q;obtain⟨s,hs⟩:∃s,ss[i]=s:=⟨_,rfl⟩;rw[hs]at ok q;rw[hs];delta Er;cases s with
  |take f x=>
   simp only[Stp.mv];walk_at "s";delta Ke;walk_at "s";exact q
  |give f U=>
   simp only[Stp.mv];walk_at "s";delta Cf;walk_at "s";delta Kd;walk_at "s";exact⟨U,w,pw,kvs,ρ,rfl,XV ok.1 (by decide),hw1,hw2,hpw,hr.tm ok,q⟩
  |put x U=>
   simp only[Stp.mv];walk_at "s";delta Cf;walk_at "s";delta Ep;walk_at "s";exact q
  |jump U j=>
   simp only[Stp.mv];walk_at "s";delta Cf;walk_at "s";delta Ep;walk_at "s";exact q
 have eN:¬i<ss.length->dueM ss ρ w i=.non:=λc=>by unfold dueM;rw[CP.mpr (by lia)]
 rcases hx with rfl|⟨ps,rfl,hps⟩
 ·walk_at "s";rw[X2];refine Y8 (λc=>?_) (λc=>?_)
  ·delta Et;walk_at "s";rw[<- eN (by lia)]
   exact q
  have hi':i<ss.length:=by lia
  delta Es;walk_at "s";exact⟨_,XH (by rw[Xg,X6 hi'];rfl),rest hi'⟩
 ·repeat (first|walk_at "s"|simp only[hps])
  rw[X2];refine Y8 (λc=>?_) (λc=>?_)
  ·delta Et;walk_at "s";rw[<- eN (by lia)]
   exact q
  have hi':i<ss.length:=by lia
  delta Es
  repeat (first|walk_at "s"|simp only[hps])
  exact⟨_,XH (by rw[Xg,X6 hi'];rfl),rest hi'⟩
noncomputable def Ya(s:Stp)(ρ:Str->Int)(w i:Nat):Int:=match s with
 |.jump T j=>if T.val ρ w≠0 then j else(i:Int)+1
 |_=>(i:Int)+1
noncomputable def Ue(s:Stp)(kvs:List (Key×MV))(ρ:Str->Int)(w:Nat)(wd:MV):List (Key×MV):=match s with
 |.take _ x=>putM kvs (Xf x) wd
 |.put x T=>putM kvs (Xf x) (.int (T.val ρ w))
 |_=>kvs
noncomputable abbrev Cl:SpM:=λvs M Q=>∃(x:MV) (pw:Addr) (ss:List Stp) (i w:Nat) (kvs:List (Key×MV)) (ρ:Str->Int) (ns:List Str) (s:Stp),vs=[.int w,x,.int i,.ref pw]/\Ci M x (ss.map Stp.mv)/\ss[i]?=some s/\s.ok ns ss.length/\1≤w/\w≤64/\M pw=some (.dic kvs)/\readsOk ns kvs ρ w/\
 Q (.int (Ya s ρ w i)) M
theorem Z6r:MonW Cl:=by walk_at "m"
theorem Pk{M:MH}{x:MV}{ss:List Stp}{i:Nat}{s:Stp}{Q:QM}(hx:Ci M x (ss.map Stp.mv))(hs:ss[i]?=some s) (q:Q s.mv M):wIx x (.int i) M Q:=by
 have hat:atI (ss.map Stp.mv) (i:Int)=some s.mv:=XH (by rw[Xg,hs];rfl)
 rcases hx with rfl|⟨a,rfl,h⟩
 ·rw[Jq];exact⟨_,hat,q⟩
 ·rw[Jo,h,Jp];exact⟨_,hat,q⟩
theorem Z9S(T:Txt K mg t):FnOk P w K mg base CX0 50 t.f_number_after t.d_number_after ["width","steps","number","words"] (liSp K Cl):=by
 refine T.q_number_after.F.okM Z9G (Xs (Φ:=[("worth",(YU 40))]) (Xt T) (Xu T) rfl (fMc ⟨(AN _),nl0⟩) (fMc ⟨⟨_,_,_,FnOk.mono (AO T 40) (by decide),T.q_worth.m,T.q_worth.F.kp,T.q_worth.b⟩,nl0⟩):Fts P w K mg base 49 Kk [("worth",(YU 40))]) Ev ZaB (fun vs M Q h=>?_) (fun vs M Q h=>?_)
 ·obtain⟨_,_,_,_,_,_,_,_,_,rfl,_⟩:=h;rfl
 obtain⟨x,pw,ss,i,w,kvs,ρ,ns,s,rfl,hx,hs,ok,hw1,hw2,hpw,hr,q⟩:=h;show wSs _ _ _ [some (.int w),some x,some (.int i),some (.ref pw),none] M;delta Ev Kj;walk_at "s";refine Pk hx hs ?_;delta Ki;cases s with
 |take f x=>
  simp only[Stp.mv];walk_at "s";delta AC;walk_at "s";exact q
 |give f U=>
  simp only[Stp.mv];walk_at "s";delta AC;walk_at "s";exact q
 |put x U=>
  simp only[Stp.mv];walk_at "s";delta AC;walk_at "s";exact q
 |jump U j=>
  simp only[Stp.mv];walk_at "s";refine⟨U,w,pw,kvs,ρ,rfl,XV ok.1.1 (by decide),hw1,hw2,hpw,hr.tm ok.1,?_⟩
  walk_at "s";refine Y8 (λc=>?_) (λc=>?_)
  ·have e:Ya (.jump U j) ρ w i=j:=if_pos c;rw[e]at q;delta Kh;walk_at "s";exact q
  ·have e:Ya (.jump U j) ρ w i=(i:Int)+1:=if_neg c;rw[e]at q;delta AC;walk_at "s";exact q
noncomputable abbrev Cm:SpM:=λvs M Q=>∃(pw:Addr) (w:Nat) (kvs:List (Key×MV)) (ρ:Str->Int) (ns:List Str) (s:Stp) (k:Nat) (wd:MV),vs=[.int w,s.mv,.ref pw,wd]/\s.ok ns k/\1≤w/\w≤64/\M pw=some (.dic kvs)/\kvs.length≤1000/\readsOk ns kvs ρ w/\
 ∀p,M p=none->Q (.ref p) (updM M p (.dic (Ue s kvs ρ w wd)))
theorem Z6U:MonW Cm:=by walk_at "m"
theorem ZaS(T:Txt K mg t):FnOk P w K mg base CX0 50 t.f_words_after t.d_words_after ["width","step","words","word"] (liSp K Cm):=by
 refine T.q_words_after.F.okM ZaN (Xs (Φ:=[("worth",(YU 40))]) (Xt T) (Xu T) rfl (fMc ⟨(AN _),nl0⟩) (fMc ⟨⟨_,_,_,FnOk.mono (AO T 40) (by decide),T.q_worth.m,T.q_worth.F.kp,T.q_worth.b⟩,nl0⟩):Fts P w K mg base 49 Kq [("worth",(YU 40))]) Ew Zb7 (fun vs M Q h=>?_) (fun vs M Q h=>?_)
 ·obtain⟨_,_,_,_,_,_,_,_,rfl,_⟩:=h;rfl
 obtain⟨pw,w,kvs,ρ,ns,s,k,wd,rfl,ok,hw1,hw2,hpw,hkl,hr,q⟩:=h;show wSs _ _ _ [some (.int w),some s.mv,some (.ref pw),some wd,none] M;delta Ew Ko
 repeat (first|walk_at "s"|simp only[hpw])
 intro p hp;have hpw2:=SameM.new hp (.dic kvs) _ _ hpw;have hp2:updM M p (.dic kvs) p=some (.dic kvs):=Xb;have q:=q p hp;delta Kn;cases s with
 |take f x=>
  simp only[Stp.mv];walk_at "s";delta Km;walk_at "s";refine⟨by lia,?_⟩
  rw[C3];delta AE;walk_at "s";delta AD;walk_at "s";exact q
 |give f U=>
  simp only[Stp.mv];walk_at "s";delta AE;walk_at "s";delta AD;walk_at "s";exact q
 |put x U=>
  simp only[Stp.mv];walk_at "s";delta AE;walk_at "s";delta Kl;walk_at "s";refine⟨U,w,pw,kvs,ρ,rfl,XV ok.2.1 (by decide),hw1,hw2,hpw2,hr.tm ok.2,?_⟩
  walk_at "s";refine⟨by lia,?_⟩
  rw[C3];delta AD;walk_at "s";exact q
 |jump U j=>
  simp only[Stp.mv];walk_at "s";delta AE;walk_at "s";delta AD;walk_at "s";exact q
noncomputable abbrev AQ:SpM:=λvs M Q=>∃(x:MV) (pw:Addr) (ss:List Stp) (i w:Nat) (kvs:List (Key×MV)) (ρ:Str->Int) (ns:List Str) (s:Stp) (wd:MV),vs=[.int w,x,.int i,.ref pw,wd]/\Ci M x (ss.map Stp.mv)/\ss[i]?=some s/\s.ok ns ss.length/\1≤w/\w≤64/\M pw=some (.dic kvs)/\kvs.length≤1000/\readsOk ns kvs ρ w/\
 ∀p,M p=none->Q (.tup [.int (Ya s ρ w i),.ref p]) (updM M p (.dic (Ue s kvs ρ w wd)))
theorem Zdc:MonW AQ:=by walk_at "m"
theorem Zje(T:Txt K mg t):FnOk P w K mg base CX0 51 t.f_after t.d_after ["width","steps","number","words","word"] (liSp K AQ):=by
 refine T.q_after.F.okM ZiW (Xs (Φ:=[("number_after",Cl),("words_after",Cm)]) (Xt T) (Xu T) rfl (fMc ⟨Z6r,(fMc ⟨Z6U,nl0⟩)⟩) (fMc ⟨⟨_,_,_,FnOk.mono (Z9S T) (by decide),T.q_number_after.m,T.q_number_after.F.kp,T.q_number_after.b⟩,(fMc ⟨⟨_,_,_,FnOk.mono (ZaS T) (by decide),T.q_words_after.m,T.q_words_after.F.kp,T.q_words_after.b⟩,nl0⟩)⟩):Fts P w K mg base 50 Ks [("number_after",Cl),("words_after",Cm)]) Ex ZjH (fun vs M Q h=>?_) (fun vs M Q h=>?_)
 ·obtain⟨_,_,_,_,_,_,_,_,_,_,rfl,_⟩:=h;rfl
 obtain⟨x,pw,ss,i,w,kvs,ρ,ns,s,wd,rfl,hx,hs,ok,hw1,hw2,hpw,hkl,hr,q⟩:=h;show wSs _ _ _ [some (.int w),some x,some (.int i),some (.ref pw),some wd] M;delta Ex Kr;walk_at "s";refine⟨x,pw,ss,i,w,kvs,ρ,ns,s,rfl,hx,hs,ok,hw1,hw2,hpw,hr,?_⟩;refine Pk hx hs ?_;refine⟨pw,w,kvs,ρ,ns,s,_,wd,rfl,ok,hw1,hw2,hpw,hkl,hr,λp hp=>?_⟩;exact q p hp
noncomputable def szs(ts:List Tm):Nat:=(ts.map Tm.size).sum
theorem Pl(a b:List Tm):szs (a++b)=szs a+szs b:=by unfold szs;rw[Y4,List.sum_append]
theorem ZkT(a:Tm):szs [a]=a.size:=by simp[szs]
theorem Pn{T:Tm}:∀{ts:List Tm},T∈ts->T.size≤szs ts
 |U::ts,h=>by
  have e:szs (U::ts)=U.size+szs ts:=by simp[szs]
  rcases Xn.mp h with z|z
  ·subst z;lia
  ·have:=Pn z;lia
noncomputable def Tm.kids:Tm->List Tm
 |.num _=>[]
 |.var _=>[]
 |.two _ a b=>[a,b]
 |.pick c a b=>[c,a,b]
theorem Tm.size_kids:∀T:Tm,T.size=1+szs T.kids
 |.num _=>rfl
 |.var _=>rfl
 |.two _ a b=>by simp[Tm.size,Tm.kids,szs]
 |.pick c a b=>by simp[Tm.size,Tm.kids,szs]
noncomputable def mxd(ts:List Tm):Nat:=ts.foldl (λa T=>max a T.depth) 0
theorem ZlE(ts:List Tm)(T:Tm):mxd (ts++[T])=max (mxd ts) T.depth:=by unfold mxd;rw[CW];rfl
theorem Tm.depth_kids:∀T:Tm,T.depth=mxd T.kids+1
 |.num _=>rfl
 |.var _=>rfl
 |.two _ a b=>by simp[Tm.depth,Tm.kids,mxd];lia
 |.pick c a b=>by simp[Tm.depth,Tm.kids,mxd];lia
theorem Tm.kid_depth{T U:Tm}(h:U∈T.kids):U.depth<T.depth:=by
 cases T<;>simp[Tm.kids]at h
 ·rcases h with rfl|rfl<;>(simp only[Tm.depth];lia)
 ·rcases h with rfl|rfl|rfl<;>(simp only[Tm.depth];lia)
theorem Tm.kid_size{T U:Tm}(h:U∈T.kids):U.size<T.size:=by
 rw[T.size_kids];have:=Pn h;lia
noncomputable def rds(ts:List Tm):List Str:=(ts.map Tm.reads).flatten
theorem Zl0(ts:List Tm)(T:Tm):rds (ts++[T])=rds ts++T.reads:=by simp[rds]
theorem Tm.reads_kids:∀T:Tm,(∀x,T≠.var x)->T.reads=rds T.kids
 |.num _,_=>rfl
 |.var x,h=>absurd rfl (h x)
 |.two _ a b,_=>by simp[Tm.reads,Tm.kids,rds]
 |.pick c a b,_=>by simp[Tm.reads,Tm.kids,rds]
theorem Tm.reads_len:∀T:Tm,T.reads.length≤T.size
 |.num _=>by simp[Tm.reads]
 |.var _=>by simp[Tm.reads,Tm.size]
 |.two _ a b=>by
  have:=a.reads_len;have:=b.reads_len;simp[Tm.reads,Tm.size];lia
 |.pick c a b=>by
  have:=a.reads_len;have:=b.reads_len;have:=c.reads_len;simp[Tm.reads,Tm.size];lia
theorem Po:∀ts:List Tm,(rds ts).length≤szs ts
 |[]=>Xh _
 |T::ts=>by
  have:=Po ts;have:=T.reads_len;have e:szs (T::ts)=T.size+szs ts:=by simp[szs]
  have e2:rds (T::ts)=T.reads++rds ts:=by simp[rds]
  rw[e,e2,Y5];lia
theorem ZiL(ts:List Tm)(i:Nat):szs (ts.take i)≤szs ts:=by
 have e1:=Pl (ts.take i) (ts.drop i);rw[List.take_append_drop]at e1;lia
theorem Pp(x:MV)(xs:List MV):cutM (x::xs) (some 1) none=xs:=by
 have:=Zgb (x::xs) 1
 simpa using this
noncomputable abbrev V3:SpM:=λvs M Q=>∃T:Tm,vs=[T.mv]/\∀p,M p=none->Q (.ref p) (updM M p (.lst (T.kids.map Tm.mv)))
theorem Pq:MonW V3:=by walk_at "m"
theorem Pr(T:Txt K mg t):FnOk P w K mg base CX0 1 t.f_parts_within t.d_parts_within ["T"] (liSp K V3):=by
 refine T.q_parts_within.F.okM Z9F (Xs (Φ:=[]) (Xt T) (Xu T) rfl nl0 nl0:Fts P w K mg base 0 JI []) Ef ZaA (λvs M Q h=>?_) (λvs M Q h=>?_)
 ·obtain⟨T,rfl,_⟩:=h;rfl
 obtain⟨U,rfl,q⟩:=h;show wSs _ _ _ [some U.mv] M;delta Ef JH;cases U with
 |num m=>
  simp only[Tm.mv];walk_at "s";delta Ee;walk_at "s";exact q
 |var x=>
  simp only[Tm.mv];walk_at "s";delta Ee;walk_at "s";exact q
 |two f a b=>
  simp only[Tm.mv];walk_at "s";rw[if_neg (Ph f),if_neg (Fv f),Ed];walk_at "s";rw[Pp];exact q
 |pick c a b=>
  simp only[Tm.mv];walk_at "s";delta Ed;walk_at "s";rw[Pp];exact q
noncomputable abbrev V4(n:Nat):SpM:=λvs M Q=>∃T:Tm,vs=[T.mv]/\T.depth≤n/\∀M',SameM M M'->Q (.tup [.int (T.size:Nat),.int (T.depth:Nat)]) M'
theorem Ps(n:Nat):MonW (V4 n):=by walk_at "m"
theorem Pt(T:Txt K mg t):∀n:Nat,FnOk P w K mg base CX0 (n+8) t.f_size_of t.d_size_of ["T"] (liSp K (V4 n))
 |0=>by
  have no:∀vs M Q,¬V4 0 vs M Q:=λvs M Q h=>by
   obtain⟨T,_,h0,_⟩:=h;have:=T.depth_pos;lia
  exact⟨λvs H Q E ⟨ms,M,r,rh,h⟩=>absurd h (no _ _ _),λA outer s H args us vs Q E _ _ _ _ ⟨ms,M,r,rh,h⟩=>absurd h (no _ _ _)⟩
 |n+1=>by
  have ih:=Pt T n;refine T.q_size_of.F.okM ZfJ (Xs (Φ:=[("parts_within",V3),("size_of",(V4 n))]) (Xt T) (Xu T) rfl (fMc ⟨Pq,(fMc ⟨(Ps _),nl0⟩)⟩) (fMc ⟨⟨_,_,_,FnOk.mono (Pr T) (by lia),T.q_parts_within.m,T.q_parts_within.F.kp,T.q_parts_within.b⟩,(fMc ⟨⟨_,_,_,ih,T.q_size_of.m,T.q_size_of.F.kp,T.q_size_of.b⟩,nl0⟩)⟩):Fts P w K mg base (n+8) JQ [("parts_within",V3),("size_of",(V4 n))]) Eg Zgf (fun vs M Q h=>?_) (fun vs M Q h=>?_)
  ·obtain⟨T,rfl,_⟩:=h;rfl
  obtain⟨U,rfl,hn,q⟩:=h;show wSs _ _ _ [some U.mv,none,none,none,none] M;delta Eg JP;walk_at "s";delta JO;walk_at "s";delta JN;walk_at "s";refine⟨U,rfl,λpk hpk=>?_⟩;have s1:=SameM.new hpk (.lst (U.kids.map Tm.mv));have h1:updM M pk (.lst (U.kids.map Tm.mv)) pk=some (.lst (U.kids.map Tm.mv)):=Xb;generalize updM M pk (.lst (U.kids.map Tm.mv))=M1 at*
  repeat (first|walk_at "s"|simp only[h1])
  obtain⟨J,hJ⟩:∃J:Nat->Sm->MH->Prop,∀i σ M2,J i σ M2↔∃(v3 v4:Option MV),SameM M1 M2/\σ=[some U.mv,some (.int ((1+szs (U.kids.take i):Nat):Int)),some (.int ((mxd (U.kids.take i):Nat):Int)),v3,v4]:=⟨_,λ_ _ _=>XT⟩;refine⟨J,(hJ _ _ _).2 ⟨_,_,SameM.refl _,rfl⟩,λi σ M2 hj=>?_,λi x σ M2 hx hj=>?_,λσ M2 hj=>?_⟩
  ·obtain⟨_,_,s2,_⟩:=(hJ _ _ _).1 hj;exact s2 _ _ h1
  ·obtain⟨v3,v4,s2,rfl⟩:=(hJ _ _ _).1 hj;obtain⟨hi,rfl⟩:=Y9 hx;have hk:=U.kid_depth (XY hi);delta JM;walk_at "s";refine⟨U.kids[i],rfl,by lia,λM3 s3=>?_⟩
   delta JL;walk_at "s";delta JK;walk_at "s";have et:U.kids.take (i+1)=U.kids.take i++[U.kids[i]]:=by rw[ZZ,X6 hi];rfl
   have e1:((1+szs (U.kids.take i):Nat):Int)+(U.kids[i].size:Nat)=((1+szs (U.kids.take (i+1)):Nat):Int):=by rw[et,Pl,ZkT];lia
   have e2:(if((U.kids[i].depth:Nat):Int)>(mxd (U.kids.take i):Nat)then((U.kids[i].depth:Nat):Int)else(mxd (U.kids.take i):Nat))=((mxd (U.kids.take (i+1)):Nat):Int):=by
    rw[et,ZlE];split<;>lia
   rw[e1,e2];exact(hJ _ _ _).2 ⟨_,_,s2.trans s3,rfl⟩
  ·obtain⟨v3,v4,s2,rfl⟩:=(hJ _ _ _).1 hj;have e:U.kids.take (Src.lst pk (U.kids.map Tm.mv)).len=U.kids:=by simp[Src.len]
   rw[e];delta JJ;walk_at "s";have:=q M2 (s1.trans s2);rw[U.size_kids,U.depth_kids]at this;exact this
noncomputable abbrev Ux(n:Nat):SpM:=λvs M Q=>∃T:Tm,vs=[T.mv]/\T.depth≤n/\T.size≤4000/\∀p M',SameM M M'->M p=none->M' p=some (.lst (T.reads.map MV.str))->Q (.ref p) M'
theorem Pu(n:Nat):MonW (Ux n):=by walk_at "m"
theorem Pv(T:Txt K mg t):∀n:Nat,FnOk P w K mg base CX0 (n+8) t.f_names_read t.d_names_read ["T"] (liSp K (Ux n))
 |0=>by
  have no:∀vs M Q,¬Ux 0 vs M Q:=λvs M Q h=>by
   obtain⟨T,_,h0,_⟩:=h;have:=T.depth_pos;lia
  exact⟨λvs H Q E ⟨ms,M,r,rh,h⟩=>absurd h (no _ _ _),λA outer s H args us vs Q E _ _ _ _ ⟨ms,M,r,rh,h⟩=>absurd h (no _ _ _)⟩
 |n+1=>by
  have ih:=Pv T n;refine T.q_names_read.F.okM Zc0 (Xs (Φ:=[("names_read",(Ux n)),("parts_within",V3)]) (Xt T) (Xu T) rfl (fMc ⟨(Pu _),(fMc ⟨Pq,nl0⟩)⟩) (fMc ⟨⟨_,_,_,ih,T.q_names_read.m,T.q_names_read.F.kp,T.q_names_read.b⟩,(fMc ⟨⟨_,_,_,FnOk.mono (Pr T) (by lia),T.q_parts_within.m,T.q_parts_within.F.kp,T.q_parts_within.b⟩,nl0⟩)⟩):Fts P w K mg base (n+8) JW [("names_read",(Ux n)),("parts_within",V3)]) Ei Zcx (fun vs M Q h=>?_) (fun vs M Q h=>?_)
  ·obtain⟨T,rfl,_⟩:=h;rfl
  obtain⟨U,rfl,hn,hz,q⟩:=h;show wSs _ _ _ [some U.mv,none,none] M;have rest:(∀x,U≠.var x)->wSs [("names_read",Ux n),("parts_within",V3)] Eh {nx:=fun x M'=>Q MV.non M',rt:=Q} [some U.mv,none,none] M:=by
   intro hv;delta Eh;walk_at "s";intro p0 hp0;have s0:=SameM.new hp0 (.lst []);have h0:updM M p0 (.lst []) p0=some (.lst ([]:List MV)):=Xb;generalize updM M p0 (.lst [])=M0 at*;delta JT;walk_at "s";refine⟨U,rfl,λpk hpk=>?_⟩;have s1:=SameM.new hpk (.lst (U.kids.map Tm.mv));have h1:updM M0 pk (.lst (U.kids.map Tm.mv)) pk=some (.lst (U.kids.map Tm.mv)):=Xb;have h01:=s1 _ _ h0;have t1:=s0.trans s1;have nk:M pk=none:=s0.free hpk;generalize updM M0 pk (.lst (U.kids.map Tm.mv))=M1 at*
   repeat (first|walk_at "s"|simp only[h1])
   have ne:p0≠pk:=by
    intro e;rw[e]at h0;rw[h0]at hpk;cases hpk
   obtain⟨J,hJ⟩:∃J:Nat->Sm->MH->Prop,∀i σ M2,J i σ M2↔∃(v2:Option MV),SameM M M2/\M2 pk=some (.lst (U.kids.map Tm.mv))/\M2 p0=some (.lst ((rds (U.kids.take i)).map MV.str))/\σ=[some U.mv,some (.ref p0),v2]:=⟨_,λ_ _ _=>XT⟩;refine⟨J,(hJ _ _ _).2 ⟨_,t1,h1,h01,rfl⟩,λi σ M2 hj=>?_,λi x σ M2 hx hj=>?_,λσ M2 hj=>?_⟩
   ·obtain⟨_,_,g1,_⟩:=(hJ _ _ _).1 hj;exact g1
   ·obtain⟨v2,s2,g1,g2,rfl⟩:=(hJ _ _ _).1 hj;obtain⟨hi,rfl⟩:=Y9 hx;have hk:=U.kid_depth (XY hi);have hk2:=U.kid_size (XY hi);delta JS;walk_at "s";simp only[g2];walk_at "s";refine⟨⟨_,rfl⟩,?_⟩;refine⟨U.kids[i],rfl,by lia,by lia,λp3 M3 s3 n3 g3=>?_⟩
    have g1':=s3 _ _ g1;have g2':=s3 _ _ g2;walk_at "s";have l1:=Po (U.kids.take i);have l2:=ZiL U.kids i;have l3:=U.size_kids;have l4:=U.kids[i].reads_len;refine⟨_,g2',_,g3,by simp only[X2];lia,(hJ _ _ _).2 ⟨_,(s2.trans s3).upd hp0 _,by rw[X9 ne.symm];exact g1',?_,rfl⟩⟩
    rw[Xb,ZZ,X6 hi,Dr,Zl0,Y4]
   ·obtain⟨v2,s2,g1,g2,rfl⟩:=(hJ _ _ _).1 hj;have e:U.kids.take (Src.lst pk (U.kids.map Tm.mv)).len=U.kids:=by simp[Src.len]
    rw[e,<- U.reads_kids hv]at g2;delta JR;walk_at "s";exact q p0 M2 s2 hp0 g2
  delta Ei JV;cases U with
  |num m=>
   simp only[Tm.mv];walk_at "s";exact rest (λ_ e=>by cases e)
  |var x=>
   simp only[Tm.mv];walk_at "s";delta JU;walk_at "s";exact λp hp=>q p _ (SameM.new hp _) hp Xb
  |two f a b=>
   simp only[Tm.mv];walk_at "s";rw[if_neg (Fv f)];exact rest (λ_ e=>by cases e)
  |pick c a b=>
   simp only[Tm.mv];walk_at "s";exact rest (λ_ e=>by cases e)
noncomputable abbrev Cn:SpM:=λvs M Q=>∃(T:Tm) (N:List Str),vs=[T.mv]/\T.depth≤40/\T.size≤4000/\(∀x∈T.reads,x∈N)/\N.length<64/\
 ∀p M' (ys:List Str),SameM M M'->M p=none->M' p=some (.lst (ys.map MV.str))->ys.Nodup->(∀y,y∈ys↔y∈T.reads)->PyProof.Rows.sortedS ys=true->Q (.ref p) M'
theorem ZaX:MonW Cn:=by walk_at "m"
theorem ZfS(T:Txt K mg t):FnOk P w K mg base CX0 50 t.f_vars_in t.d_vars_in ["T"] (liSp K Cn):=by
 refine T.q_vars_in.F.okM ZfI (Xs (Φ:=[("names_read",(Ux 40))]) (Xt T) (Xu T) rfl (fMc ⟨(Pu _),nl0⟩) (fMc ⟨⟨_,_,_,FnOk.mono (Pv T 40) (by decide),T.q_names_read.m,T.q_names_read.F.kp,T.q_names_read.b⟩,nl0⟩):Fts P w K mg base 49 JY [("names_read",(Ux 40))]) Ej Zge (fun vs M Q h=>?_) (fun vs M Q h=>?_)
 ·obtain⟨T,N,rfl,_⟩:=h;rfl
 obtain⟨U,N,rfl,hn,hz,hN,hl,q⟩:=h;show wSs _ _ _ [some U.mv] M;delta Ej JX;walk_at "s";refine⟨U,rfl,hn,hz,λp1 M1 s1 n1 h1=>?_⟩;have hb:scanBound=4096:=rfl;have:=U.reads_len;exact⟨p1,U.reads,N,rfl,h1,by lia,hN,hl,λp ys hp a1 a2 a3=>q p _ ys (s1.trans (SameM.new hp _)) (s1.free hp) Xb a1 a2 a3⟩
noncomputable abbrev Fy:SpM:=λ_ _ _=>False
theorem ZlK:MonW Fy:=λ_ h=>h.elim
theorem Zme{P:Xl}{w:Xe}{K:X5}{mg:Str->Option X0}{base:Heap}{k:Nat}{f:Addr}{fd:Xi}{ps:List Str}:FnOk P w K mg base CX0 k f fd ps (liSp K λ_ _ _=>False):=
 ⟨λ_ _ _ _ ⟨_,_,_,_,h⟩=>h.elim,λ_ _ _ _ _ _ _ _ _ _ _ _ _ ⟨_,_,_,_,h⟩=>h.elim⟩
noncomputable def Z2(z:Str):Prop:=1≤z.length/\z.length≤8/\∀c∈z.cps.toList,97≤c/\c≤122
theorem Pw{a b:Nat}:([a]:List Nat)<[b]↔a<b:=by
 rw[List.cons_lt_cons_iff];constructor
 ·rintro(h|⟨_,h⟩)
  ·exact h
  ·exact absurd h (by simp)
 ·exact .inl
theorem Zqg:(("a":Str)).cps.toList=[97]:=by decide+kernel
theorem Zqf:(("z":Str)).cps.toList=[122]:=by decide+kernel
theorem le_a{c:Nat}(h:97≤c):(!decide ((⟨#[c]⟩:Str).cps.toList<(("a":Str)).cps.toList))=true:=by
 rw[Zqg];have:¬((⟨#[c]⟩:Str).cps.toList<[97]):=λz=>by
  have z:([c]:List Nat)<[97]:=z;rw[Pw]at z;lia
 simpa using this
theorem le_z{c:Nat}(h:c≤122):(!decide ((("z":Str)).cps.toList<(⟨#[c]⟩:Str).cps.toList))=true:=by
 rw[Zqf];have:¬([122]<(⟨#[c]⟩:Str).cps.toList):=λz=>by
  have z:([122]:List Nat)<[c]:=z;rw[Pw]at z;lia
 simpa using this
noncomputable abbrev Co:SpM:=λvs M Q=>∃z:Str,vs=[.str z]/\Z2 z/\∀M',SameM M M'->Q (.bl true) M'
theorem ZaY:MonW Co:=by walk_at "m"
theorem ZfT(T:Txt K mg t):FnOk P w K mg base CX0 1 t.f_is_name t.d_is_name ["text"] (liSp K Co):=by
 refine T.q_is_name.F.okM ZfK (Xs (Φ:=[]) (Xt T) (Xu T) rfl nl0 nl0:Fts P w K mg base 0 Ku []) Ey Zgg (λvs M Q h=>?_) (λvs M Q h=>?_)
 ·obtain⟨z,rfl,_⟩:=h;rfl
 obtain⟨z,rfl,⟨g1,g2,g3⟩,q⟩:=h;show wSs _ _ _ [some (.str z)] M;delta Ey Kt;walk_at "s";refine⟨by lia,?_⟩
 rw[if_pos (by lia:(1:Int)≤(z.length:Int))]
 rw[if_pos (by lia:(z.length:Int)≤8)]
 refine Ud z.cps.toList (λc=>.str ⟨#[c]⟩) (λ_=>.bl true) ?_ ?_ (λj f sp h=>by simp at h) λD hD=>?_
 ·walk_at "s";have:z.cps.toList.length=z.length:=XW;exact⟨rfl,by lia,trivial⟩
 ·intro c hc M' s;obtain⟨h1,h2⟩:=g3 c hc;simp only[sCm,Xz,Y6,Yn,Yo,Yi,Yc];walk_at "s";rw[if_pos (by simpa using le_a h1)]
  simpa using le_z h2
 walk_at "s";refine⟨z.cps.toList.map λ_=>true,by rw[Y7];rfl,?_⟩
 have e:((z.cps.toList.map λ_=>true).all id)=true:=by simp
 rw[e];exact q _ (SameM.new hD _)
theorem Px{z:Str}{zs:List Str}:inV (toV (.str z)) ((zs.map MV.str).map toV)=decide (z∈zs):=by
 unfold inV
 induction zs with
 |nil=>simp
 |cons a r ih=>
  rw[Xz,Xz,ZC,ih];have e:eqV (toV (.str a)) (toV (.str z))=decide (a=z):=by
   show(a==z)=decide (a=z);by_cases h:a=z
   ·subst h;simp
   ·simp[h]
  rw[e];by_cases h:a=z
  ·simp[h]
  ·have h':¬z=a:=λw=>h w.symm;simp[h,h']
theorem Py(zs:List Str):(zs.map MV.str).all Yv=true:=by
 rw[List.all_eq_true];intro v hv;obtain⟨x,_,rfl⟩:=XI.mp hv
 rfl
noncomputable abbrev Uy:SpM:=λvs M Q=>∃(z:Str) (e:Addr) (zs:List Str),vs=[.str z,.ref e]/\M e=some (.lst (zs.map MV.str))/\Z2 z/\z∉zs/\∀M',SameM M M'->Q .non M'
theorem Fz:MonW Uy:=by walk_at "m"
theorem FA(T:Txt K mg t):FnOk P w K mg base CX0 2 t.f_refuse_name t.d_refuse_name ["text","earlier"] (liSp K Uy):=by
 refine T.q_refuse_name.F.okM ZaQ (Xs (Φ:=[("is_name",Co)]) (Xt T) (Xu T) rfl (fMc ⟨ZaY,nl0⟩) (fMc ⟨⟨_,_,_,(FnOk.mono (ZfT T) (by decide)),T.q_is_name.m,T.q_is_name.F.kp,T.q_is_name.b⟩,nl0⟩):Fts P w K mg base 1 Kx [("is_name",Co)]) Ez Zba (fun vs M Q h=>?_) (fun vs M Q h=>?_)
 ·obtain⟨z,a,zs,rfl,_⟩:=h;rfl
 obtain⟨z,a,zs,rfl,h1,h2,h3,q⟩:=h;show wSs _ _ _ [some (.str z),some (.ref a)] M;delta Ez Kw;walk_at "s";refine⟨z,rfl,h2,λM1 s1=>?_⟩;walk_at "s";delta Kv;walk_at "s";refine .inl ⟨_,s1 _ _ h1,rfl,Py zs,?_⟩;rw[Px,decide_eq_false h3];walk_at "s";exact q M1 s1
noncomputable def Leaf(v:MV):Prop:=(∃i,v=.int i)\/∃z,v=.str z
noncomputable def FroD:Nat->MH->MV->MV->Prop
 |0,_,v,v'=>Leaf v/\v'=v
 |n+1,M,v,v'=>(Leaf v/\v'=v)\/∃ps:List (MV×MV),(v=.tup (ps.map (·.1))\/∃a,v=.ref a/\M a=some (.lst (ps.map (·.1))))/\v'=.tup (ps.map (·.2))/\ps.length≤1000/\∀p∈ps,FroD n M p.1 p.2
theorem FroD.keep{M M':MH}(s:SameM M M'):∀{n:Nat} {v v':MV},FroD n M v v'->FroD n M' v v'
 |0,_,_,h=>h
 |n+1,v,v',h=>by
  rcases h with h|⟨ps,h1,h2,h3,h4⟩
  ·exact .inl h
  ·refine .inr ⟨ps,?_,h2,h3,λp hp=>(h4 p hp).keep s⟩;rcases h1 with h1|⟨a,e,h1⟩
   ·exact .inl h1
   ·exact .inr ⟨a,e,s _ _ h1⟩
noncomputable abbrev Zd(n:Nat):SpM:=λvs M Q=>∃v v',vs=[v]/\FroD n M v v'/\∀M',SameM M M'->Q v' M'
theorem Cp(n:Nat):MonW (Zd n):=by walk_at "m"
theorem ZeI{n:Nat}(hΦ:∀(j:Nat) f sp,([("frozen",Zd n)]:List (Str×SpM))[j]?=some (f,sp)->MonW sp) {vs:List MV} {M:MH} {Q:QM} (h:Zd (n+1) vs M Q):wSs [("frozen",Zd n)] VM {nx:=fun _ M'=>Q .non M',rt:=Q} (WC 1 vs) M:=by
 obtain⟨v,v',rfl,hf,q⟩:=h;show wSs _ _ _ [some v] M;delta VM EM;rcases hf with⟨l,rfl⟩|⟨ps,h1,rfl,h3,h4⟩
 ·rcases l with⟨i,rfl⟩|⟨z,rfl⟩
  ·walk_at "s";simp only[decide_false,Vl,Yt,if_false,reduceCtorEq,ne_eq,not_false_eq_true,true_and];delta VL;walk_at "s";exact q M (SameM.refl _)
  ·walk_at "s";simp only[decide_false,Vl,Yt,if_false,reduceCtorEq,ne_eq,not_false_eq_true,true_and];delta VL;walk_at "s";exact q M (SameM.refl _)
 ·have go:wSs [("frozen",Zd n)] EL {nx:=fun σ M=>wSs [("frozen",Zd n)] VL {nx:=fun _ M'=>Q .non M',rt:=Q} σ M,rt:=Q} [some v] M:=by
   delta EL;walk_at "s";refine Jr ps (·.1) (·.2) ?_ ?_ hΦ λD M' hD s hd=>?_
   ·rcases h1 with rfl|⟨a,rfl,ha⟩
    ·walk_at "s";exact⟨rfl,by lia,trivial,λ_ _ h=>h⟩
    ·repeat (first|walk_at "s"|simp only[ha])
     exact⟨rfl,by lia,ha,λ_ _ h=>h⟩
   ·intro p hp M' s;simp only[sCm,Xz,Y6,Yn,Yo,Yi,Yc];walk_at "s";exact⟨p.1,p.2,rfl,(h4 p hp).keep s,λM2 s2=>⟨rfl,s2⟩⟩
   repeat (first|walk_at "s"|simp only[hd])
   exact q M' s
  rcases h1 with rfl|⟨a,rfl,ha⟩
  ·walk_at "s";simp only[decide_true,BD,BC,if_true,reduceCtorEq,ne_eq,not_false_eq_true,true_and];exact go
  ·repeat (first|walk_at "s"|simp only[ha])
   simp only[decide_true,BD,BC,if_true,reduceCtorEq,ne_eq,not_false_eq_true,true_and];exact go
theorem Pz(T:Txt K mg t):∀n:Nat,FnOk P w K mg base CX0 (n+8) t.f_frozen t.d_frozen ["value"] (liSp K (Zd n))
 |0=>by
  refine T.q_frozen.F.okM Jt (Xs (Φ:=[("frozen",Fy)]) (Xt T) (Xu T) rfl (fMc ⟨@ZlK,nl0⟩) (fMc ⟨⟨_,_,_,Zme,T.q_frozen.m,T.q_frozen.F.kp,T.q_frozen.b⟩,nl0⟩):Fts P w K mg base 7 EN [("frozen",Fy)]) VM Ly (fun vs M Q h=>?_) (fun vs M Q h=>?_)
  ·obtain⟨v,v',rfl,_⟩:=h;rfl
  obtain⟨v,v',rfl,⟨l,rfl⟩,q⟩:=h;show wSs _ _ _ [some v'] M;delta VM EM;rcases l with⟨i,rfl⟩|⟨z,rfl⟩
  ·walk_at "s";simp only[decide_false,Vl,Yt,if_false,reduceCtorEq,ne_eq,not_false_eq_true,true_and];delta VL;walk_at "s";exact q M (SameM.refl _)
  ·walk_at "s";simp only[decide_false,Vl,Yt,if_false,reduceCtorEq,ne_eq,not_false_eq_true,true_and];delta VL;walk_at "s";exact q M (SameM.refl _)
 |n+1=>by
  have ih:=Pz T n;refine T.q_frozen.F.okM Jt (Xs (Φ:=[("frozen",(Zd n))]) (Xt T) (Xu T) rfl (fMc ⟨(Cp _),nl0⟩) (fMc ⟨⟨_,_,_,ih,T.q_frozen.m,T.q_frozen.F.kp,T.q_frozen.b⟩,nl0⟩):Fts P w K mg base (n+8) EN [("frozen",(Zd n))]) VM Ly (fun vs M Q h=>?_) (fun vs M Q h=>?_)
  ·obtain⟨v,v',rfl,_⟩:=h;rfl
  exact ZeI (Zk (fMc ⟨Cp n,nl0⟩)) h
structure Isl where
 name:Str
 prs:List (Str×Int)
 stps:List Stp
structure Fer where
 name:Str
 giver:Str
 taker:Str
 k:Nat
 st:Nat
structure Wld where
 w:Nat
 isl:List Isl
 fer:List Fer
noncomputable def prV(p:Str×Int):MV:=.tup [.str p.1,.int p.2]
noncomputable def Fer.mv(f:Fer):MV:=.tup [.str f.name,.str f.giver,.str f.taker,.int f.k,.int f.st]
noncomputable def Isl.mv(I:Isl):MV:=.tup [.str I.name,.tup (I.prs.map prV),.tup (I.stps.map Stp.mv)]
noncomputable def Wld.mv(W:Wld):MV:=.tup [.int W.w,.tup (W.isl.map Isl.mv),.tup (W.fer.map Fer.mv)]
noncomputable def Isl.vars(I:Isl):List Str:=I.prs.map (·.1)
noncomputable def Wld.fns(W:Wld):List Str:=W.fer.map (·.name)
noncomputable def Wld.ins(W:Wld):List Str:=W.isl.map (·.name)
noncomputable def TmIn(ns:List Str)(T:Tm):Prop:=T.depth≤8/\T.size≤30/\∀x∈T.reads,x∈ns
noncomputable def Ze(fs:List Str)(ns:List Str)(n:Nat):Stp->Prop
 |.take f x=>f∈fs/\x∈ns
 |.give f T=>f∈fs/\TmIn ns T
 |.put x T=>x∈ns/\TmIn ns T
 |.jump T i=>TmIn ns T/\0≤i/\i≤(n:Int)
structure IslOk (w:Nat) (fs:List Str) (I:Isl):Prop where
 nv:I.prs.length≤6
 ns:I.stps.length≤12
 nd:I.vars.Nodup
 gd:∀x∈I.vars,Z2 x
 wd:∀p∈I.prs,0≤p.2/\p.2<2^w
 st:∀s∈I.stps,Ze fs I.vars I.stps.length s
structure FerOk (is:List Str) (f:Fer):Prop where
 g:f.giver∈is
 t:f.taker∈is
 ne:f.giver≠f.taker
 k3:f.k≤3
 s1:1≤f.st
 s3:f.st≤3
noncomputable def VO(F:List Fer)(z:Str):Stp->Prop
 |.take f _=>∀x∈F,x.name=f->x.taker=z
 |.give f _=>∀x∈F,x.name=f->x.giver=z
 |_=>True
structure Wld.Good (W:Wld):Prop where
 w1:1≤W.w
 w2:W.w≤64
 i5:W.isl.length≤5
 f6:W.fer.length≤6
 fg:∀z∈W.fns,Z2 z
 ig:∀z∈W.ins,Z2 z
 nd:(W.fns++W.ins).Nodup
 io:∀I∈W.isl,IslOk W.w W.fns I
 fo:∀f∈W.fer,FerOk W.ins f
 en:∀I∈W.isl,∀s∈I.stps,VO W.fer I.name s
noncomputable def IslIn(M:MH)(I:Isl)(y:MV):Prop:=∃a b,y=.tup [.str I.name,.ref a,.ref b]/\M a=some (.lst (I.prs.map prV))/\M b=some (.lst (I.stps.map Stp.mv))
theorem IslIn.keep{M M':MH}(s:SameM M M'){I:Isl}{y:MV}(h:IslIn M I y):IslIn M' I y:=by
 obtain⟨a,b,e,h1,h2⟩:=h;exact⟨a,b,e,s _ _ h1,s _ _ h2⟩
noncomputable def IslsIn(M:MH)(Is:List Isl)(ys:List MV):Prop:=ys.length=Is.length/\∀(i:Nat) (I:Isl) (y:MV),Is[i]?=some I->ys[i]?=some y->IslIn M I y
theorem IslsIn.keep{M M':MH}(s:SameM M M'){Is:List Isl}{ys:List MV}(h:IslsIn M Is ys):IslsIn M' Is ys:=⟨h.1,λi z y a b=>(h.2 i z y a b).keep s⟩
theorem IslsIn.mem{M:MH}{Is:List Isl}{ys:List MV}(h:IslsIn M Is ys){y:MV}(hy:y∈ys):∃I∈Is,IslIn M I y:=by
 obtain⟨i,hi,rfl⟩:=Y0 hy;have hi2:i<Is.length:=by rw[<- h.1];exact hi
 exact⟨Is[i],XY hi2,h.2 i _ _ (X6 hi2) (X6 hi)⟩
theorem IslsIn.fst{M:MH}{Is:List Isl}{ys:List MV}(h:IslsIn M Is ys){f:MV->MV}(hf:∀z r,f (.tup (.str z::r))=.str z):ys.map f=(Is.map (·.name)).map MV.str:=by
 apply W6;intro i;rw[Xg,Xg,Xg];by_cases hi:i<ys.length
 ·have hi2:i<Is.length:=by rw[<- h.1];exact hi
  obtain⟨a,b,e,_⟩:=h.2 i _ _ (X6 hi2) (X6 hi);rw[X6 hi2,X6 hi,e];show some (f _)=_;rw[hf];rfl
 ·have hi2:¬i<Is.length:=by rw[<- h.1];exact hi
  rw[Zw (by lia),Zw (by lia)];rfl
noncomputable abbrev VP:SpM:=λvs M Q=>∃i:Int,vs=[.int i]/\Q (.bl true) M
theorem PB:MonW VP:=by walk_at "m"
theorem PC(T:Txt K mg t):FnOk P w K mg base CX0 1 t.f_is_whole t.d_is_whole ["value"] (liSp K VP):=by
 refine T.q_is_whole.F.okM Zef (Xs (Φ:=[]) (Xt T) (Xu T) rfl nl0 nl0:Fts P w K mg base 0 Jv []) E8 ZeQ (λvs M Q h=>?_) (λvs M Q h=>?_)
 ·obtain⟨i,rfl,_⟩:=h;rfl
 obtain⟨i,rfl,q⟩:=h;show wSs _ _ _ [some (.int i)] M;delta E8 Ju;walk_at "s"
 simpa using q
noncomputable abbrev AR:SpM:=λvs M Q=>∃i:Int,vs=[.int i]/\1≤i/\i≤64/\Q (.bl true) M
theorem PD:MonW AR:=by walk_at "m"
theorem Zek(T:Txt K mg t):FnOk P w K mg base CX0 2 t.f_is_width t.d_is_width ["number"] (liSp K AR):=by
 refine T.q_is_width.F.okM Zee (Xs (Φ:=[("is_whole",VP)]) (Xt T) (Xu T) rfl (fMc ⟨PB,nl0⟩) (fMc ⟨⟨_,_,_,(FnOk.mono (PC T) (by decide)),T.q_is_whole.m,T.q_is_whole.F.kp,T.q_is_whole.b⟩,nl0⟩):Fts P w K mg base 1 Jx [("is_whole",VP)]) E9 ZeP (fun vs M Q h=>?_) (fun vs M Q h=>?_)
 ·obtain⟨i,rfl,_⟩:=h;rfl
 obtain⟨i,rfl,h1,h2,q⟩:=h;show wSs _ _ _ [some (.int i)] M;delta E9 Jw;walk_at "s";refine⟨i,rfl,?_⟩;walk_at "s";rw[if_pos h1,decide_eq_true h2];exact q
noncomputable abbrev Cq:SpM:=λvs M Q=>∃(k:Nat) (i:Int),vs=[.int k,.int i]/\k≤64/\0≤i/\i<2^k/\Q (.bl true) M
theorem Zeo:MonW Cq:=by walk_at "m"
theorem Zly(T:Txt K mg t):FnOk P w K mg base CX0 2 t.f_fits t.d_fits ["width","number"] (liSp K Cq):=by
 refine T.q_fits.F.okM ZkZ (Xs (Φ:=[("is_whole",VP),("two_to",Uw)]) (Xt T) (Xu T) rfl (fMc ⟨PB,(fMc ⟨Fw,nl0⟩)⟩) (fMc ⟨⟨_,_,_,(FnOk.mono (PC T) (by decide)),T.q_is_whole.m,T.q_is_whole.F.kp,T.q_is_whole.b⟩,(fMc ⟨⟨_,_,_,(FnOk.mono (Fx T) (by decide)),T.q_two_to.m,T.q_two_to.F.kp,T.q_two_to.b⟩,nl0⟩)⟩):Fts P w K mg base 1 JE [("is_whole",VP),("two_to",Uw)]) Eb Zmo (fun vs M Q h=>?_) (fun vs M Q h=>?_)
 ·obtain⟨k,i,rfl,_⟩:=h;rfl
 obtain⟨k,i,rfl,h1,h2,h3,q⟩:=h;show wSs _ _ _ [some (.int k),some (.int i)] M;delta Eb JD;walk_at "s";refine⟨i,rfl,?_⟩;walk_at "s";rw[if_pos h2];refine⟨k,rfl,h1,?_⟩;walk_at "s";rw[decide_eq_true h3];exact q
noncomputable abbrev Uz:SpM:=λvs M Q=>∃(z:Str) (e:Addr) (zs:List Str),vs=[.str z,.ref e]/\M e=some (.lst (zs.map MV.str))/\z∈zs/\Q .non M
theorem FB:MonW Uz:=by walk_at "m"
theorem FC(T:Txt K mg t):FnOk P w K mg base CX0 1 t.f_refuse_unknown t.d_refuse_unknown ["name","known"] (liSp K Uz):=by
 refine T.q_refuse_unknown.F.okM Z7X (Xs (Φ:=[]) (Xt T) (Xu T) rfl nl0 nl0:Fts P w K mg base 0 Kz []) EA Z8f (λvs M Q h=>?_) (λvs M Q h=>?_)
 ·obtain⟨z,a,zs,rfl,_⟩:=h;rfl
 obtain⟨z,a,zs,rfl,h1,h2,q⟩:=h;show wSs _ _ _ [some (.str z),some (.ref a)] M;delta EA Ky;walk_at "s";refine .inl ⟨_,h1,rfl,Py zs,?_⟩;rw[Px,decide_eq_true h2];walk_at "s";exact q
theorem FD{α:Type} [DecidableEq α] {zs:List α}(nd:zs.Nodup){j:Nat}{z:α}(hz:zs[j]?=some z):z∉zs.take j:=λhm=>by
 obtain⟨hj,rfl⟩:=Xx.mp hz;obtain⟨k,hk,e1⟩:=Y0 hm;have hk2:k<j:=by rw[XL]at hk;lia
 rw[CY]at e1;have:=(List.getElem_inj nd).mp e1;lia
theorem FE{α β:Type}{f:α->β}{zs:List α}{j:Nat}{z:α}(hz:zs[j]?=some z):(zs.take j).map f++[f z]=(zs.take (j+1)).map f:=by
 rw[ZZ,hz,Y4];rfl
noncomputable abbrev AS:SpM:=λvs M Q=>∃(f:Addr) (F:List Fer),vs=[.ref f]/\M f=some (.lst (F.map Fer.mv))/\F.length≤6/\(F.map (·.name)).Nodup/\(∀x∈F,Z2 x.name)/\∀M',SameM M M'->Q .non M'
theorem PF:MonW AS:=by walk_at "m"
theorem Z4q(T:Txt K mg t):FnOk P w K mg base CX0 3 t.f_refuse_ferry_names t.d_refuse_ferry_names ["ferries"] (liSp K AS):=by
 refine T.q_refuse_ferry_names.F.okM Z4h (Xs (Φ:=[("refuse_name",Uy)]) (Xt T) (Xu T) rfl (fMc ⟨Fz,nl0⟩) (fMc ⟨⟨_,_,_,(FnOk.mono (FA T) (by decide)),T.q_refuse_name.m,T.q_refuse_name.F.kp,T.q_refuse_name.b⟩,nl0⟩):Fts P w K mg base 2 KE [("refuse_name",Uy)]) EB Z5b (fun vs M Q h=>?_) (fun vs M Q h=>?_)
 ·obtain⟨f,F,rfl,_⟩:=h;rfl
 obtain⟨f,F,rfl,hf,h6,nd,hg,q⟩:=h;show wSs _ _ _ [some (.ref f),none,none] M;delta EB KD;walk_at "s";intro p hp;have s1:=SameM.new hp (.lst []);have hf1:=s1 _ _ hf;have hp1:updM M p (.lst []) p=some (.lst []):=Xb;have old:∀a o,M a=some o->a≠p:=λa o h=>neM h hp;generalize updM M p _=M1 at*;delta KC
 repeat (first|walk_at "s"|simp only[hf1])
 obtain⟨J,hJ⟩:∃J:Nat->Sm->MH->Prop,∀j σ M',J j σ M'↔SameM M M'/\M' p=some (.lst (((F.map (·.name)).take j).map MV.str))/\∃v,σ=[some (.ref f),some (.ref p),v]:=⟨_,λ_ _ _=>XT⟩;refine⟨J,(hJ _ _ _).mpr ⟨s1,by simpa using hp1,_,rfl⟩,λj σ M' h=>((hJ _ _ _).mp h).1 _ _ hf,?_,?_⟩
 ·rintro j y σ M' hy h;obtain⟨s2,hp2,v,rfl⟩:=(hJ _ _ _).mp h;obtain⟨hj,rfl⟩:=Y9 hy;have hj:j<F.length:=hj;have hz:(F.map (·.name))[j]?=some F[j].name:=by rw[Xg,X6 hj];rfl
  delta KB
  repeat (first|walk_at "s"|simp only[Fer.mv])
  refine⟨F[j].name,p,(F.map (·.name)).take j,rfl,hp2,hg _ (XY hj),FD nd hz,λM3 s3=>?_⟩;have hp3:=s3 _ _ hp2;walk_at "s";delta KA
  repeat (first|walk_at "s"|simp only[Fer.mv,hp3,X2,XL])
  refine⟨⟨_,rfl⟩,by lia,(hJ _ _ _).mpr ⟨λa o h=>by rw[X9 (old a o h)];exact s3 _ _ (s2 _ _ h),?_,_,rfl⟩⟩
  rw[Xb,FE hz]
 ·rintro σ M' h;obtain⟨s2,_⟩:=(hJ _ _ _).mp h;exact q _ s2
noncomputable abbrev AT:SpM:=λvs M Q=>∃(k:Nat) (f:Addr) (ps:List (Str×Int)),vs=[.int k,.ref f]/\M f=some (.lst (ps.map prV))/\k≤64/\ps.length≤6/\(ps.map (·.1)).Nodup/\(∀x∈ps,Z2 x.1/\0≤x.2/\x.2<2^k)/\∀M',SameM M M'->Q .non M'
theorem PH:MonW AT:=by walk_at "m"
theorem Z6p(T:Txt K mg t):FnOk P w K mg base CX0 3 t.f_refuse_variables t.d_refuse_variables ["width","pairs"] (liSp K AT):=by
 refine T.q_refuse_variables.F.okM Z6n (Xs (Φ:=[("fits",Cq),("refuse_name",Uy)]) (Xt T) (Xu T) rfl (fMc ⟨Zeo,(fMc ⟨Fz,nl0⟩)⟩) (fMc ⟨⟨_,_,_,(FnOk.mono (Zly T) (by decide)),T.q_fits.m,T.q_fits.F.kp,T.q_fits.b⟩,(fMc ⟨⟨_,_,_,(FnOk.mono (FA T) (by decide)),T.q_refuse_name.m,T.q_refuse_name.F.kp,T.q_refuse_name.b⟩,nl0⟩)⟩):Fts P w K mg base 2 KL [("fits",Cq),("refuse_name",Uy)]) EC Z6B (fun vs M Q h=>?_) (fun vs M Q h=>?_)
 ·obtain⟨k,f,F,rfl,_⟩:=h;rfl
 obtain⟨k,f,F,rfl,hf,hk,h6,nd,hg,q⟩:=h;show wSs _ _ _ [some (.int k),some (.ref f),none,none,none] M;delta EC KK;walk_at "s";intro p hp;have s1:=SameM.new hp (.lst []);have hf1:=s1 _ _ hf;have hp1:updM M p (.lst []) p=some (.lst []):=Xb;have old:∀a o,M a=some o->a≠p:=λa o h=>neM h hp;generalize updM M p _=M1 at*;delta KJ
 repeat (first|walk_at "s"|simp only[hf1])
 obtain⟨J,hJ⟩:∃J:Nat->Sm->MH->Prop,∀j σ M',J j σ M'↔SameM M M'/\M' p=some (.lst (((F.map (·.1)).take j).map MV.str))/\∃v v',σ=[some (.int k),some (.ref f),some (.ref p),v,v']:=⟨_,λ_ _ _=>XT⟩;refine⟨J,(hJ _ _ _).mpr ⟨s1,by simpa using hp1,_,_,rfl⟩,λj σ M' h=>((hJ _ _ _).mp h).1 _ _ hf,?_,?_⟩
 ·rintro j y σ M' hy h;obtain⟨s2,hp2,v,v',rfl⟩:=(hJ _ _ _).mp h;obtain⟨hj,rfl⟩:=Y9 hy;have hj:j<F.length:=hj;have hz:(F.map (·.1))[j]?=some F[j].1:=by rw[Xg,X6 hj];rfl
  obtain⟨g1,g2,g3⟩:=hg _ (XY hj);delta KI
  repeat (first|walk_at "s"|simp only[prV])
  delta KH;walk_at "s";refine⟨F[j].1,p,(F.map (·.1)).take j,rfl,hp2,g1,FD nd hz,λM3 s3=>?_⟩;have hp3:=s3 _ _ hp2;walk_at "s";delta KG
  repeat (first|walk_at "s"|simp only[hp3,X2,XL])
  refine⟨⟨_,rfl⟩,by lia,?_⟩
  delta KF
  repeat (first|walk_at "s"|simp only[prV])
  refine⟨k,F[j].2,rfl,hk,g2,g3,?_⟩;walk_at "s";refine(hJ _ _ _).mpr ⟨λa o h=>by rw[X9 (old a o h)];exact s3 _ _ (s2 _ _ h),?_,_,_,rfl⟩
  rw[Xb,FE hz]
 ·rintro σ M' h;obtain⟨s2,_⟩:=(hJ _ _ _).mp h;exact q _ s2
noncomputable abbrev Cr:SpM:=λvs M Q=>∃(U:Tm) (e:Addr) (ns:List Str),vs=[U.mv,.ref e]/\M e=some (.lst (ns.map MV.str))/\ns.length≤6/\TmIn ns U/\∀M',SameM M M'->Q .non M'
theorem Z6V:MonW Cr:=by walk_at "m"
theorem ZaT(T:Txt K mg t):FnOk P w K mg base CX0 51 t.f_refuse_term t.d_refuse_term ["T","known"] (liSp K Cr):=by
 refine T.q_refuse_term.F.okM ZaO (Xs (Φ:=[("refuse_unknown",Uz),("size_of",(V4 8)),("vars_in",Cn)]) (Xt T) (Xu T) rfl (fMc ⟨FB,(fMc ⟨(Ps _),(fMc ⟨ZaX,nl0⟩)⟩)⟩) (fMc ⟨⟨_,_,_,FnOk.mono (FC T) (by decide),T.q_refuse_unknown.m,T.q_refuse_unknown.F.kp,T.q_refuse_unknown.b⟩,(fMc ⟨⟨_,_,_,FnOk.mono (Pt T 8) (by decide),T.q_size_of.m,T.q_size_of.F.kp,T.q_size_of.b⟩,(fMc ⟨⟨_,_,_,FnOk.mono (ZfS T) (by decide),T.q_vars_in.m,T.q_vars_in.F.kp,T.q_vars_in.b⟩,nl0⟩)⟩)⟩):Fts P w K mg base 50 KQ [("refuse_unknown",Uz),("size_of",(V4 8)),("vars_in",Cn)]) ED Zb8 (fun vs M Q h=>?_) (fun vs M Q h=>?_)
 ·obtain⟨U,a,ns,rfl,_⟩:=h;rfl
 obtain⟨U,a,ns,rfl,ha,h6,⟨hd,hs,hr⟩,q⟩:=h;show wSs _ _ _ [some U.mv,some (.ref a),none,none] M;delta ED KP;walk_at "s";refine⟨U,rfl,hd,λM1 s1=>?_⟩;walk_at "s";delta KO;walk_at "s";rw[if_neg (by lia:¬((U.size:Nat):Int)>30)]
 rw[if_neg (by lia:¬((U.depth:Nat):Int)>8)]
 delta KN;walk_at "s";refine⟨U,ns,rfl,by lia,by lia,hr,by lia,λp M2 ys s2 hp hp2 nd hm _=>?_⟩
 repeat (first|walk_at "s"|simp only[hp2])
 obtain⟨J,hJ⟩:∃J:Nat->Sm->MH->Prop,∀j σ M',J j σ M'↔M'=M2/\∃v v',σ=[some U.mv,some (.ref a),v,v']:=⟨_,λ_ _ _=>XT⟩;refine⟨J,(hJ _ _ _).mpr ⟨rfl,_,_,rfl⟩,λj σ M' h=>by rw[((hJ _ _ _).mp h).1];exact hp2,?_,?_⟩
 ·rintro j y σ M' hy h;obtain⟨rfl,v,v',rfl⟩:=(hJ _ _ _).mp h;obtain⟨hj,rfl⟩:=Y9 hy;delta KM;walk_at "s";refine⟨ys[j],a,ns,rfl,s2 _ _ (s1 _ _ ha),hr _ ((hm _).mp (XY hj)),?_⟩;walk_at "s";exact(hJ _ _ _).mpr ⟨rfl,_,_,rfl⟩
 ·rintro σ M' h;obtain⟨rfl,_⟩:=(hJ _ _ _).mp h;exact q _ (s1.trans s2)
theorem FF{f x:Str}:(Stp.take f x).mv=.tup [.str "take",.str f,.str x]:=rfl
theorem FG{f:Str}{U:Tm}:(Stp.give f U).mv=.tup [.str "give",.str f,U.mv]:=rfl
theorem FH{f:Str}{U:Tm}:(Stp.put f U).mv=.tup [.str "put",.str f,U.mv]:=rfl
theorem FI{i:Int}{U:Tm}:(Stp.jump U i).mv=.tup [.str "jump",U.mv,.int i]:=rfl
noncomputable abbrev AU:SpM:=λvs M Q=>∃(S:Stp) (a b:Addr) (ns fs:List Str) (n:Nat),vs=[S.mv,.ref a,.int n,.ref b]/\M a=some (.lst (ns.map MV.str))/\M b=some (.lst (fs.map MV.str))/\ns.length≤6/\Ze fs ns n S/\∀M',SameM M M'->Q .non M'
theorem PJ:MonW AU:=by walk_at "m"
theorem ZaU(T:Txt K mg t):FnOk P w K mg base CX0 52 t.f_refuse_step t.d_refuse_step ["step","known","count","ferry_names"] (liSp K AU):=by
 refine T.q_refuse_step.F.okM ZaP (Xs (Φ:=[("refuse_term",Cr),("refuse_unknown",Uz)]) (Xt T) (Xu T) rfl (fMc ⟨Z6V,(fMc ⟨FB,nl0⟩)⟩) (fMc ⟨⟨_,_,_,(FnOk.mono (ZaT T) (by decide)),T.q_refuse_term.m,T.q_refuse_term.F.kp,T.q_refuse_term.b⟩,(fMc ⟨⟨_,_,_,(FnOk.mono (FC T) (by decide)),T.q_refuse_unknown.m,T.q_refuse_unknown.F.kp,T.q_refuse_unknown.b⟩,nl0⟩)⟩):Fts P w K mg base 51 L4 [("refuse_term",Cr),("refuse_unknown",Uz)]) EF Zb9 (fun vs M Q h=>?_) (fun vs M Q h=>?_)
 ·obtain⟨S,a,b,ns,fs,n,rfl,_⟩:=h;rfl
 obtain⟨S,a,b,ns,fs,n,rfl,ha,hb,h6,hS,q⟩:=h;show wSs _ _ _ [some S.mv,some (.ref a),some (.int n),some (.ref b)] M;delta EF L3;cases S with
 |take f x=>
  obtain⟨h1,h2⟩:=hS
  repeat (first|walk_at "s"|simp only[FF])
  delta KS;walk_at "s";refine⟨f,b,fs,rfl,hb,h1,?_⟩;walk_at "s";delta KR;walk_at "s";refine⟨x,a,ns,rfl,ha,h2,?_⟩;walk_at "s";exact q _ (SameM.refl _)
 |give f U=>
  obtain⟨h1,h2⟩:=hS
  repeat (first|walk_at "s"|simp only[FG])
  delta Cg;walk_at "s";delta KW;walk_at "s";refine⟨f,b,fs,rfl,hb,h1,?_⟩;walk_at "s";delta KU;walk_at "s";refine⟨U,a,ns,rfl,ha,h6,h2,λM1 s1=>?_⟩;walk_at "s";exact q _ s1
 |put f U=>
  obtain⟨h1,h2⟩:=hS
  repeat (first|walk_at "s"|simp only[FH])
  delta Cg;walk_at "s";delta EE;walk_at "s";delta KZ;walk_at "s";refine⟨f,a,ns,rfl,ha,h1,?_⟩;walk_at "s";delta KY;walk_at "s";refine⟨U,a,ns,rfl,ha,h6,h2,λM1 s1=>?_⟩;walk_at "s";exact q _ s1
 |jump U i=>
  obtain⟨h1,h2,h3⟩:=hS
  repeat (first|walk_at "s"|simp only[FI])
  delta Cg;walk_at "s";delta EE;walk_at "s";delta L1;walk_at "s";refine⟨U,a,ns,rfl,ha,h6,h1,λM1 s1=>?_⟩;walk_at "s";delta L0;walk_at "s";rw[if_pos h2];rw[if_neg (by lia:¬¬i≤(n:Int))]
  exact q _ s1
noncomputable abbrev Cs:SpM:=λvs M Q=>∃(k:Nat) (I:Isl) (y:MV) (b:Addr) (fs:List Str),vs=[.int k,y,.ref b]/\k≤64/\IslIn M I y/\M b=some (.lst (fs.map MV.str))/\IslOk k fs I/\∀M',SameM M M'->Q .non M'
theorem Z5s:MonW Cs:=by walk_at "m"
theorem Z9i(T:Txt K mg t):FnOk P w K mg base CX0 53 t.f_refuse_island t.d_refuse_island ["width","island","ferry_names"] (liSp K Cs):=by
 refine T.q_refuse_island.F.okM Z9f (Xs (Φ:=[("refuse_step",AU),("refuse_variables",AT)]) (Xt T) (Xu T) rfl (fMc ⟨PJ,(fMc ⟨PH,nl0⟩)⟩) (fMc ⟨⟨_,_,_,(FnOk.mono (ZaU T) (by decide)),T.q_refuse_step.m,T.q_refuse_step.F.kp,T.q_refuse_step.b⟩,(fMc ⟨⟨_,_,_,(FnOk.mono (Z6p T) (by decide)),T.q_refuse_variables.m,T.q_refuse_variables.F.kp,T.q_refuse_variables.b⟩,nl0⟩)⟩):Fts P w K mg base 52 Lb [("refuse_step",AU),("refuse_variables",AT)]) EG Z9q (fun vs M Q h=>?_) (fun vs M Q h=>?_)
 ·obtain⟨k,I,y,b,fs,rfl,_⟩:=h;rfl
 obtain⟨k,I,y,fa,fs,rfl,hk,⟨a,b,rfl,ha,hb⟩,hfa,ok,q⟩:=h;show wSs _ _ _ [some (.int k),some (.tup [.str I.name,.ref a,.ref b]),some (.ref fa),none,none] M;have l1:=ok.nv;have l2:=ok.ns;delta EG La
 repeat (first|walk_at "s"|simp only[ha,X2])
 refine Y8 (λz=>by lia) (λ_=>?_)
 delta L9
 repeat (first|walk_at "s"|simp only[hb,X2])
 refine Y8 (λz=>by lia) (λ_=>?_)
 delta L8;walk_at "s";refine⟨k,a,I.prs,rfl,ha,hk,l1,ok.nd,λx hx=>⟨ok.gd _ (XI.mpr ⟨x,hx,rfl⟩),ok.wd _ hx⟩,λM1 s1=>?_⟩;walk_at "s";have ha1:=s1 _ _ ha;delta L7;walk_at "s";refine Ud I.prs prV (fun p=>.str p.1) ?_ ?_ (Zk (Φ:=[("refuse_step",AU),("refuse_variables",AT)]) (fMc ⟨PJ,(fMc ⟨PH,nl0⟩)⟩)) fun D hD=>?_
 ·repeat (first|walk_at "s"|simp only[ha1])
  exact⟨rfl,by lia,ha1⟩
 ·intro p hp M' s;simp only[sCm,Xz,Y6,Yn,Yo,Yi,Yc]
  repeat (first|walk_at "s"|simp only[prV])
  try exact⟨rfl,rfl⟩
 have eV:(I.prs.map λp=>MV.str p.1)=I.vars.map MV.str:=by unfold Isl.vars;rw[Y7];rfl
 rw[eV];have s2:=s1.trans (SameM.new hD (.lst (I.vars.map MV.str)));have hD2:updM M1 D (.lst (I.vars.map MV.str)) D=some (.lst (I.vars.map MV.str)):=Xb;generalize updM M1 D _=M2 at*;have hb2:=s2 _ _ hb;delta L6
 repeat (first|walk_at "s"|simp only[hb2])
 obtain⟨J,hJ⟩:∃J:Nat->Sm->MH->Prop,∀j σ M',J j σ M'↔SameM M2 M'/\∃v,σ=[some (.int k),some (.tup [.str I.name,.ref a,.ref b]),some (.ref fa),some (.ref D),v]:=⟨_,λ_ _ _=>XT⟩;refine⟨J,(hJ _ _ _).mpr ⟨SameM.refl _,_,rfl⟩,λj σ M' h=>((hJ _ _ _).mp h).1 _ _ hb2,?_,?_⟩
 ·rintro j y σ M' hy h;obtain⟨s3,v,rfl⟩:=(hJ _ _ _).mp h;obtain⟨hj,rfl⟩:=Y9 hy;have hj:j<I.stps.length:=hj;have hb3:=s3 _ _ hb2;delta L5
  repeat (first|walk_at "s"|simp only[hb3,X2])
  refine⟨I.stps[j],D,fa,I.vars,fs,I.stps.length,rfl,s3 _ _ hD2,s3 _ _ (s2 _ _ hfa),by unfold Isl.vars;rw[X2];exact l1,ok.st _ (XY hj),λM4 s4=>?_⟩
  walk_at "s";exact(hJ _ _ _).mpr ⟨s3.trans s4,_,rfl⟩
 ·rintro σ M' h;obtain⟨s3,_⟩:=(hJ _ _ _).mp h;exact q _ (s2.trans s3)
noncomputable abbrev AV:SpM:=λvs M Q=>∃(k:Nat) (p b:Addr) (Is:List Isl) (ys:List MV) (fs:List Str),vs=[.int k,.ref p,.ref b]/\k≤64/\M p=some (.lst ys)/\IslsIn M Is ys/\Is.length≤5/\fs.length≤6/\M b=some (.lst (fs.map MV.str))/\(fs++Is.map (·.name)).Nodup/\(∀I∈Is,Z2 I.name)/\(∀I∈Is,IslOk k fs I)/\∀M',SameM M M'->Q .non M'
theorem PK:MonW AV:=by walk_at "m"
theorem Z7Z(T:Txt K mg t):FnOk P w K mg base CX0 54 t.f_refuse_islands t.d_refuse_islands ["width","islands","ferry_names"] (liSp K AV):=by
 refine T.q_refuse_islands.F.okM Z7Y (Xs (Φ:=[("refuse_island",Cs),("refuse_name",Uy)]) (Xt T) (Xu T) rfl (fMc ⟨Z5s,(fMc ⟨Fz,nl0⟩)⟩) (fMc ⟨⟨_,_,_,(FnOk.mono (Z9i T) (by decide)),T.q_refuse_island.m,T.q_refuse_island.F.kp,T.q_refuse_island.b⟩,(fMc ⟨⟨_,_,_,(FnOk.mono (FA T) (by decide)),T.q_refuse_name.m,T.q_refuse_name.F.kp,T.q_refuse_name.b⟩,nl0⟩)⟩):Fts P w K mg base 53 Li [("refuse_island",Cs),("refuse_name",Uy)]) EH Z8g (fun vs M Q h=>?_) (fun vs M Q h=>?_)
 ·obtain⟨k,p,b,Is,ys,fs,rfl,_⟩:=h;rfl
 obtain⟨k,p,f,Is,ys,fs,rfl,hk,hp,hI,h5,hf6,hf,nd,hg,ok,q⟩:=h;show wSs _ _ _ [some (.int k),some (.ref p),some (.ref f),none,none] M;delta EH Lh
 repeat (first|walk_at "s"|simp only[hf])
 intro e he;have s1:=SameM.new he (.lst (fs.map MV.str));have he1:updM M e (.lst (fs.map MV.str)) e=some (.lst (fs.map MV.str)):=Xb;have hp1:=s1 _ _ hp;have old:∀a o,M a=some o->a≠e:=λa o h=>neM h he;generalize updM M e _=M1 at*;delta Lg
 repeat (first|walk_at "s"|simp only[hp1])
 obtain⟨J,hJ⟩:∃J:Nat->Sm->MH->Prop,∀j σ M',J j σ M'↔SameM M M'/\M' e=some (.lst ((fs++(Is.map (·.name)).take j).map MV.str))/\∃v,σ=[some (.int k),some (.ref p),some (.ref f),some (.ref e),v]:=⟨_,λ_ _ _=>XT⟩;refine⟨J,(hJ _ _ _).mpr ⟨s1,by simpa using he1,_,rfl⟩,λj σ M' h=>((hJ _ _ _).mp h).1 _ _ hp,?_,?_⟩
 ·rintro j y σ M' hy h;obtain⟨s2,he2,v,rfl⟩:=(hJ _ _ _).mp h;have hy:ys[j]?=some y:=hy;have hj:j<Is.length:=by rw[<- hI.1];exact(Xx.mp hy).1
  have hi:Is[j]?=some Is[j]:=X6 hj;have hz:(Is.map (·.name))[j]?=some Is[j].name:=by rw[Xg,hi];rfl
  have hm:=XY hj;obtain⟨a,b,rfl,_⟩:=(hI.keep s2).2 j Is[j] y hi hy;have nin:Is[j].name∉fs++(Is.map (·.name)).take j:=by
   rw[Zx]at nd;intro z;rcases Ys.mp z with z|z
   ·exact nd.2.2 _ z _ (XI.mpr ⟨_,hm,rfl⟩) rfl
   ·exact FD nd.2.1 hz z
  delta Lf;walk_at "s";refine⟨Is[j].name,e,fs++(Is.map (·.name)).take j,rfl,he2,hg _ hm,nin,λM3 s3=>?_⟩;have he3:=s3 _ _ he2;walk_at "s";delta Ld
  repeat (first|walk_at "s"|simp only[he3,X2,Y5,XL])
  refine⟨⟨_,rfl⟩,by lia,?_⟩
  have s4:SameM M (updM M3 e (.lst ((fs++(Is.map (·.name)).take j).map MV.str++[.str Is[j].name]))):=λa o h=>by rw[X9 (old a o h)];exact s3 _ _ (s2 _ _ h)
  have he4:updM M3 e (.lst ((fs++(Is.map (·.name)).take j).map MV.str++[.str Is[j].name])) e=some (.lst ((fs++(Is.map (·.name)).take (j+1)).map MV.str)):=by
   rw[Xb,Y4,Y4,W5,FE hz]
  generalize updM M3 e _=M4 at*;delta Lc;walk_at "s";refine⟨k,Is[j],_,f,fs,rfl,hk,(hI.keep s4).2 j _ _ hi hy,s4 _ _ hf,ok _ hm,λM5 s5=>?_⟩;walk_at "s";exact(hJ _ _ _).mpr ⟨s4.trans s5,s5 _ _ he4,_,rfl⟩
 ·rintro σ M' h;obtain⟨s2,_⟩:=(hJ _ _ _).mp h;exact q _ s2
noncomputable abbrev AW:SpM:=λvs M Q=>∃(x:Fer) (e:Addr) (zs:List Str),vs=[x.mv,.ref e]/\M e=some (.lst (zs.map MV.str))/\FerOk zs x/\Q .non M
theorem PL:MonW AW:=by walk_at "m"
theorem Z9R(T:Txt K mg t):FnOk P w K mg base CX0 2 t.f_refuse_ferry t.d_refuse_ferry ["ferry","island_names"] (liSp K AW):=by
 refine T.q_refuse_ferry.F.okM Z9E (Xs (Φ:=[("refuse_unknown",Uz)]) (Xt T) (Xu T) rfl (fMc ⟨FB,nl0⟩) (fMc ⟨⟨_,_,_,(FnOk.mono (FC T) (by decide)),T.q_refuse_unknown.m,T.q_refuse_unknown.F.kp,T.q_refuse_unknown.b⟩,nl0⟩):Fts P w K mg base 1 Lo [("refuse_unknown",Uz)]) EI Zaz (fun vs M Q h=>?_) (fun vs M Q h=>?_)
 ·obtain⟨x,a,zs,rfl,_⟩:=h;rfl
 obtain⟨x,a,zs,rfl,ha,ok,q⟩:=h;show wSs _ _ _ [some (.tup [.str x.name,.str x.giver,.str x.taker,.int x.k,.int x.st]),some (.ref a)] M;have k3:=ok.k3;have t1:=ok.s1;have t3:=ok.s3;delta EI Ln;walk_at "s";refine⟨_,a,zs,rfl,ha,ok.g,?_⟩;walk_at "s";delta Lm;walk_at "s";refine⟨_,a,zs,rfl,ha,ok.t,?_⟩;walk_at "s";delta Ll;walk_at "s";rw[if_neg ok.ne];delta Lk;walk_at "s";rw[if_pos (by lia:(0:Int)≤(x.k:Int))]
 rw[if_neg (by lia:¬¬(x.k:Int)≤3)]
 delta Lj;walk_at "s";rw[if_pos (by lia:(1:Int)≤(x.st:Int))]
 rw[if_neg (by lia:¬¬(x.st:Int)≤3)]
 exact q
theorem ZfO{F:List Fer}{g:Fer->Str}:∀{c:List (Key×MV)},(F.map (·.name)).Nodup->(∀x∈F,valM c (Xf x.name)=none)->∀x∈F,valM ((F.map λy=>((Xf y.name:Key),MV.str (g y))).foldl (λc z=>putM c z.1 z.2) c) (Xf x.name)=some (.str (g x)):=by
 have stay:∀(F:List Fer) (c:List (Key×MV)) (z:Str),(∀y∈F,y.name≠z)->valM ((F.map λy=>((Xf y.name:Key),MV.str (g y))).foldl (λc z=>putM c z.1 z.2) c) (Xf z)=valM c (Xf z):=by
  intro F
  induction F with
  |nil=>intro c z _;rfl
  |cons y r ih=>
   intro c z h;rw[Xz,Vi,ih _ _ (λy hy=>h y (Yb _ hy)),Ch,if_neg (λe=>h y (Yh ..) (Us e).symm)]
 induction F with
 |nil=>intro c _ _ x hx;cases hx
 |cons y r ih=>
  intro c nd h x hx;rw[Xz,YF]at nd;rw[Xz,Vi];rcases Xn.mp hx with rfl|hx
  ·rw[stay _ _ _ (λz hz e=>nd.1 (XI.mpr ⟨z,hz,e⟩)),Ch,if_pos rfl]
  ·refine ih nd.2 (λz hz=>?_) x hx;rw[Ch,if_neg (λe=>nd.1 (XI.mpr ⟨z,hz,Us e⟩))];exact h z (Yb _ hz)
noncomputable def dirK(F:List Fer)(g:Fer->Str):List (Key×MV):=Ub (F.map λy=>((Xf y.name:Key),MV.str (g y)))
theorem PM{F:List Fer}{g:Fer->Str}(nd:(F.map (·.name)).Nodup){x:Fer}(hx:x∈F):valM (dirK F g) (Xf x.name)=some (.str (g x)):=ZfO nd (λ_ _=>rfl) x hx
noncomputable abbrev AX:SpM:=λvs M Q=>∃(z:Str) (S:Stp) (a b:Addr) (F:List Fer),vs=[.str z,S.mv,.ref a,.ref b]/\M a=some (.dic (dirK F (·.giver)))/\M b=some (.dic (dirK F (·.taker)))/\(F.map (·.name)).Nodup/\VO F z S/\(∀f,(∃x,S=.take f x)\/(∃U,S=.give f U)->f∈F.map (·.name))/\Q .non M
theorem PN:MonW AX:=by walk_at "m"
theorem Z6o(T:Txt K mg t):FnOk P w K mg base CX0 1 t.f_refuse_wrong_end t.d_refuse_wrong_end ["name","step","givers","takers"] (liSp K AX):=by
 refine T.q_refuse_wrong_end.F.okM Z6m (Xs (Φ:=[]) (Xt T) (Xu T) rfl nl0 nl0:Fts P w K mg base 0 Lq []) EJ Z6A (λvs M Q h=>?_) (λvs M Q h=>?_)
 ·obtain⟨z,S,a,b,F,rfl,_⟩:=h;rfl
 obtain⟨z,S,a,b,F,rfl,ha,hb,nd,hE,hF,q⟩:=h;show wSs _ _ _ [some (.str z),some S.mv,some (.ref a),some (.ref b)] M;delta EJ Lp;cases S with
 |take f x=>
  obtain⟨y,hy,rfl⟩:=XI.mp (hF f (.inl ⟨x,rfl⟩));have v:=PM (g:=(·.taker)) nd hy;have e:=hE y hy rfl
  repeat (first|walk_at "s"|simp only[FF,hb,v,e])
  delta AF
  repeat (first|walk_at "s"|simp only[FF])
  exact q
 |give f U=>
  obtain⟨y,hy,rfl⟩:=XI.mp (hF f (.inr ⟨U,rfl⟩));have v:=PM (g:=(·.giver)) nd hy;have e:=hE y hy rfl
  repeat (first|walk_at "s"|simp only[FG])
  delta AF
  repeat (first|walk_at "s"|simp only[FG,ha,v,e])
  exact q
 |put f U=>
  repeat (first|walk_at "s"|simp only[FH])
  delta AF
  repeat (first|walk_at "s"|simp only[FH])
  exact q
 |jump U i=>
  repeat (first|walk_at "s"|simp only[FI])
  delta AF
  repeat (first|walk_at "s"|simp only[FI])
  exact q
theorem Zce{fs ns:List Str}{n:Nat}{S:Stp}(h:Ze fs ns n S):∀f,(∃x,S=.take f x)\/(∃U,S=.give f U)->f∈fs:=by
 rintro f (⟨x,rfl⟩|⟨U,rfl⟩)
 ·exact h.1
 ·exact h.1
noncomputable abbrev AY:SpM:=λvs M Q=>∃(p f:Addr) (ys:List MV) (Is:List Isl) (F:List Fer),vs=[.ref p,.ref f]/\M p=some (.lst ys)/\IslsIn M Is ys/\Is.length≤5/\M f=some (.lst (F.map Fer.mv))/\F.length≤6/\(F.map (·.name)).Nodup/\
 (∀I∈Is,I.stps.length≤12/\∀s∈I.stps,VO F I.name s/\∃ns n,Ze (F.map (·.name)) ns n s)/\∀M',SameM M M'->Q .non M'
theorem PP:MonW AY:=by walk_at "m"
theorem PQ(F:List Fer)(g:Fer->Str):(F.map λx=>MV.tup [.str x.name,.str (g x)])=(F.map λy=>((Xf y.name:Key),MV.str (g y))).map prM:=by rw[Y7];rfl
theorem Z5r(T:Txt K mg t):FnOk P w K mg base CX0 2 t.f_refuse_wrong_ends t.d_refuse_wrong_ends ["islands","ferries"] (liSp K AY):=by
 refine T.q_refuse_wrong_ends.F.okM Z5q (Xs (Φ:=[("refuse_wrong_end",AX)]) (Xt T) (Xu T) rfl (fMc ⟨PN,nl0⟩) (fMc ⟨⟨_,_,_,(FnOk.mono (Z6o T) (by decide)),T.q_refuse_wrong_end.m,T.q_refuse_wrong_end.F.kp,T.q_refuse_wrong_end.b⟩,nl0⟩):Fts P w K mg base 1 Lx [("refuse_wrong_end",AX)]) EK Z5t (fun vs M Q h=>?_) (fun vs M Q h=>?_)
 ·obtain⟨p,f,ys,Is,F,rfl,_⟩:=h;rfl
 obtain⟨p,f,ys,Is,F,rfl,hp,hI,h5,hf,h6,nd,hE,q⟩:=h;show wSs _ _ _ [some (.ref p),some (.ref f),none,none,none,none] M;have hΦ:=(Zk (Φ:=[("refuse_wrong_end",AX)]) (fMc ⟨PN,nl0⟩));delta EK Lw;walk_at "s";refine Ud F Fer.mv (λx=>.tup [.str x.name,.str x.giver]) ?_ ?_ hΦ λD hD=>?_
 ·repeat (first|walk_at "s"|simp only[hf])
  exact⟨rfl,by lia,hf⟩
 ·intro x hx M' s;simp only[sCm,Xz,Y6,Yn,Yo,Yi,Yc]
  repeat (first|walk_at "s"|simp only[Fer.mv])
  try exact⟨rfl,rfl⟩
 rw[PQ F (·.giver)];have s1:=SameM.new hD (.lst ((F.map λy=>((Xf y.name:Key),MV.str y.giver)).map prM));have d1:updM M D (.lst ((F.map λy=>((Xf y.name:Key),MV.str y.giver)).map prM)) D=some (.lst ((F.map λy=>((Xf y.name:Key),MV.str y.giver)).map prM)):=Xb;generalize updM M D _=M1 at*;walk_at "s";refine⟨_,d1,λa ha=>?_⟩;have s2:=s1.trans (SameM.new ha (.dic (dirK F (·.giver))));have ha2:updM M1 a (.dic (dirK F (·.giver))) a=some (.dic (dirK F (·.giver))):=Xb
 change wSs _ _ _ _ (updM M1 a (.dic (dirK F (·.giver))))
 generalize updM M1 a _=M2 at*;have hf2:=s2 _ _ hf;delta Lv;walk_at "s";refine Ud F Fer.mv (λx=>.tup [.str x.name,.str x.taker]) ?_ ?_ hΦ λD2 hD2=>?_
 ·repeat (first|walk_at "s"|simp only[hf2])
  exact⟨rfl,by lia,hf2⟩
 ·intro x hx M' s;simp only[sCm,Xz,Y6,Yn,Yo,Yi,Yc]
  repeat (first|walk_at "s"|simp only[Fer.mv])
  try exact⟨rfl,rfl⟩
 rw[PQ F (·.taker)];have s3:=SameM.new hD2 (.lst ((F.map λy=>((Xf y.name:Key),MV.str y.taker)).map prM));have d3:updM M2 D2 (.lst ((F.map λy=>((Xf y.name:Key),MV.str y.taker)).map prM)) D2=some (.lst ((F.map λy=>((Xf y.name:Key),MV.str y.taker)).map prM)):=Xb;generalize updM M2 D2 _=M3 at*;walk_at "s";refine⟨_,d3,λb hb=>?_⟩;have s4:=s3.trans (SameM.new hb (.dic (dirK F (·.taker))));have hb4:updM M3 b (.dic (dirK F (·.taker))) b=some (.dic (dirK F (·.taker))):=Xb
 change wSs _ _ _ _ (updM M3 b (.dic (dirK F (·.taker))))
 generalize updM M3 b _=M4 at*;have ha4:=s4 _ _ ha2;have s5:=s2.trans s4;have hp4:=s5 _ _ hp;have hI4:=hI.keep s5;delta Lu
 repeat (first|walk_at "s"|simp only[hp4])
 obtain⟨J,hJ⟩:∃J:Nat->Sm->MH->Prop,∀j σ M',J j σ M'↔M'=M4/\∃v v',σ=[some (.ref p),some (.ref f),some (.ref a),some (.ref b),v,v']:=⟨_,λ_ _ _=>XT⟩;refine⟨J,(hJ _ _ _).mpr ⟨rfl,_,_,rfl⟩,λj σ M' h=>by rw[((hJ _ _ _).mp h).1];exact hp4,?_,?_⟩
 ·rintro j y σ M' hy h;obtain⟨rfl,v,v',rfl⟩:=(hJ _ _ _).mp h;obtain⟨I,hm,c,d,rfl,hc,hd⟩:=hI4.mem (Xk hy);obtain⟨l12,hS⟩:=hE I hm;delta Ls
  repeat (first|walk_at "s"|simp only[hd])
  obtain⟨J2,hJ2⟩:∃J2:Nat->Sm->MH->Prop,∀j σ M,J2 j σ M↔M=M'/\∃v',σ=[some (.ref p),some (.ref f),some (.ref a),some (.ref b),some (.tup [.str I.name,.ref c,.ref d]),v']:=⟨_,λ_ _ _=>XT⟩;refine⟨J2,(hJ2 _ _ _).mpr ⟨rfl,_,rfl⟩,λj σ M h=>by rw[((hJ2 _ _ _).mp h).1];exact hd,?_,?_⟩
  ·rintro i x σ M'' hx h2;obtain⟨rfl,v',rfl⟩:=(hJ2 _ _ _).mp h2;obtain⟨hi,rfl⟩:=Y9 hx;have hi:i<I.stps.length:=hi;obtain⟨e1,ns,n,e2⟩:=hS _ (XY hi);delta Lr;walk_at "s";refine⟨I.name,I.stps[i],a,b,F,rfl,ha4,hb4,nd,e1,Zce e2,?_⟩;walk_at "s";exact(hJ2 _ _ _).mpr ⟨rfl,_,rfl⟩
  ·rintro σ M'' h2;obtain⟨rfl,v',rfl⟩:=(hJ2 _ _ _).mp h2
   try walk_at "s"
   exact(hJ _ _ _).mpr ⟨rfl,_,_,rfl⟩
 ·rintro σ M' h;obtain⟨rfl,_⟩:=(hJ _ _ _).mp h;exact q _ s5
theorem FroD.up{M:MH}:∀{n:Nat} {v v':MV},FroD n M v v'->FroD (n+1) M v v'
 |0,_,_,h=>.inl h
 |n+1,v,v',h=>by
  rcases h with h|⟨ps,h1,h2,h3,h4⟩
  ·exact .inl h
  ·exact .inr ⟨ps,h1,h2,h3,λp hp=>(h4 p hp).up⟩
theorem FroD.to{M:MH}{n m:Nat}{v v':MV}(h:FroD n M v v')(l:n≤m):FroD m M v v':=by
 obtain⟨d,rfl⟩:∃d,m=n+d:=⟨m - n,by lia⟩
 clear l
 induction d with
 |zero=>exact h
 |succ d ih=>exact ih.up
theorem fro_str{M:MH}{z:Str}:FroD 0 M (.str z) (.str z):=⟨.inr ⟨z,rfl⟩,rfl⟩
theorem fro_int{M:MH}{i:Int}:FroD 0 M (.int i) (.int i):=⟨.inl ⟨i,rfl⟩,rfl⟩
theorem ZQ{M:MH}{n:Nat}{xs:List MV}(l:xs.length≤1000)(h:∀x∈xs,FroD n M x x):FroD (n+1) M (.tup xs) (.tup xs):=by
 have e1:(xs.map λx=>(x,x)).map (·.1)=xs:=by rw[Y7];exact Bv xs
 have e2:(xs.map λx=>(x,x)).map (·.2)=xs:=by rw[Y7];exact Bv xs
 refine .inr ⟨xs.map λx=>(x,x),.inl (by rw[e1]),by rw[e2],by rw[X2];exact l,λp hp=>?_⟩
 obtain⟨x,hx,rfl⟩:=XI.mp hp;exact h x hx
theorem FJ{M:MH}{n:Nat}{a:Addr}{xs:List MV}(e:M a=some (.lst xs))(l:xs.length≤1000)(h:∀x∈xs,FroD n M x x):FroD (n+1) M (.ref a) (.tup xs):=by
 have e1:(xs.map λx=>(x,x)).map (·.1)=xs:=by rw[Y7];exact Bv xs
 have e2:(xs.map λx=>(x,x)).map (·.2)=xs:=by rw[Y7];exact Bv xs
 refine .inr ⟨xs.map λx=>(x,x),.inr ⟨a,rfl,by rw[e1];exact e⟩,by rw[e2],by rw[X2];exact l,λp hp=>?_⟩
 obtain⟨x,hx,rfl⟩:=XI.mp hp;exact h x hx
theorem UA{M:MH}:∀U:Tm,FroD U.depth M U.mv U.mv
 |.num n=>ZQ (xs:=[.str "num",.int n]) (by simp) (by
   intro x hx;simp only[Xn,Y3,or_false]at hx;rcases hx with rfl|rfl
   ·exact fro_str
   ·exact fro_int)
 |.var z=>ZQ (xs:=[.str "var",.str z]) (by simp) (by
   intro x hx;simp only[Xn,Y3,or_false]at hx;rcases hx with rfl|rfl
   ·exact fro_str
   ·exact fro_str)
 |.two f a b=>by
  have ha:=UA (M:=M) a;have hb:=UA (M:=M) b;show FroD (1+max a.depth b.depth) M (.tup [.str f.str,a.mv,b.mv]) (.tup [.str f.str,a.mv,b.mv]);rw[Nat.add_comm];refine ZQ (by simp) λx hx=>?_
  simp only[Xn,Y3,or_false]at hx;rcases hx with rfl|rfl|rfl
  ·exact fro_str.to (YL _)
  ·exact ha.to (by lia)
  ·exact hb.to (by lia)
 |.pick c a b=>by
  have hc:=UA (M:=M) c;have ha:=UA (M:=M) a;have hb:=UA (M:=M) b;show FroD (1+max c.depth (max a.depth b.depth)) M (.tup [.str "pick",c.mv,a.mv,b.mv]) (.tup [.str "pick",c.mv,a.mv,b.mv]);rw[Nat.add_comm];refine ZQ (by simp) λx hx=>?_
  simp only[Xn,Y3,or_false]at hx;rcases hx with rfl|rfl|rfl|rfl
  ·exact fro_str.to (YL _)
  ·exact hc.to (by lia)
  ·exact ha.to (by lia)
  ·exact hb.to (by lia)
theorem ZkU{M:MH}{fs ns:List Str}{n:Nat}{S:Stp}(h:Ze fs ns n S):FroD 9 M S.mv S.mv:=by
 cases S with
 |take f x=>
  refine ZQ (xs:=[.str "take",.str f,.str x]) (by simp) fun v hv=>?_
  simp only[Xn,Y3,or_false]at hv;rcases hv with rfl|rfl|rfl<;>exact fro_str.to (by decide)
 |give f U=>
  refine ZQ (xs:=[.str "give",.str f,U.mv]) (by simp) fun v hv=>?_
  simp only[Xn,Y3,or_false]at hv;rcases hv with rfl|rfl|rfl
  ·exact fro_str.to (by decide)
  ·exact fro_str.to (by decide)
  ·exact(UA U).to h.2.1
 |put f U=>
  refine ZQ (xs:=[.str "put",.str f,U.mv]) (by simp) fun v hv=>?_
  simp only[Xn,Y3,or_false]at hv;rcases hv with rfl|rfl|rfl
  ·exact fro_str.to (by decide)
  ·exact fro_str.to (by decide)
  ·exact(UA U).to h.2.1
 |jump U i=>
  refine ZQ (xs:=[.str "jump",U.mv,.int i]) (by simp) fun v hv=>?_
  simp only[Xn,Y3,or_false]at hv;rcases hv with rfl|rfl|rfl
  ·exact fro_str.to (by decide)
  ·exact(UA U).to h.1.1
  ·exact fro_int.to (by decide)
theorem ZlR{M:MH}{k:Nat}{fs:List Str}{I:Isl}{y:MV}(ok:IslOk k fs I)(h:IslIn M I y):FroD 11 M y I.mv:=by
 obtain⟨a,b,rfl,ha,hb⟩:=h;have l1:=ok.nv;have l2:=ok.ns;refine .inr ⟨[(.str I.name,.str I.name),(.ref a,.tup (I.prs.map prV)),(.ref b,.tup (I.stps.map Stp.mv))],.inl rfl,rfl,by simp,λp hp=>?_⟩
 simp only[Xn,Y3,or_false]at hp;rcases hp with rfl|rfl|rfl
 ·exact fro_str.to (by decide)
 ·refine FJ ha (by rw[X2];lia) λx hx=>?_
  obtain⟨q,_,rfl⟩:=XI.mp hx;refine(ZQ (n:=0) (xs:=[.str q.1,.int q.2]) (by simp) λv hv=>?_).to (by decide)
  simp only[Xn,Y3,or_false]at hv;rcases hv with rfl|rfl
  ·exact fro_str
  ·exact fro_int
 ·refine FJ hb (by rw[X2];lia) λx hx=>?_
  obtain⟨S,hS,rfl⟩:=XI.mp hx;exact ZkU (ok.st S hS)
theorem Zmf{M:MH}(f:Fer):FroD 1 M f.mv f.mv:=by
 refine ZQ (xs:=[.str f.name,.str f.giver,.str f.taker,.int f.k,.int f.st]) (by simp) λv hv=>?_
 simp only[Xn,Y3,or_false]at hv;rcases hv with rfl|rfl|rfl|rfl|rfl
 ·exact fro_str
 ·exact fro_str
 ·exact fro_str
 ·exact fro_int
 ·exact fro_int
theorem Zjp{M:MH}{k:Nat}{fs:List Str}{Is:List Isl}{ys:List MV}{p:Addr}(hp:M p=some (.lst ys))(h:IslsIn M Is ys)(l:Is.length≤5)(ok:∀I∈Is,IslOk k fs I):FroD 12 M (.ref p) (.tup (Is.map Isl.mv)):=by
 have hl:=h.1;have e1:(ys.zip (Is.map Isl.mv)).map (·.1)=ys:=List.map_fst_zip (by rw[X2];lia)
 have e2:(ys.zip (Is.map Isl.mv)).map (·.2)=Is.map Isl.mv:=List.map_snd_zip (by rw[X2];lia)
 refine .inr ⟨ys.zip (Is.map Isl.mv),.inr ⟨p,rfl,by rw[e1];exact hp⟩,by rw[e2],by rw[ZB,X2];lia,λq hq=>?_⟩
 obtain⟨i,hi,rfl⟩:=Y0 hq;rw[ZB,X2]at hi;have hi1:i<ys.length:=by lia
 have hi2:i<Is.length:=by lia
 rw[List.getElem_zip,CZ];exact ZlR (ok _ (XY hi2)) (h.2 i _ _ (X6 hi2) (X6 hi1))
noncomputable def fstM:MV->MV
 |.tup (x::_)=>x
 |v=>v
noncomputable abbrev AZ:SpM:=λvs M Q=>∃(p f:Addr) (ys:List MV) (W:Wld),vs=[.int W.w,.ref p,.ref f]/\M p=some (.lst ys)/\IslsIn M W.isl ys/\M f=some (.lst (W.fer.map Fer.mv))/\W.Good/\∀M',SameM M M'->Q W.mv M'
theorem PR:MonW AZ:=by walk_at "m"
theorem Zlx(T:Txt K mg t):FnOk P w K mg base CX0 56 t.f_made t.d_made ["width","islands","ferries"] (liSp K AZ):=by
 refine T.q_made.F.okM ZkY (Xs (Φ:=[("frozen",(Zd 13)),("is_width",AR),("refuse_ferry",AW),("refuse_ferry_names",AS),("refuse_islands",AV),("refuse_wrong_ends",AY)]) (Xt T) (Xu T) rfl (fMc ⟨(Cp _),(fMc ⟨PD,(fMc ⟨PL,(fMc ⟨PF,(fMc ⟨PK,(fMc ⟨PP,nl0⟩)⟩)⟩)⟩)⟩)⟩) (fMc ⟨⟨_,_,_,FnOk.mono (Pz T 13) (by decide),T.q_frozen.m,T.q_frozen.F.kp,T.q_frozen.b⟩,(fMc ⟨⟨_,_,_,FnOk.mono (Zek T) (by decide),T.q_is_width.m,T.q_is_width.F.kp,T.q_is_width.b⟩,(fMc ⟨⟨_,_,_,FnOk.mono (Z9R T) (by decide),T.q_refuse_ferry.m,T.q_refuse_ferry.F.kp,T.q_refuse_ferry.b⟩,(fMc ⟨⟨_,_,_,FnOk.mono (Z4q T) (by decide),T.q_refuse_ferry_names.m,T.q_refuse_ferry_names.F.kp,T.q_refuse_ferry_names.b⟩,(fMc ⟨⟨_,_,_,FnOk.mono (Z7Z T) (by decide),T.q_refuse_islands.m,T.q_refuse_islands.F.kp,T.q_refuse_islands.b⟩,(fMc ⟨⟨_,_,_,FnOk.mono (Z5r T) (by decide),T.q_refuse_wrong_ends.m,T.q_refuse_wrong_ends.F.kp,T.q_refuse_wrong_ends.b⟩,nl0⟩)⟩)⟩)⟩)⟩)⟩):Fts P w K mg base 55 LJ [("frozen",(Zd 13)),("is_width",AR),("refuse_ferry",AW),("refuse_ferry_names",AS),("refuse_islands",AV),("refuse_wrong_ends",AY)]) EO Zmn (fun vs M Q h=>?_) (fun vs M Q h=>?_)
 ·obtain⟨p,f,ys,W,rfl,_⟩:=h;rfl
 obtain⟨p,f,ys,W,rfl,hp,hI,hf,G,q⟩:=h;have hΦ:=Zk (Φ:=[("frozen",Zd 13),("is_width",AR),("refuse_ferry",AW),("refuse_ferry_names",AS),("refuse_islands",AV),("refuse_wrong_ends",AY)]) (fMc ⟨Cp 13,fMc ⟨PD,fMc ⟨PL,fMc ⟨PF,fMc ⟨PK,fMc ⟨PP,fun _ h=>nomatch h⟩⟩⟩⟩⟩⟩);show wSs _ _ _ [some (.int W.w),some (.ref p),some (.ref f),none,none] M;have w1:=G.w1;have w2:=G.w2;have i5:=G.i5;have f6:=G.f6;have hl:=hI.1;have nd:=Zx.mp G.nd;delta EO LI;walk_at "s";refine⟨W.w,rfl,by lia,by lia,?_⟩
 walk_at "s";delta LH
 repeat (first|walk_at "s"|simp only[hp])
 refine Y8 (λz=>by lia) (λ_=>?_)
 delta LG
 repeat (first|walk_at "s"|simp only[hf,X2])
 refine Y8 (λz=>by lia) (λ_=>?_)
 delta LF;walk_at "s";refine⟨f,W.fer,rfl,hf,f6,nd.1,λx hx=>G.fg _ (XI.mpr ⟨x,hx,rfl⟩),λM1 s1=>?_⟩;walk_at "s";have hf1:=s1 _ _ hf;delta LE;walk_at "s";refine Ud W.fer Fer.mv (λx=>.str x.name) ?_ ?_ hΦ λD hD=>?_
 ·repeat (first|walk_at "s"|simp only[hf1])
  exact⟨rfl,by lia,hf1⟩
 ·intro x hx M' s;simp only[sCm,Xz,Y6,Yn,Yo,Yi,Yc]
  repeat (first|walk_at "s"|simp only[Fer.mv])
  try exact⟨rfl,rfl⟩
 have eF:(W.fer.map λx=>MV.str x.name)=W.fns.map MV.str:=by unfold Wld.fns;rw[Y7];rfl
 rw[eF];have s2:=s1.trans (SameM.new hD (.lst (W.fns.map MV.str)));have hD2:updM M1 D (.lst (W.fns.map MV.str)) D=some (.lst (W.fns.map MV.str)):=Xb;generalize updM M1 D _=M2 at*
 try walk_at "s"
 refine⟨W.w,p,D,W.isl,ys,W.fns,rfl,w2,s2 _ _ hp,hI.keep s2,i5,by unfold Wld.fns;rw[X2];exact f6,hD2,G.nd,λI hi=>G.ig _ (XI.mpr ⟨I,hi,rfl⟩),G.io,λM3 s3=>?_⟩
 have s4:=s2.trans s3;have hp3:=s4 _ _ hp;have hf3:=s4 _ _ hf;have hI3:=hI.keep s4;walk_at "s";delta LD;walk_at "s";refine Ud ys (λy=>y) fstM ?_ ?_ hΦ λD hD=>?_
 ·repeat (first|walk_at "s"|simp only[hp3])
  exact⟨by simp[Src.items],by lia,hp3⟩
 ·intro y hy M' s;obtain⟨I,_,a,b,rfl,_⟩:=hI3.mem hy;simp only[sCm,Xz,Y6,Yn,Yo,Yi,Yc];walk_at "s"
  rfl
 have eI:ys.map fstM=W.ins.map MV.str:=hI.fst λz r=>rfl;rw[eI];have s5:=s4.trans (SameM.new hD (.lst (W.ins.map MV.str)));have hD5:updM M3 D (.lst (W.ins.map MV.str)) D=some (.lst (W.ins.map MV.str)):=Xb;generalize updM M3 D _=M5 at*;have hf5:=s5 _ _ hf;delta LC
 repeat (first|walk_at "s"|simp only[hf5])
 obtain⟨J,hJ⟩:∃J:Nat->Sm->MH->Prop,∀j σ M',J j σ M'↔M'=M5/\∃v,σ=[some (.int W.w),some (.ref p),some (.ref f),some (.ref D),v]:=⟨_,λ_ _ _=>XT⟩;refine⟨J,(hJ _ _ _).mpr ⟨rfl,_,rfl⟩,λj σ M' h=>by rw[((hJ _ _ _).mp h).1];exact hf5,?_,?_⟩
 ·rintro j y σ M' hy h;obtain⟨rfl,v,rfl⟩:=(hJ _ _ _).mp h;obtain⟨hj,rfl⟩:=Y9 hy;have hj:j<W.fer.length:=hj;delta LB;walk_at "s";refine⟨W.fer[j],D,W.ins,rfl,hD5,G.fo _ (XY hj),?_⟩;walk_at "s";exact(hJ _ _ _).mpr ⟨rfl,_,rfl⟩
 ·rintro σ M' h;obtain⟨rfl,v,rfl⟩:=(hJ _ _ _).mp h;delta LA;walk_at "s";refine⟨p,f,ys,W.isl,W.fer,rfl,s5 _ _ hp,hI.keep s5,i5,hf5,f6,nd.1,λI hi=>⟨(G.io I hi).ns,λS hS=>⟨G.en I hi S hS,_,_,(G.io I hi).st S hS⟩⟩,λM6 s6=>?_⟩;have s7:=s5.trans s6;walk_at "s";delta Lz;walk_at "s";refine⟨_,W.mv,rfl,?_,λM' s'=>q M' (s7.trans s')⟩;refine .inr ⟨[(.int W.w,.int W.w),(.ref p,.tup (W.isl.map Isl.mv)),(.ref f,.tup (W.fer.map Fer.mv))],.inl rfl,rfl,by simp,λz hz=>?_⟩
  simp only[Xn,Y3,or_false]at hz;rcases hz with rfl|rfl|rfl
  ·exact fro_int.to (by decide)
  ·exact Zjp (s7 _ _ hp) (hI.keep s7) i5 G.io
  ·refine(FJ (n:=1) (s7 _ _ hf) (by rw[X2];lia) λx hx=>?_).to (by decide)
   obtain⟨y,_,rfl⟩:=XI.mp hx;exact Zmf y
noncomputable def zipK:List Str->List MV->List (Key×MV)
 |k::ks,v::vs=>(Xf k,v)::zipK ks vs
 |_,_=>[]
theorem Yl:∀{ks:List Str} {vs:List MV},vs.length=ks.length->(zipK ks vs).length=ks.length
 |[],[],_=>rfl
 |[],_::_,h=>by cases h
 |_::_,[],h=>by cases h
 |k::ks,v::vs,h=>by
  show(zipK ks vs).length+1=_;rw[Yl (by simpa using h)];rfl
theorem Ct:∀{ks:List Str} {vs:List MV},vs.length=ks.length->(zipK ks vs).map (·.1)=ks.map Xf
 |[],[],_=>rfl
 |[],_::_,h=>by cases h
 |_::_,[],h=>by cases h
 |k::ks,v::vs,h=>by
  show Xf k::(zipK ks vs).map (·.1)=_;rw[Ct (by simpa using h)];rfl
theorem Zl:∀{ks:List Str} {vs:List MV} {i:Nat} {k:Str} {v:MV},ks.Nodup->ks[i]?=some k->vs[i]?=some v->valM (zipK ks vs) (Xf k)=some v
 |[],_,_,_,_,_,h,_=>by simp at h
 |_::_,[],_,_,_,_,_,h=>by simp at h
 |a::ks,b::vs,0,k,v,_,h1,h2=>by
  simp at h1 h2;subst h1 h2;simp[zipK,valM]
 |a::ks,b::vs,i+1,k,v,nd,h1,h2=>by
  rw[YF]at nd;simp at h1 h2;have:a≠k:=λe=>nd.1 (e▸Xk h1);simp only[zipK,valM];rw[if_neg (λe=>this (Us e))];exact Zl nd.2 h1 h2
theorem UB:∀{ks:List Str} {vs:List MV} {i:Nat} {k:Str} {v:MV},vs.length=ks.length->ks.Nodup->ks[i]?=some k->putM (zipK ks vs) (Xf k) v=zipK ks (vs.set i v)
 |[],_,_,_,_,_,_,h=>by simp at h
 |_::_,[],_,_,_,h,_,_=>by cases h
 |a::ks,b::vs,0,k,v,_,_,h1=>by
  simp at h1;subst h1;simp[zipK,putM]
 |a::ks,b::vs,i+1,k,v,hl,nd,h1=>by
  rw[YF]at nd;simp at h1;have:a≠k:=λe=>nd.1 (e▸Xk h1);simp only[zipK,putM,List.set_cons_succ];rw[if_neg (λe=>this (Us e)),UB (by simpa using hl) nd.2 h1]
theorem ZiX{kvs:List (Key×MV)}{k:Key}{v:MV}:(∀p∈kvs,p.1≠k)->putM kvs k v=kvs++[(k,v)]:=by
 induction kvs with
 |nil=>intro _;rfl
 |cons p r ih=>
  intro h;unfold putM;rw[if_neg (h p (Yh ..)),ih λq hq=>h q (Yb _ hq)];rfl
theorem Zh0{ps:List (Key×MV)}(nd:(ps.map (·.1)).Nodup):Ub ps=ps:=by
 have gen:∀(ps c:List (Key×MV)),((c++ps).map (·.1)).Nodup->ps.foldl (λc z=>putM c z.1 z.2) c=c++ps:=by
  intro ps
  induction ps with
  |nil=>intro c _;simp
  |cons p r ih=>
   intro c nd;rw[Vi,ZiX,ih]
   ·simp
   ·simpa using nd
   ·intro q hq e;rw[Y4,Zx]at nd;exact nd.2.2 _ (XI.mpr ⟨q,hq,rfl⟩) _ (XI.mpr ⟨p,Yh ..,rfl⟩) e
 have:=gen ps [] (by simpa using nd)
 rw[Yc]at this;exact this
theorem V5{ks:List Str}{vs:List MV}(hl:vs.length=ks.length)(nd:ks.Nodup):Ub (zipK ks vs)=zipK ks vs:=by
 refine Zh0 ?_;rw[Ct hl];unfold List.Nodup;rw[List.pairwise_map];exact GO (λh e=>h (Us e)) nd
theorem FK{α:Type}(xs:List α)(f:α->Str)(g:α->MV):(xs.map λx=>MV.tup [.str (f x),g x])=(zipK (xs.map f) (xs.map g)).map prM:=by
 induction xs with
 |nil=>rfl
 |cons x r ih=>
  rw[Xz,ih];rfl
noncomputable def SrcFrom(S:Src)(M M1:MH):Prop:=(S.okF M1/\M1=M)\/∃a o kvs,S=.dic a o kvs/\M a=some (.dic kvs)/\M1=updM M a (.fdic o kvs)
theorem SrcFrom.free{S:Src}{M M1:MH}(h:SrcFrom S M M1){p:Addr}(hp:M1 p=none):M p=none:=by
 rcases h with⟨_,rfl⟩|⟨a,o,kvs,_,h1,rfl⟩
 ·exact hp
 ·by_cases e:p=a
  ·subst e;rw[Xb]at hp;cases hp
  ·rwa [X9 e]at hp
theorem SrcFrom.ok{S:Src}{M M1 M2:MH}(h:SrcFrom S M M1)(s:SameM M1 M2):S.ok M2:=by
 rcases h with⟨h1,rfl⟩|⟨a,o,kvs,rfl,h1,rfl⟩
 ·cases S with
  |tup _=>trivial
  |rng _ _=>trivial
  |rst _ _ _=>trivial
  |dic _ _ _=>exact h1.elim
  |str _=>trivial
  |lst a zs=>exact s _ _ h1
 ·exact s _ _ Xb
theorem SrcFrom.thaw{S:Src}{M M1 M2:MH}(h:SrcFrom S M M1)(s:SameM M1 M2):SameM M (S.thaw M2)/\∀a,M1 a=none->(S.thaw M2) a=M2 a:=by
 rcases h with⟨h1,rfl⟩|⟨a,o,kvs,rfl,h1,rfl⟩
 ·rw[WG h1];exact⟨s,λ_ _=>rfl⟩
 ·refine⟨λb u e=>?_,λb hb=>?_⟩
  ·show updM M2 a (.dic kvs) b=_;by_cases z:b=a
   ·subst z;rw[Xb];rw[h1]at e;exact e
   ·rw[X9 z];exact s _ _ (by rw[X9 z];exact e)
  ·show updM M2 a (.dic kvs) b=_;refine X9 λz=>?_;subst z;rw[Xb]at hb;cases hb
theorem PU{Φ:List (Str×SpM)}{own:List Str}{fr:List Nat}{src:ISr}{tg:ITg}{elt:IE}{σ:Sm}{M:MH}{Q:QM}{α:Type}(xs:List α)(f:α->MV)(C:α->MV->List Addr->MH->Prop)(Pm:MH->Prop)
  (hC:∀x y N M2 M3,(∀a∈N,M3 a=M2 a)->C x y N M2->C x y N M3)
  (hs:wSr Φ src σ M λS M1=>S.items=xs.map f/\xs.length<sizeLine/\SrcFrom S M M1/\Pm M1)
  (ht:∀x∈xs,∀M1 M',Pm M1->SameM M1 M'->wTg tg (f x) (sCm own fr σ) λσ2=>wE Φ elt σ2 M' λy M2=>SameM M' M2/\∃N:List Addr,N.Nodup/\(∀a∈N,M' a=none/\∃o,M2 a=some o)/\C x y N M2)
  (hΦ:∀(j:Nat) f sp,Φ[j]?=some (f,sp)->MonW sp)
  (q:∀D (ys:List MV) (Ns:List (List Addr)) M',M D=none->SameM M M'->ys.length=xs.length->Ns.length=xs.length->Ns.flatten.Nodup->D∉Ns.flatten->(∀a∈Ns.flatten,M a=none)->
   (∀(j:Nat) x y N,xs[j]?=some x->ys[j]?=some y->Ns[j]?=some N->C x y N M')->M' D=some (.lst ys)->Q (.ref D) M'):wE Φ (.comp own fr src tg .none elt) σ M Q:=by
 rw[WF];refine mon_sr hΦ src (λS M1 ⟨h1,h2,h3,h4⟩=>?_) hs;have hl:S.len=xs.length:=by rw[<- S.items_len,h1,X2]
 refine⟨by rw[hl];exact h2,λD hD=>⟨λi ys M2=>SameM M1 M2/\M2 D=some (.lst ys)/\ys.length=i/\∃Ns:List (List Addr),Ns.length=i/\Ns.flatten.Nodup/\D∉Ns.flatten/\(∀a∈Ns.flatten,M1 a=none/\∃o,M2 a=some o)/\(∀(j:Nat) x y N,xs[j]?=some x->ys[j]?=some y->Ns[j]?=some N->C x y N M2),⟨SameM.new hD _,Xb,rfl,[],rfl,by simp,by simp,by simp,by simp⟩,?_,?_,?_⟩⟩
 ·rintro i ys M2 ⟨s2,d2,e,_⟩;exact⟨d2,by lia,h3.ok s2⟩
 ·rintro i x ys M2 hx ⟨s2,d2,e,Ns,n1,n2,n3,n4,n5⟩;rw[h1]at hx;obtain⟨hi,rfl⟩:=Y9 hx;refine Ut tg (λσ2 h=>?_) (ht xs[i] (XY hi) M1 M2 h4 s2);rw[wI,if_pos rfl];refine Xc hΦ elt (λy M3 ⟨s3,N,m1,m2,m3⟩=>?_) h;have dN:D∉N:=λz=>by have:=(m2 _ z).1;rw[d2]at this;cases this
  have keep:∀a,a≠D->updM M3 D (.lst (ys++[y])) a=M3 a:=λa z=>X9 z;have fl:(Ns++[N]).flatten=Ns.flatten++N:=by simp
  refine⟨s3 _ _ d2,λa o z=>by rw[X9 (neM z hD)];exact s3 _ _ (s2 _ _ z),Xb,by simp[e],Ns++[N],by simp[n1],?_,?_,?_,?_⟩
  ·rw[fl,Zx];refine⟨n2,m1,λa ha b hb z=>?_⟩;subst z;obtain⟨_,o,ho⟩:=n4 _ ha;rw[(m2 _ hb).1]at ho;cases ho
  ·rw[fl,Ys];exact λz=>z.elim n3 dN
  ·rw[fl];intro a ha;have aD:a≠D:=λz=>by
    subst z;rcases Ys.mp ha with ha|ha
    ·exact n3 ha
    ·exact dN ha
   rw[keep a aD];rcases Ys.mp ha with ha|ha
   ·obtain⟨z1,o,z2⟩:=n4 _ ha;exact⟨z1,o,s3 _ _ z2⟩
   ·exact⟨s2.free (m2 _ ha).1,(m2 _ ha).2⟩
  ·intro j x' y' N' hxj hy hN;by_cases hj:j<i
   ·rw[Zu (by lia)]at hy hN
    refine hC _ _ _ M2 _ (λa ha=>?_) (n5 j x' y' N' hxj hy hN);have hm:a∈Ns.flatten:=List.mem_flatten.mpr ⟨N',Xk hN,ha⟩;rw[keep a λz=>n3 (z▸hm)];obtain⟨_,o,z2⟩:=n4 _ hm;rw[z2];exact s3 _ _ z2
   ·have hj:j=i:=by
     have:=(Xx.mp hy).1;simp at this;lia
    subst hj;rw[ZY (by lia),e,Nat.sub_self]at hy
    rw[ZY (by lia),n1,Nat.sub_self]at hN
    rw[X6 hi]at hxj;simp at hxj hy hN;subst hxj hy hN;exact hC _ _ _ M3 _ (λa ha=>keep a λz=>dN (z▸ha)) m3
 ·rintro ys M2 ⟨s2,d2,e,Ns,n1,n2,n3,n4,n5⟩;obtain⟨t1,t2⟩:=h3.thaw s2;refine q D ys Ns _ (h3.free hD) t1 (by lia) (by lia) n2 n3 (λa ha=>h3.free (n4 a ha).1) (λj x y N a b c=>?_) (by rw[t2 _ hD];exact d2)
  exact hC _ _ _ M2 _ (λz hz=>t2 _ (n4 z (List.mem_flatten.mpr ⟨N,Xk c,hz⟩)).1) (n5 j x y N a b c)
theorem Cu{Φ:List (Str×SpM)}{own:List Str}{fr:List Nat}{src:ISr}{tg:ITg}{elt:IE}{σ:Sm}{M:MH}{Q:QM}{α:Type}(xs:List α)(f:α->MV)(nm:α->Str)(ob:α->MO)(Pm:MH->Prop)
  (hs:wSr Φ src σ M λS M1=>S.items=xs.map f/\xs.length<sizeLine/\SrcFrom S M M1/\Pm M1)
  (ht:∀x∈xs,∀M1 M',Pm M1->SameM M1 M'->wTg tg (f x) (sCm own fr σ) λσ2=>wE Φ elt σ2 M' λy M2=>∃p,M' p=none/\y=.tup [.str (nm x),.ref p]/\M2=updM M' p (ob x))
  (hΦ:∀(j:Nat) f sp,Φ[j]?=some (f,sp)->MonW sp)
  (q:∀D (as:List Addr) M',M D=none->SameM M M'->as.length=xs.length->as.Nodup->D∉as->(∀a∈as,M a=none)->
   (∀(j:Nat) a x,as[j]?=some a->xs[j]?=some x->M' a=some (ob x))->M' D=some (.lst ((zipK (xs.map nm) (as.map MV.ref)).map prM))->Q (.ref D) M'):wE Φ (.comp own fr src tg .none elt) σ M Q:=by
 refine PU xs f (λx y N M2=>∃p,N=[p]/\y=.tup [.str (nm x),.ref p]/\M2 p=some (ob x)) Pm ?_ hs ?_ hΦ ?_
 ·rintro x y N M2 M3 hk ⟨p,rfl,e1,e2⟩;exact⟨p,rfl,e1,by rw[hk p (by simp)];exact e2⟩
 ·intro x hx M1 M' h1 h2;refine Ut tg (λσ2 h=>?_) (ht x hx M1 M' h1 h2);refine Xc hΦ elt (λy M3 ⟨p,m1,m2,m3⟩=>?_) h;subst m3;exact⟨SameM.new m1 _,[p],by simp,by simp[m1,Xb],p,rfl,m2,Xb⟩
 ·intro D ys Ns M' h1 h2 h3 h4 h5 h6 h7 h8 h9;have key:∀(xs:List α) (ys:List MV) (Ns:List (List Addr)),ys.length=xs.length->Ns.length=xs.length->(∀(j:Nat) x y N,xs[j]?=some x->ys[j]?=some y->Ns[j]?=some N->∃p,N=[p]/\y=.tup [.str (nm x),.ref p]/\M' p=some (ob x))->
    Ns.flatten.length=xs.length/\ys=(zipK (xs.map nm) (Ns.flatten.map MV.ref)).map prM/\∀(j:Nat) a x,Ns.flatten[j]?=some a->xs[j]?=some x->M' a=some (ob x):=by
   intro xs
   induction xs with
   |nil=>
    intro ys Ns h1 h2 _;cases ys with
    |nil=>
     cases Ns with
     |nil=>exact⟨rfl,rfl,λj a x h=>by simp at h⟩
     |cons _ _=>cases h2
    |cons _ _=>cases h1
   |cons x xs ih=>
    intro ys Ns h1 h2 h3;cases ys with
    |nil=>cases h1
    |cons y ys=>
     cases Ns with
     |nil=>cases h2
     |cons N Ns=>
      obtain⟨p,rfl,rfl,ep⟩:=h3 0 x y N rfl rfl rfl;obtain⟨i1,i2,i3⟩:=ih ys Ns (by simpa using h1) (by simpa using h2) λj x y N a b c=>h3 (j+1) x y N (by simpa using a) (by simpa using b) (by simpa using c)
      refine⟨by simp at i1 ⊢;lia,?_,?_⟩
      ·show _=prM (Xf (nm x),MV.ref p)::((zipK (xs.map nm) (Ns.flatten.map MV.ref)).map prM);rw[<- i2];rfl
      ·intro j a x' ha hx;cases j with
       |zero=>simp at ha hx;subst ha hx;exact ep
       |succ j=>exact i3 j a x' (by simpa using ha) (by simpa using hx)
  obtain⟨k1,k2,k3⟩:=key xs ys Ns h3 h4 h8;exact q D Ns.flatten M' h1 h2 k1 h5 h6 h7 k3 (by rw[<- k2];exact h9)
theorem FL{Φ:List (Str×SpM)}{own:List Str}{fr:List Nat}{src:ISr}{tg:ITg}{test elt:IE}{σ:Sm}{M:MH}{Q:QM}{α:Type}(xs:List α)(f g:α->MV)(b:α->Bool)
  (hs:wSr Φ src σ M λS M1=>S.items=xs.map f/\xs.length<sizeLine/\S.okF M1/\M1=M)
  (ht:∀x∈xs,∀M',SameM M M'->wTg tg (f x) (sCm own fr σ) λσ2=>wE Φ test σ2 M' λv M2=>v=.bl (b x)/\M2=M'/\(b x=true->wE Φ elt σ2 M' λy M2=>y=g x/\M2=M'))
  (hΦ:∀(j:Nat) f sp,Φ[j]?=some (f,sp)->MonW sp) (q:∀D,M D=none->Q (.ref D) (updM M D (.lst ((xs.filter b).map g)))):wE Φ (.comp own fr src tg (.some test) elt) σ M Q:=by
 rw[WF];refine mon_sr hΦ src (λS M1 ⟨h1,h2,h3,h4⟩=>?_) hs;subst h4;have hl:S.len=xs.length:=by rw[<- S.items_len,h1,X2]
 refine⟨by rw[hl];exact h2,λD hD=>⟨λi ys M2=>M2=updM M1 D (.lst ys)/\ys=((xs.take i).filter b).map g,⟨rfl,by simp⟩,?_,?_,?_⟩⟩
 ·rintro i ys M2 ⟨rfl,rfl⟩;refine⟨Xb,?_,?_⟩
  ·rw[X2];have h1:=List.length_filter_le b (xs.take i);rw[XL]at h1;lia
  cases S with
  |tup _=>trivial
  |rng _ _=>trivial
  |rst _ _ _=>trivial
  |dic _ _ _=>exact h3.elim
  |str _=>trivial
  |lst a zs=>exact SameM.new hD _ _ _ h3
 ·rintro i x ys M2 hx ⟨rfl,rfl⟩;rw[h1]at hx;obtain⟨hi,rfl⟩:=Y9 hx;refine Ut tg (λσ2 h=>?_) (ht xs[i] (XY hi) _ (SameM.new hD (.lst (((xs.take i).filter b).map g))));rw[wI];refine Xc hΦ test (λv M2 ⟨e1,e2,e3⟩=>?_) h;subst e1 e2;have et:xs.take (i+1)=xs.take i++[xs[i]]:=by rw[ZZ,X6 hi];rfl
  refine⟨b xs[i],rfl,?_⟩;by_cases hb:b xs[i]=true
  ·rw[if_pos hb];refine Xc hΦ elt (λy M2 ⟨e1,e2⟩=>?_) (e3 hb);subst e1 e2;refine⟨Xb,C3,?_⟩;rw[et,List.filter_append,Y4,List.filter_cons_of_pos hb]
   rfl
  ·rw[if_neg hb];refine⟨rfl,?_⟩;rw[et,List.filter_append,Y4,List.filter_cons_of_neg hb];simp
 ·rintro ys M2 ⟨rfl,rfl⟩;rw[hl,YQ (Xh _),WG h3];exact q D hD
structure Std where
 num:List Nat
 wd:List (List (Key×MV))
 giv:List (List Int)
 tak:List Nat
structure StA where
 pn:Addr
 pw:Addr
 pg:Addr
 pt:Addr
 ws:List Addr
 gs:List Addr
noncomputable def StA.mv(A:StA):MV:=.tup [.ref A.pn,.ref A.pw,.ref A.pg,.ref A.pt]
noncomputable def natM(n:Nat):MV:=.int n
structure StdAt (W:Wld) (S:Std) (M:MH) (A:StA):Prop where
 n:M A.pn=some (.dic (zipK W.ins (S.num.map natM)))
 w:M A.pw=some (.dic (zipK W.ins (A.ws.map MV.ref)))
 g:M A.pg=some (.dic (zipK W.fns (A.gs.map MV.ref)))
 t:M A.pt=some (.dic (zipK W.fns (S.tak.map natM)))
 wl:A.ws.length=W.isl.length
 gl:A.gs.length=W.fer.length
 wv:∀(i:Nat) a kvs,A.ws[i]?=some a->S.wd[i]?=some kvs->M a=some (.dic kvs)
 gv:∀(j:Nat) a xs,A.gs[j]?=some a->S.giv[j]?=some xs->M a=some (.lst (xs.map MV.int))
theorem StdAt.keep{W:Wld}{S:Std}{M M':MH}{A:StA}(s:SameM M M')(h:StdAt W S M A):StdAt W S M' A:=
 ⟨s _ _ h.n,s _ _ h.w,s _ _ h.g,s _ _ h.t,h.wl,h.gl,λi a k x y=>s _ _ (h.wv i a k x y),λi a k x y=>s _ _ (h.gv i a k x y)⟩
noncomputable def WdOk(w:Nat)(I:Isl)(kvs:List (Key×MV)):Prop:=∃vs:List Int,vs.length=I.vars.length/\kvs=zipK I.vars (vs.map MV.int)/\∀v∈vs,0≤v/\v<2^w
structure SOk (W:Wld) (c:Nat) (S:Std):Prop where
 nl:S.num.length=W.isl.length
 wl:S.wd.length=W.isl.length
 gl:S.giv.length=W.fer.length
 tl:S.tak.length=W.fer.length
 ni:∀(i:Nat) I n,W.isl[i]?=some I->S.num[i]?=some n->n≤I.stps.length
 wi:∀(i:Nat) I kvs,W.isl[i]?=some I->S.wd[i]?=some kvs->WdOk W.w I kvs
 gi:∀xs∈S.giv,xs.length≤c/\∀v∈xs,0≤v/\v<2^W.w
 ti:∀(j:Nat) xs n,S.giv[j]?=some xs->S.tak[j]?=some n->n≤xs.length
noncomputable def rhoK(kvs:List (Key×MV))(x:Str):Int:=match valM kvs (Xf x)with
 |some (.int i)=>i
 |_=>0
theorem WdOk.at{k:Nat}{I:Isl}{kvs:List (Key×MV)}(h:WdOk k I kvs)(nd:I.vars.Nodup){x:Str}(hx:x∈I.vars):valM kvs (Xf x)=some (.int (rhoK kvs x))/\0≤rhoK kvs x/\rhoK kvs x<2^k:=by
 obtain⟨vs,hl,rfl,hv⟩:=h;obtain⟨i,hi,rfl⟩:=Y0 hx;have hi2:i<vs.length:=by lia
 have e:valM (zipK I.vars (vs.map MV.int)) (Xf I.vars[i])=some (.int vs[i]):=Zl (i:=i) nd (X6 hi) (by rw[Xg,X6 hi2];rfl)
 have e2:rhoK (zipK I.vars (vs.map MV.int)) I.vars[i]=vs[i]:=by unfold rhoK;rw[e]
 rw[e2];exact⟨e,hv _ (XY hi2)⟩
theorem WdOk.reads{k:Nat}{I:Isl}{kvs:List (Key×MV)}(h:WdOk k I kvs)(nd:I.vars.Nodup):readsOk I.vars kvs (rhoK kvs) k:=λ_ hx=>h.at nd hx
theorem WdOk.len{k:Nat}{I:Isl}{kvs:List (Key×MV)}(h:WdOk k I kvs):kvs.length=I.vars.length:=by
 obtain⟨vs,hl,rfl,hv⟩:=h;exact Yl (by rw[X2];exact hl)
theorem WdOk.nodup{k:Nat}{I:Isl}{kvs:List (Key×MV)}(h:WdOk k I kvs)(nd:I.vars.Nodup):(kvs.map (·.1)).Nodup/\∀p∈kvs,Yv p.2=true:=by
 obtain⟨vs,hl,rfl,hv⟩:=h;have l2:(vs.map MV.int).length=I.vars.length:=by rw[X2];exact hl
 refine⟨?_,?_⟩
 ·rw[Ct l2];unfold List.Nodup;rw[List.pairwise_map];exact GO (λh e=>h (Us e)) nd
 ·have gen:∀(ks:List Str) (vs:List Int),∀p∈zipK ks (vs.map MV.int),Yv p.2=true:=by
   intro ks
   induction ks with
   |nil=>intro vs p hp;cases hp
   |cons k ks ih=>
    intro vs p hp;cases vs with
    |nil=>cases hp
    |cons v vs=>
     rcases Xn.mp hp with rfl|hp
     ·rfl
     ·exact ih vs p hp
  exact gen _ _
theorem WdOk.put{k:Nat}{I:Isl}{kvs:List (Key×MV)}(h:WdOk k I kvs)(nd:I.vars.Nodup){x:Str}(hx:x∈I.vars){v:Int}(hv:0≤v/\v<2^k):WdOk k I (putM kvs (Xf x) (.int v)):=by
 obtain⟨vs,hl,rfl,hr⟩:=h;obtain⟨i,hi,rfl⟩:=Y0 hx;refine⟨vs.set i v,by rw[UJ];exact hl,?_,λu hu=>?_⟩
 ·rw[UB (i:=i) (by rw[X2];exact hl) nd (X6 hi),UM]
 ·rcases CQ hu with hu|rfl
  ·exact hr u hu
  ·exact hv
noncomputable def Wld.fat(W:Wld)(f:Str):Nat:=W.fns.idxOf f
theorem Ye{W:Wld}{f:Str}(h:f∈W.fns):W.fns[W.fat f]?=some f/\W.fat f<W.fer.length:=by
 have l:W.fns.idxOf f<W.fns.length:=List.idxOf_lt_length_iff.mpr h;refine⟨?_,by unfold Wld.fns at l;rw[X2]at l;exact l⟩
 unfold Wld.fat;rw[X6 l,List.getElem_idxOf l]
noncomputable def canM(W:Wld)(S:Std):Stp->Bool
 |.take f _=>decide (S.tak.getD (W.fat f) 0<(S.giv.getD (W.fat f) []).length)
 |.give f _=>decide (((S.giv.getD (W.fat f) []).length:Int) - (S.tak.getD (W.fat f) 0:Nat)<2^(W.fer.map (·.k)).getD (W.fat f) 0)
 |_=>true
noncomputable def ZR(W:Wld)(S:Std):Stp->MV
 |.take f _=>.int ((S.giv.getD (W.fat f) []).getD (S.tak.getD (W.fat f) 0) 0)
 |_=>.non
noncomputable def givM(W:Wld)(ρ:Str->Int)(s:Stp)(g:List (List Int)):List (List Int):=match s with
 |.give f T=>g.set (W.fat f) (g.getD (W.fat f) []++[T.val ρ W.w])
 |_=>g
noncomputable def takM(W:Wld)(S:Std)(s:Stp)(t:List Nat):List Nat:=match s with
 |.take f _=>t.set (W.fat f) (S.tak.getD (W.fat f) 0+1)
 |_=>t
noncomputable def YN(W:Wld)(S:Std)(i:Nat)(s:Stp)(B:Std):Std:=
 {num:=B.num.set i (Ya s (rhoK (S.wd.getD i [])) W.w (S.num.getD i 0)).toNat
  wd:=B.wd.set i (Ue s (S.wd.getD i []) (rhoK (S.wd.getD i [])) W.w (ZR W S s))
  giv:=givM W (rhoK (S.wd.getD i [])) s B.giv
  tak:=takM W S s B.tak}
noncomputable def YB(W:Wld)(S:Std)(i:Nat)(I:Isl):Option Stp:=match I.stps[S.num.getD i 0]? with
 |some s=>if canM W S s then some s else none
 |none=>none
noncomputable def Yf(W:Wld)(S:Std)(i:Nat)(p:Std×List Str):Std×List Str:=match W.isl[i]? with
 |some I=>match YB W S i I with
  |some s=>(YN W S i s p.1,p.2++[I.name])
  |none=>p
 |none=>p
noncomputable def Xp(W:Wld)(S:Std):Nat->Std×List Str
 |0=>(S,[])
 |i+1=>Yf W S i (Xp W S i)
theorem UC{W:Wld}(G:W.Good){i:Nat}{I:Isl}(hI:W.isl[i]?=some I) {n:Nat} {s:Stp} (hs:I.stps[n]?=some s):Ze W.fns I.vars I.stps.length s:=(G.io I (Xk hI)).st s (Xk hs)
theorem PV{fs ns:List Str}{n:Nat}{s:Stp}(h:Ze fs ns n s):s.ok ns n:=by
 cases s with
 |take f x=>exact h.2
 |give f T=>exact h.2
 |put x T=>exact h
 |jump T i=>exact h
theorem PX{s:Stp}{fs ns:List Str}{k:Nat}(h:Ze fs ns k s){ρ:Str->Int}{w n:Nat}(hn:n<k):0≤Ya s ρ w n/\(Ya s ρ w n).toNat≤k/\Ya s ρ w n=((Ya s ρ w n).toNat:Int):=by
 have a:0≤Ya s ρ w n/\Ya s ρ w n≤k:=by
  cases s with
  |jump T j=>
   obtain⟨_,h1,h2⟩:=h;unfold Ya;dsimp only;split
   ·exact⟨h1,h2⟩
   ·lia
  |take f x=>unfold Ya;dsimp only;lia
  |give f x=>unfold Ya;dsimp only;lia
  |put f x=>unfold Ya;dsimp only;lia
 lia
theorem ZS{α:Type}{xs:List α}{i j:Nat}{v x:α}(h:(xs.set i v)[j]?=some x):(j=i/\x=v)\/(j≠i/\xs[j]?=some x):=by
 rw[UI]at h;by_cases e:i=j
 ·subst e;rw[if_pos rfl]at h;split at h
  ·exact .inl ⟨rfl,(Yk h).symm⟩
  ·cases h
 ·rw[if_neg e]at h;exact .inr ⟨λz=>e z.symm,h⟩
noncomputable def Cv(S B:Std):Prop:=∀(j:Nat) xs ys,S.giv[j]?=some xs->B.giv[j]?=some ys->xs.length≤ys.length
theorem SOk.up{W:Wld}{c d:Nat}{S:Std}(h:SOk W c S)(l:c≤d):SOk W d S:=⟨h.nl,h.wl,h.gl,h.tl,h.ni,h.wi,λxs hx=>⟨XV (h.gi xs hx).1 l,(h.gi xs hx).2⟩,h.ti⟩
theorem FM{W:Wld}{c:Nat}{S:Std}(h:SOk W c S){i:Nat}{I:Isl}(hI:W.isl[i]?=some I):S.num[i]?=some (S.num.getD i 0):=by
 have l:i<S.num.length:=by rw[h.nl];exact(Xx.mp hI).1
 rw[Y2,X6 l];rfl
theorem Z3{W:Wld}{c:Nat}{S:Std}(h:SOk W c S){i:Nat}{I:Isl}(hI:W.isl[i]?=some I):S.wd[i]?=some (S.wd.getD i []):=by
 have l:i<S.wd.length:=by rw[h.wl];exact(Xx.mp hI).1
 rw[Y2,X6 l];rfl
theorem ZT{W:Wld}{c:Nat}{S:Std}(h:SOk W c S){j:Nat}(hj:j<W.fer.length):S.giv[j]?=some (S.giv.getD j []):=by
 have l:j<S.giv.length:=by rw[h.gl];exact hj
 rw[Y2,X6 l];rfl
theorem FN{W:Wld}{c:Nat}{S:Std}(h:SOk W c S){j:Nat}(hj:j<W.fer.length):S.tak[j]?=some (S.tak.getD j 0):=by
 have l:j<S.tak.length:=by rw[h.tl];exact hj
 rw[Y2,X6 l];rfl
theorem Cw{W:Wld}{S:Std}{i:Nat}{I:Isl}{s:Stp}(h:YB W S i I=some s):I.stps[S.num.getD i 0]?=some s/\canM W S s=true:=by
 unfold YB at h;split at h
 ·rename_i s' e
  split at h
  ·cases h;exact⟨e,‹_›⟩
  ·cases h
 ·cases h
theorem FO{W:Wld}{c:Nat}{S:Std}(hS:SOk W c S){f x:Str}(hf:f∈W.fns)(hc:canM W S (.take f x)=true):∃v,ZR W S (.take f x)=.int v/\(S.giv.getD (W.fat f) [])[S.tak.getD (W.fat f) 0]?=some v/\0≤v/\v<2^W.w:=by
 have l:=(Ye hf).2;have hc:S.tak.getD (W.fat f) 0<(S.giv.getD (W.fat f) []).length:=of_decide_eq_true hc;refine⟨_,rfl,?_,?_⟩
 ·rw[Y2 (l:=S.giv.getD (W.fat f) []),X6 hc];rfl
 ·rw[Y2 (l:=S.giv.getD (W.fat f) []),X6 hc];exact(hS.gi _ (Xk (ZT hS l))).2 _ (XY hc)
theorem Ziq{W:Wld}(G:W.Good){c:Nat}{S:Std}(hS:SOk W c S){i:Nat}{I:Isl}(hI:W.isl[i]?=some I) {s:Stp} (hg:YB W S i I=some s):WdOk W.w I (Ue s (S.wd.getD i []) (rhoK (S.wd.getD i [])) W.w (ZR W S s)):=by
 obtain⟨hs,hc⟩:=Cw hg;have si:=UC G hI hs;have wd:=hS.wi i I _ hI (Z3 hS hI);have nd:=(G.io I (Xk hI)).nd;cases s with
 |take f x=>
  obtain⟨v,e,_,hv⟩:=FO hS si.1 hc;rw[e];exact wd.put nd si.2 hv
 |give f T=>exact wd
 |put x T=>exact wd.put nd si.1 (Tm.val_in G.w1 λy hy=>(wd.at nd (si.2.2.2 y hy)).2)
 |jump T j=>exact wd
theorem ZgF{W:Wld}(G:W.Good){c d:Nat}{S B:Std}(hS:SOk W c S)(hB:SOk W d B)(gr:Cv S B){i:Nat}{I:Isl}(hI:W.isl[i]?=some I) {s:Stp} (hg:YB W S i I=some s):
  SOk W (d+1) (YN W S i s B)/\Cv S (YN W S i s B):=by
 obtain⟨hs,hc⟩:=Cw hg;have si:=UC G hI hs;have hn:S.num.getD i 0<I.stps.length:=(Xx.mp hs).1;have wd:=hS.wi i I _ hI (Z3 hS hI);have nd:=(G.io I (Xk hI)).nd;have gl:(givM W (rhoK (S.wd.getD i [])) s B.giv).length=B.giv.length:=by
  cases s<;>simp[givM]
 have tl:(takM W S s B.tak).length=B.tak.length:=by
  cases s<;>simp[takM]
 have gat:∀(j:Nat) ys,(givM W (rhoK (S.wd.getD i [])) s B.giv)[j]?=some ys->∃zs,B.giv[j]?=some zs/\zs.length≤ys.length/\ys.length≤zs.length+1/\∀v∈ys,v∈zs\/(0≤v/\v<2^W.w):=by
  intro j ys h;cases s with
  |give f T=>
   have h:(B.giv.set (W.fat f) (B.giv.getD (W.fat f) []++[T.val (rhoK (S.wd.getD i [])) W.w]))[j]?=some ys:=h;rcases ZS h with⟨rfl,rfl⟩|⟨_,h⟩
   ·refine⟨_,ZT hB (Ye si.1).2,by simp,by simp,λv hv=>?_⟩
    rcases Ys.mp hv with hv|hv
    ·exact .inl hv
    ·rw[YE]at hv;subst hv;exact .inr (Tm.val_in G.w1 λy hy=>(wd.at nd (si.2.2.2 y hy)).2)
   ·exact⟨ys,h,Xh _,Uo _,λv hv=>.inl hv⟩
  |take f x=>exact⟨ys,h,Xh _,Uo _,λv hv=>.inl hv⟩
  |put f x=>exact⟨ys,h,Xh _,Uo _,λv hv=>.inl hv⟩
  |jump f x=>exact⟨ys,h,Xh _,Uo _,λv hv=>.inl hv⟩
 have tat:∀(j:Nat) n,(takM W S s B.tak)[j]?=some n->B.tak[j]?=some n\/(j<W.fer.length/\n=S.tak.getD j 0+1/\S.tak.getD j 0<(S.giv.getD j []).length):=by
  intro j n h;cases s with
  |take f x=>
   have h:(B.tak.set (W.fat f) (S.tak.getD (W.fat f) 0+1))[j]?=some n:=h;rcases ZS h with⟨rfl,rfl⟩|⟨_,h⟩
   ·exact .inr ⟨(Ye si.1).2,rfl,of_decide_eq_true hc⟩
   ·exact .inl h
  |give f x=>exact .inl h
  |put f x=>exact .inl h
  |jump f x=>exact .inl h
 refine⟨⟨by simp[YN,hB.nl],by simp[YN,hB.wl],gl.trans hB.gl,tl.trans hB.tl,?_,?_,?_,?_⟩,?_⟩
 ·intro i' I' n hI' h;rcases ZS (show(B.num.set i _)[i']?=some n from h)with⟨rfl,rfl⟩|⟨_,h⟩
  ·rw[hI]at hI';cases hI';exact(PX si hn).2.1
  ·exact hB.ni i' I' n hI' h
 ·intro i' I' kvs hI' h;rcases ZS (show(B.wd.set i _)[i']?=some kvs from h)with⟨rfl,rfl⟩|⟨_,h⟩
  ·rw[hI]at hI';cases hI';exact Ziq G hS hI hg
  ·exact hB.wi i' I' kvs hI' h
 ·intro ys hy;obtain⟨j,hj,rfl⟩:=Y0 hy;obtain⟨zs,z1,z2,z3,z4⟩:=gat j _ (X6 hj);have:=hB.gi zs (Xk z1);refine⟨by have:=this.1;lia,λv hv=>?_⟩
  rcases z4 v hv with hv|hv
  ·exact this.2 v hv
  ·exact hv
 ·intro j ys n hy hn;obtain⟨zs,z1,z2,z3,z4⟩:=gat j _ hy;rcases tat j n hn with h|⟨h1,rfl,h2⟩
  ·exact XV (hB.ti j zs n z1 h) z2
  ·have:=gr j _ zs (ZT hS h1) z1;lia
 ·intro j xs ys hx hy;obtain⟨zs,z1,z2,z3,z4⟩:=gat j _ hy;exact XV (gr j xs zs hx z1) z2
theorem VQ{W:Wld}(G:W.Good){c:Nat}{S:Std}(hS:SOk W c S):∀i:Nat,SOk W (c+i) (Xp W S i).1/\Cv S (Xp W S i).1/\(∀z∈(Xp W S i).2,z∈W.ins)/\(Xp W S i).2.length≤i
 |0=>⟨hS,λj xs ys h1 h2=>by rw[show(Xp W S 0).1=S from rfl,h1]at h2;cases h2;exact Xh _,λz h=>(nomatch h),Xh _⟩
 |i+1=>by
  obtain⟨h1,h2,h3,h4⟩:=VQ G hS i;show SOk W (c+(i+1)) (Yf W S i (Xp W S i)).1/\Cv S (Yf W S i (Xp W S i)).1/\(∀z∈(Yf W S i (Xp W S i)).2,z∈W.ins)/\(Yf W S i (Xp W S i)).2.length≤i+1;unfold Yf;split
  ·rename_i I hI
   split
   ·rename_i s hg
    obtain⟨a,b⟩:=ZgF G hS h1 h2 hI hg;refine⟨a,b,λz hz=>?_,by simp;lia⟩
    rcases Ys.mp hz with hz|hz
    ·exact h3 z hz
    ·rw[YE]at hz;subst hz;exact XI.mpr ⟨I,Xk hI,rfl⟩
   ·exact⟨h1.up (by lia),h2,h3,by lia⟩
  ·exact⟨h1.up (by lia),h2,h3,by lia⟩
noncomputable def Cy(W:Wld)(S:Std):Std:=(Xp W S W.isl.length).1
noncomputable def PY(W:Wld)(S:Std):List Str:=(Xp W S W.isl.length).2
theorem Wld.Good.in_nd{W:Wld}(G:W.Good):W.ins.Nodup:=(Zx.mp G.nd).2.1
theorem Wld.Good.fn_nd{W:Wld}(G:W.Good):W.fns.Nodup:=(Zx.mp G.nd).1
theorem ZU{W:Wld}{i:Nat}{I:Isl}(h:W.isl[i]?=some I):W.ins[i]?=some I.name:=by unfold Wld.ins;rw[Xg,h];rfl
theorem FP{W:Wld}{i:Nat}{f:Fer}(h:W.fer[i]?=some f):W.fns[i]?=some f.name:=by unfold Wld.fns;rw[Xg,h];rfl
noncomputable abbrev VR:SpM:=λvs M Q=>∃(ns:List Str) (ys:List MV) (i:Nat) (z:Str) (y:MV),vs=[.tup ys,.str z]/\(∀(j:Nat) u,ys[j]?=some u->∃x r,u=.tup (.str x::r)/\ns[j]?=some x)/\ns.Nodup/\ns[i]?=some z/\ys[i]?=some y/\Q y M
theorem PZ:MonW VR:=by walk_at "m"
theorem Q0(T:Txt K mg t):FnOk P w K mg base CX0 1 t.f_one_called t.d_one_called ["row","name"] (liSp K VR):=by
 refine T.q_one_called.F.okM ZbZ (Xs (Φ:=[]) (Xt T) (Xu T) rfl nl0 nl0:Fts P w K mg base 0 LN []) EQ Zcw (λvs M Q h=>?_) (λvs M Q h=>?_)
 ·obtain⟨_,_,_,_,_,rfl,_⟩:=h;rfl
 obtain⟨ns,ys,i,z,y,rfl,ha,nd,hz,hy,q⟩:=h;show wSs _ _ _ [some (.tup ys),some (.str z),none] M;delta EQ LM;walk_at "s";obtain⟨J,hJ⟩:∃J:Nat->Sm->MH->Prop,∀j σ M',J j σ M'↔M'=M/\j≤i/\∃v,σ=[some (.tup ys),some (.str z),v]:=⟨_,λ_ _ _=>XT⟩;refine⟨J,(hJ _ _ _).mpr ⟨rfl,YL _,_,rfl⟩,λj σ M' h=>trivial,?_,?_⟩
 ·rintro j u σ M' hu h;obtain⟨rfl,hj,v,rfl⟩:=(hJ _ _ _).mp h;have hu:ys[j]?=some u:=hu;obtain⟨x,r,rfl,hx⟩:=ha j u hu;delta LL;walk_at "s";refine Y8 (λe=>?_) (λe=>?_)
  ·subst e;have hij:j=i:=(Zz (Xx.mp hx).1 nd).mp (hx.trans hz.symm);subst hij;delta LK;walk_at "s";rw[hy]at hu;cases hu;exact q
  ·refine(hJ _ _ _).mpr ⟨rfl,?_,_,rfl⟩;rcases Nat.lt_or_ge j i with l|l
   ·exact l
   ·exfalso;have hij:j=i:=Nat.le_antisymm hj l;subst hij;rw[hx]at hz;exact e (Yk hz)
 ·rintro σ M' h;exfalso;obtain⟨_,hj,_⟩:=(hJ _ _ _).mp h;have hj:ys.length≤i:=hj;have:=(Xx.mp hy).1;lia
noncomputable abbrev V6:SpM:=λvs M Q=>∃(W:Wld) (i:Nat) (I:Isl),vs=[W.mv,.str I.name]/\W.Good/\W.isl[i]?=some I/\Q I.mv M
theorem Q1:MonW V6:=by walk_at "m"
theorem Q2(T:Txt K mg t):FnOk P w K mg base CX0 2 t.f_island_of t.d_island_of ["world","name"] (liSp K V6):=by
 refine T.q_island_of.F.okM ZcQ (Xs (Φ:=[("one_called",VR)]) (Xt T) (Xu T) rfl (fMc ⟨PZ,nl0⟩) (fMc ⟨⟨_,_,_,(FnOk.mono (Q0 T) (by decide)),T.q_one_called.m,T.q_one_called.F.kp,T.q_one_called.b⟩,nl0⟩):Fts P w K mg base 1 LP [("one_called",VR)]) ER ZdD (fun vs M Q h=>?_) (fun vs M Q h=>?_)
 ·obtain⟨_,_,_,rfl,_⟩:=h;rfl
 obtain⟨W,i,I,rfl,G,hI,q⟩:=h;show wSs _ _ _ [some W.mv,some (.str I.name)] M;delta ER LO;rw[Wld.mv];walk_at "s";refine⟨W.ins,W.isl.map Isl.mv,i,I.name,I.mv,rfl,λj u hu=>?_,G.in_nd,ZU hI,by rw[Xg,hI];rfl,q⟩
 obtain⟨hj,rfl⟩:=Y9 hu;exact⟨_,_,rfl,ZU (X6 hj)⟩
noncomputable abbrev Cz:SpM:=λvs M Q=>∃(W:Wld) (i:Nat) (f:Fer),vs=[W.mv,.str f.name]/\W.Good/\W.fer[i]?=some f/\Q f.mv M
theorem Z9Y:MonW Cz:=by walk_at "m"
theorem Zel(T:Txt K mg t):FnOk P w K mg base CX0 2 t.f_ferry_of t.d_ferry_of ["world","name"] (liSp K Cz):=by
 refine T.q_ferry_of.F.okM Zeg (Xs (Φ:=[("one_called",VR)]) (Xt T) (Xu T) rfl (fMc ⟨PZ,nl0⟩) (fMc ⟨⟨_,_,_,(FnOk.mono (Q0 T) (by decide)),T.q_one_called.m,T.q_one_called.F.kp,T.q_one_called.b⟩,nl0⟩):Fts P w K mg base 1 LR [("one_called",VR)]) ES ZeR (fun vs M Q h=>?_) (fun vs M Q h=>?_)
 ·obtain⟨_,_,_,rfl,_⟩:=h;rfl
 obtain⟨W,i,I,rfl,G,hI,q⟩:=h;show wSs _ _ _ [some W.mv,some (.str I.name)] M;delta ES LQ;rw[Wld.mv];walk_at "s";refine⟨W.fns,W.fer.map Fer.mv,i,I.name,I.mv,rfl,λj u hu=>?_,G.fn_nd,FP hI,by rw[Xg,hI];rfl,q⟩
 obtain⟨hj,rfl⟩:=Y9 hu;exact⟨_,_,rfl,FP (X6 hj)⟩
theorem V7{W:Wld}(G:W.Good){c:Nat}{S:Std}(hS:SOk W c S){i:Nat}{I:Isl}(hI:W.isl[i]?=some I):valM (zipK W.ins (S.num.map natM)) (Xf I.name)=some (.int (S.num.getD i 0:Nat)):=Zl G.in_nd (ZU hI) (by rw[Xg,FM hS hI];rfl)
theorem Zf{W:Wld}(G:W.Good){ws:List Addr}{i:Nat}{I:Isl}{a:Addr}(hI:W.isl[i]?=some I) (ha:ws[i]?=some a):valM (zipK W.ins (ws.map MV.ref)) (Xf I.name)=some (.ref a):=Zl G.in_nd (ZU hI) (by rw[Xg,ha];rfl)
theorem Zm{W:Wld}(G:W.Good){gs:List Addr}{f:Str}{a:Addr}(hf:f∈W.fns)(ha:gs[W.fat f]?=some a):valM (zipK W.fns (gs.map MV.ref)) (Xf f)=some (.ref a):=Zl G.fn_nd (Ye hf).1 (by rw[Xg,ha];rfl)
theorem Uf{W:Wld}(G:W.Good){c:Nat}{S:Std}(hS:SOk W c S){f:Str}(hf:f∈W.fns):valM (zipK W.fns (S.tak.map natM)) (Xf f)=some (.int (S.tak.getD (W.fat f) 0:Nat)):=Zl G.fn_nd (Ye hf).1 (by rw[Xg,FN hS (Ye hf).2];rfl)
theorem StdAt.ws_at{W:Wld}{S:Std}{M:MH}{A:StA}(h:StdAt W S M A){c:Nat}(hS:SOk W c S){i:Nat}{I:Isl}(hI:W.isl[i]?=some I):∃a,A.ws[i]?=some a/\M a=some (.dic (S.wd.getD i [])):=by
 have l:i<A.ws.length:=by rw[h.wl];exact(Xx.mp hI).1
 exact⟨_,X6 l,h.wv i _ _ (X6 l) (Z3 hS hI)⟩
theorem StdAt.gs_at{W:Wld}{S:Std}{M:MH}{A:StA}(h:StdAt W S M A){c:Nat}(hS:SOk W c S){f:Str}(hf:f∈W.fns):∃a,A.gs[W.fat f]?=some a/\M a=some (.lst ((S.giv.getD (W.fat f) []).map MV.int)):=by
 have l:W.fat f<A.gs.length:=by rw[h.gl];exact(Ye hf).2
 exact⟨_,X6 l,h.gv _ _ _ (X6 l) (ZT hS (Ye hf).2)⟩
noncomputable abbrev CA:SpM:=λvs M Q=>∃(W:Wld) (S:Std) (A:StA) (c i:Nat) (I:Isl),vs=[W.mv,A.mv,.str I.name]/\W.Good/\SOk W c S/\StdAt W S M A/\W.isl[i]?=some I/\Q (dueM I.stps (rhoK (S.wd.getD i [])) W.w (S.num.getD i 0)) M
theorem ZaW:MonW CA:=by walk_at "m"
theorem ZfR(T:Txt K mg t):FnOk P w K mg base CX0 51 t.f_wish_of t.d_wish_of ["world","stand","name"] (liSp K CA):=by
 refine T.q_wish_of.F.okM ZfH (Xs (Φ:=[("island_of",V6),("wish",Ck)]) (Xt T) (Xu T) rfl (fMc ⟨Q1,(fMc ⟨Zen,nl0⟩)⟩) (fMc ⟨⟨_,_,_,(FnOk.mono (Q2 T) (by decide)),T.q_island_of.m,T.q_island_of.F.kp,T.q_island_of.b⟩,(fMc ⟨⟨_,_,_,(FnOk.mono (Zlw T) (by decide)),T.q_wish.m,T.q_wish.F.kp,T.q_wish.b⟩,nl0⟩)⟩):Fts P w K mg base 50 Me [("island_of",V6),("wish",Ck)]) EV Zgd (fun vs M Q h=>?_) (fun vs M Q h=>?_)
 ·obtain⟨_,_,_,_,_,_,rfl,_⟩:=h;rfl
 obtain⟨W,S,A,c,i,I,rfl,G,hS,hA,hI,q⟩:=h;show wSs _ _ _ [some W.mv,some A.mv,some (.str I.name)] M;obtain⟨a,a1,a2⟩:=hA.ws_at hS hI;have ok:=G.io I (Xk hI);delta EV Md;rw[Wld.mv,StA.mv]
 repeat (first|walk_at "s"|simp only[hA.n,hA.w])
 refine⟨W,i,I,rfl,G,hI,?_⟩;rw[Isl.mv]
 repeat (first|walk_at "s"|simp only[hA.n,hA.w])
 refine⟨_,V7 G hS hI,_,Zf G hI a1,?_⟩;refine⟨_,a,I.stps,S.num.getD i 0,W.w,S.wd.getD i [],rhoK (S.wd.getD i []),I.vars,rfl,.inl rfl,λs hs=>PV (ok.st s hs),hS.ni i I _ hI (FM hS hI),G.w1,G.w2,a2,(hS.wi i I _ hI (Z3 hS hI)).reads ok.nd,q⟩
noncomputable def askM(s:Stp)(ρ:Str->Int)(w:Nat):MV:=match s with
 |.take f _=>.tup [.str "take",.str f]
 |.give f T=>.tup [.str "give",.str f,.int (T.val ρ w)]
 |_=>.tup [.str "own"]
theorem Zmi{ss:List Stp}{i:Nat}{s:Stp}(h:ss[i]?=some s) (ρ:Str->Int) (w:Nat):dueM ss ρ w i=askM s ρ w:=by
 unfold dueM;rw[h];cases s<;>rfl
noncomputable abbrev CB:SpM:=λvs M Q=>∃(W:Wld) (S:Std) (A:StA) (c:Nat) (s:Stp) (ρ:Str->Int) (ns:List Str) (k:Nat),vs=[W.mv,A.mv,askM s ρ W.w]/\W.Good/\SOk W c S/\StdAt W S M A/\Ze W.fns ns k s/\Q (.bl (canM W S s)) M
theorem Zcf:MonW CB:=by walk_at "m"
theorem Zhb(T:Txt K mg t):FnOk P w K mg base CX0 3 t.f_can_be t.d_can_be ["world","stand","asked"] (liSp K CB):=by
 refine T.q_can_be.F.okM ZgP (Xs (Φ:=[("ferry_of",Cz),("two_to",Uw)]) (Xt T) (Xu T) rfl (fMc ⟨Z9Y,(fMc ⟨Fw,nl0⟩)⟩) (fMc ⟨⟨_,_,_,(FnOk.mono (Zel T) (by decide)),T.q_ferry_of.m,T.q_ferry_of.F.kp,T.q_ferry_of.b⟩,(fMc ⟨⟨_,_,_,(FnOk.mono (Fx T) (by decide)),T.q_two_to.m,T.q_two_to.F.kp,T.q_two_to.b⟩,nl0⟩)⟩):Fts P w K mg base 2 Mj [("ferry_of",Cz),("two_to",Uw)]) EZ Zid (fun vs M Q h=>?_) (fun vs M Q h=>?_)
 ·obtain⟨_,_,_,_,_,_,_,_,rfl,_⟩:=h;rfl
 obtain⟨W,S,A,c,s,ρ,ns,k,rfl,G,hS,hA,si,q⟩:=h;show wSs _ _ _ [some W.mv,some A.mv,some (askM s ρ W.w),none] M;delta EZ Mi;rw[Wld.mv,StA.mv];cases s with
 |put x T=>
  simp only[askM];walk_at "s";delta EY;walk_at "s";exact q
 |jump x T=>
  simp only[askM];walk_at "s";delta EY;walk_at "s";exact q
 |take f x=>
  simp only[askM];obtain⟨a,a1,a2⟩:=hA.gs_at hS si.1;walk_at "s";delta EX
  repeat (first|walk_at "s"|simp only[hA.g,hA.t])
  refine⟨_,Zm G si.1 a1,?_⟩
  repeat (first|walk_at "s"|simp only[a2,hA.t])
  refine⟨_,Uf G hS si.1,?_⟩;walk_at "s";delta EW;walk_at "s";delta Mh;walk_at "s";have e:canM W S (.take f x)=decide ((((S.giv.getD (W.fat f) []).map MV.int).length:Int) - (S.tak.getD (W.fat f) 0:Nat)>0):=by
   unfold canM;rw[X2];exact decide_eq_decide.mpr ⟨λh=>by lia,λh=>by lia⟩
  rw[e]at q;exact q
 |give f T=>
  simp only[askM];obtain⟨a,a1,a2⟩:=hA.gs_at hS si.1;obtain⟨hf1,hf2⟩:=Ye si.1;have hf3:=X6 hf2;have hn:(W.fer[W.fat f]).name=f:=by have:=FP hf3;rw[hf1]at this;exact(Yk this).symm
  have fo:=G.fo _ (XY hf2);have k3:=fo.k3;walk_at "s";delta EX
  repeat (first|walk_at "s"|simp only[hA.g,hA.t])
  refine⟨_,Zm G si.1 a1,?_⟩
  repeat (first|walk_at "s"|simp only[a2,hA.t])
  refine⟨_,Uf G hS si.1,?_⟩;walk_at "s";delta EW;walk_at "s";delta Mg;walk_at "s";refine⟨W,W.fat f,W.fer[W.fat f],by rw[hn];rfl,G,hf3,?_⟩
  rw[Fer.mv];walk_at "s";refine⟨(W.fer[W.fat f]).k,rfl,by lia,?_⟩
  walk_at "s";have e:(W.fer.map (·.k)).getD (W.fat f) 0=(W.fer[W.fat f]).k:=by rw[Y2,Xg,hf3];rfl
  have e2:canM W S (.give f T)=decide (((S.giv.getD (W.fat f) []).length:Int) - (S.tak.getD (W.fat f) 0:Nat)<2^(W.fer.map (·.k)).getD (W.fat f) 0):=rfl;rw[e2,e]at q;rw[X2];exact q
noncomputable def StA.own(A:StA):List Addr:=A.pn::A.pw::A.pg::A.pt::A.gs
structure StA.New (A:StA) (M0:MH):Prop where
 nd:A.own.Nodup
 fr:∀a∈A.own,M0 a=none
 ws:∀a∈A.ws,a∉A.own
theorem Zn{A:StA}(nd:A.own.Nodup):(A.pn≠A.pw/\A.pn≠A.pg/\A.pn≠A.pt/\A.pn∉A.gs)/\(A.pw≠A.pg/\A.pw≠A.pt/\A.pw∉A.gs)/\(A.pg≠A.pt/\A.pg∉A.gs)/\A.pt∉A.gs/\A.gs.Nodup:=by
 unfold StA.own at nd;simp only[YF,Xn,not_or]at nd;obtain⟨⟨a1,a2,a3,a4⟩,⟨b1,b2,b3⟩,⟨c1,c2⟩,d1,e⟩:=nd;exact⟨⟨a1,a2,a3,a4⟩,⟨b1,b2,b3⟩,⟨c1,c2⟩,d1,e⟩
theorem B0{M:MH}{x a:Addr}{o:MO}(h:updM M x o a=none):M a=none:=by
 by_cases e:a=x
 ·subst e;rw[Xb]at h;cases h
 ·rwa [X9 e]at h
theorem YV{A:StA}{a:Addr}(h:a∈A.gs):a∈A.own:=by simp[StA.own,h]
theorem StdAt.put_t{W:Wld}{B:Std}{M M0:MH}{A:StA}(h:StdAt W B M A)(N:A.New M0)(t:List Nat):StdAt W {B with tak:=t} (updM M A.pt (.dic (zipK W.fns (t.map natM)))) A:=by
 obtain⟨⟨a1,a2,a3,a4⟩,⟨b1,b2,b3⟩,⟨c1,c2⟩,d1,e⟩:=Zn N.nd;refine⟨?_,?_,?_,Xb,h.wl,h.gl,λi a k x y=>?_,λi a k x y=>?_⟩
 ·rw[X9 a3];exact h.n
 ·rw[X9 b2];exact h.w
 ·rw[X9 c1];exact h.g
 ·rw[X9 λz=>N.ws a (Xk x) (by rw[z];simp[StA.own])];exact h.wv i a k x y
 ·rw[X9 λz=>d1 (by rw[<- z];exact Xk x)];exact h.gv i a k x y
theorem StdAt.put_n{W:Wld}{B:Std}{M M0:MH}{A:StA}(h:StdAt W B M A)(N:A.New M0)(t:List Nat):StdAt W {B with num:=t} (updM M A.pn (.dic (zipK W.ins (t.map natM)))) A:=by
 obtain⟨⟨a1,a2,a3,a4⟩,⟨b1,b2,b3⟩,⟨c1,c2⟩,d1,e⟩:=Zn N.nd;refine⟨Xb,?_,?_,?_,h.wl,h.gl,λi a k x y=>?_,λi a k x y=>?_⟩
 ·rw[X9 λz=>a1 z.symm];exact h.w
 ·rw[X9 λz=>a2 z.symm];exact h.g
 ·rw[X9 λz=>a3 z.symm];exact h.t
 ·rw[X9 λz=>N.ws a (Xk x) (by rw[z];simp[StA.own])];exact h.wv i a k x y
 ·rw[X9 λz=>a4 (by rw[<- z];exact Xk x)];exact h.gv i a k x y
theorem StdAt.put_g{W:Wld}{B:Std}{M M0:MH}{A:StA}(h:StdAt W B M A)(N:A.New M0){j:Nat}{b:Addr}(hb:A.gs[j]?=some b) (xs:List Int):StdAt W {B with giv:=B.giv.set j xs} (updM M b (.lst (xs.map MV.int))) A:=by
 obtain⟨⟨a1,a2,a3,a4⟩,⟨b1,b2,b3⟩,⟨c1,c2⟩,d1,e⟩:=Zn N.nd;have hm:=Xk hb;refine⟨?_,?_,?_,?_,h.wl,h.gl,λi a k x y=>?_,λi a k x y=>?_⟩
 ·rw[X9 λz:A.pn=b=>a4 (by rw[z];exact hm)];exact h.n
 ·rw[X9 λz:A.pw=b=>b3 (by rw[z];exact hm)];exact h.w
 ·rw[X9 λz:A.pg=b=>c2 (by rw[z];exact hm)];exact h.g
 ·rw[X9 λz:A.pt=b=>d1 (by rw[z];exact hm)];exact h.t
 ·rw[X9 λz=>N.ws a (Xk x) (by rw[z];exact YV hm)];exact h.wv i a k x y
 ·rcases ZS y with⟨rfl,rfl⟩|⟨ne,y⟩
  ·rw[hb]at x;cases x;exact Xb
  ·rw[X9 λz=>ne ?_]
   ·exact h.gv i a k x y
   ·subst z;exact(Zz (Xx.mp x).1 e).mp (x.trans hb.symm)
theorem StdAt.put_w{W:Wld}{B:Std}{M M0:MH}{A:StA}(h:StdAt W B M A)(N:A.New M0)(i:Nat){p:Addr}{kvs:List (Key×MV)}(hp:M p=some (.dic kvs))(np:p∉A.own):
  StdAt W {B with wd:=B.wd.set i kvs} (updM M A.pw (.dic (zipK W.ins ((A.ws.set i p).map MV.ref)))) {A with ws:=A.ws.set i p}/\StA.New {A with ws:=A.ws.set i p} M0:=by
 obtain⟨⟨a1,a2,a3,a4⟩,⟨b1,b2,b3⟩,⟨c1,c2⟩,d1,e⟩:=Zn N.nd;refine⟨⟨?_,Xb,?_,?_,by rw[UJ];exact h.wl,h.gl,λi' a k x y=>?_,λj a k x y=>?_⟩,N.nd,N.fr,λa ha=>?_⟩
 ·rw[X9 a1];exact h.n
 ·rw[X9 λz=>b1 z.symm];exact h.g
 ·rw[X9 λz=>b2 z.symm];exact h.t
 ·have hm:a∉A.own:=by
   rcases ZS x with⟨_,rfl⟩|⟨_,x⟩
   ·exact np
   ·exact N.ws a (Xk x)
  rw[X9 λz=>hm (by rw[z];simp[StA.own])]
  rcases ZS x with⟨rfl,rfl⟩|⟨ne,x⟩
  ·rcases ZS y with⟨_,rfl⟩|⟨ne,y⟩
   ·exact hp
   ·exact(ne rfl).elim
  ·rcases ZS y with⟨rfl,_⟩|⟨_,y⟩
   ·exact(ne rfl).elim
   ·exact h.wv i' a k x y
 ·rw[X9 λz=>b3 (by rw[<- z];exact Xk x)];exact h.gv j a k x y
 ·rcases CQ ha with ha|rfl
  ·exact N.ws a ha
  ·exact np
noncomputable abbrev CC:SpM:=λvs M Q=>∃(W:Wld) (S B:Std) (A A2:StA) (M0:MH) (c d i:Nat) (I:Isl) (s:Stp),vs=[W.mv,A.mv,.str I.name,askM s (rhoK (S.wd.getD i [])) W.w,A2.mv]/\W.Good/\SOk W c S/\SOk W d B/\d≤1000/\StdAt W S M0 A/\SameM M0 M/\StdAt W B M A2/\A2.New M0/\W.isl[i]?=some I/\YB W S i I=some s/\
 ∀M' ws,SameM M0 M'->StA.New {A2 with ws:=ws} M0->(∀a∈ws,a∈A2.ws\/M a=none)->StdAt W (YN W S i s B) M' {A2 with ws:=ws}->Q .non M'
theorem ZaZ:MonW CC:=by walk_at "m"
theorem ZfU(T:Txt K mg t):FnOk P w K mg base CX0 52 t.f_do_step t.d_do_step ["world","stand","name","asked","behind"] (liSp K CC):=by
 refine T.q_do_step.F.okM ZfL (Xs (Φ:=[("after",AQ),("island_of",V6)]) (Xt T) (Xu T) rfl (fMc ⟨Zdc,(fMc ⟨Q1,nl0⟩)⟩) (fMc ⟨⟨_,_,_,(FnOk.mono (Zje T) (by decide)),T.q_after.m,T.q_after.F.kp,T.q_after.b⟩,(fMc ⟨⟨_,_,_,(FnOk.mono (Q2 T) (by decide)),T.q_island_of.m,T.q_island_of.F.kp,T.q_island_of.b⟩,nl0⟩)⟩):Fts P w K mg base 51 Mv [("after",AQ),("island_of",V6)]) F1 Zgh (fun vs M Q h=>?_) (fun vs M Q h=>?_)
 ·obtain⟨_,_,_,_,_,_,_,_,_,_,_,rfl,_⟩:=h;rfl
 obtain⟨W,S,B,A,A2,M0,c,d,i,I,s,rfl,G,hS,hB,hd,hA,s0,h2,N,hI,hg,q⟩:=h;show wSs _ _ _ [some W.mv,some A.mv,some (.str I.name),some (askM s (rhoK (S.wd.getD i [])) W.w),some A2.mv,none,none,none,none] M;obtain⟨hs,hc⟩:=Cw hg;have si:=UC G hI hs;have hn:S.num.getD i 0<I.stps.length:=(Xx.mp hs).1;have ok:=G.io I (Xk hI);have wd:=hS.wi i I _ hI (Z3 hS hI);have nv:=ok.nv;have i5:=G.i5;have f6:=G.f6;have vl:I.vars.length=I.prs.length:=by unfold Isl.vars;rw[X2]
 have li:W.ins.length=W.isl.length:=by unfold Wld.ins;rw[X2]
 have lf:W.fns.length=W.fer.length:=by unfold Wld.fns;rw[X2]
 have hIl:i<W.isl.length:=(Xx.mp hI).1;have rest:∀(M1:MH) (B1:Std) (v6:Option MV),SameM M0 M1->(∀a,M1 a=none->M a=none)->StdAt W B1 M1 A2->B1.num.length=W.isl.length->B1.giv.length=W.fer.length->{B1 with num:=B1.num.set i (Ya s (rhoK (S.wd.getD i [])) W.w (S.num.getD i 0)).toNat,wd:=B1.wd.set i (Ue s (S.wd.getD i []) (rhoK (S.wd.getD i [])) W.w (ZR W S s))}=YN W S i s B->
   wSs ([("after",AQ),("island_of",V6)]:List (Str×SpM)) F0 {nx:=fun _ M'=>Q .non M',rt:=Q} [some W.mv,some A.mv,some (.str I.name),some (askM s (rhoK (S.wd.getD i [])) W.w),some A2.mv,some (ZR W S s),v6,none,none] M1:=by
  intro M1 B1 v6 s1 fd h1 ln lg eB;have hA1:=hA.keep s1;obtain⟨a,a1,a2⟩:=hA1.ws_at hS hI;delta F0;walk_at "s";refine⟨W,i,I,rfl,G,hI,?_⟩;rw[Isl.mv];walk_at "s";delta Mn;rw[Wld.mv,StA.mv]
  repeat (first|walk_at "s"|simp only[hA1.n,hA1.w])
  refine⟨_,V7 G hS hI,_,Zf G hI a1,?_⟩;refine⟨_,a,I.stps,S.num.getD i 0,W.w,S.wd.getD i [],rhoK (S.wd.getD i []),I.vars,s,ZR W S s,rfl,.inl rfl,hs,PV si,G.w1,G.w2,a2,by rw[wd.len];lia,wd.reads ok.nd,λp hp=>?_⟩
  have s2:=SameM.new hp (.dic (Ue s (S.wd.getD i []) (rhoK (S.wd.getD i [])) W.w (ZR W S s)));have hp2:updM M1 p (.dic (Ue s (S.wd.getD i []) (rhoK (S.wd.getD i [])) W.w (ZR W S s))) p=some (.dic (Ue s (S.wd.getD i []) (rhoK (S.wd.getD i [])) W.w (ZR W S s))):=Xb;generalize updM M1 p _=M2 at*;have s02:=s1.trans s2;have h2:=h1.keep s2;have p0:=fd p hp;have np:p∉A2.own:=λz=>by
   have hh:∃o,M1 p=some o:=by
    unfold StA.own at z;simp only[Xn]at z;rcases z with z|z|z|z|z
    ·exact⟨_,z▸h1.n⟩
    ·exact⟨_,z▸h1.w⟩
    ·exact⟨_,z▸h1.g⟩
    ·exact⟨_,z▸h1.t⟩
    ·obtain⟨j,hj,e⟩:=Y0 z;have hj2:j<B1.giv.length:=by rw[lg,<- h1.gl];exact hj
     exact⟨_,e▸h1.gv j _ _ (X6 hj) (X6 hj2)⟩
   obtain⟨o,ho⟩:=hh;rw[hp]at ho;cases ho
  obtain⟨l1,l2,l3⟩:=PX (ρ:=rhoK (S.wd.getD i [])) (w:=W.w) si hn;walk_at "s";delta Mm;rw[StA.mv]
  repeat (first|walk_at "s"|simp only[h2.n])
  rw[Yl (by rw[X2,ln,li]),UB (i:=i) (by rw[X2,ln,li]) G.in_nd (ZU hI),l3]
  refine⟨by lia,?_⟩
  have e3:(B1.num.map natM).set i (.int ((Ya s (rhoK (S.wd.getD i [])) W.w (S.num.getD i 0)).toNat:Nat))=(B1.num.set i (Ya s (rhoK (S.wd.getD i [])) W.w (S.num.getD i 0)).toNat).map natM:=by rw[UM];rfl
  rw[e3];have h3:=h2.put_n N (B1.num.set i (Ya s (rhoK (S.wd.getD i [])) W.w (S.num.getD i 0)).toNat);have s3:=s02.upd (N.fr A2.pn (by simp[StA.own])) (.dic (zipK W.ins ((B1.num.set i (Ya s (rhoK (S.wd.getD i [])) W.w (S.num.getD i 0)).toNat).map natM)))
  have hp3:updM M2 A2.pn (.dic (zipK W.ins ((B1.num.set i (Ya s (rhoK (S.wd.getD i [])) W.w (S.num.getD i 0)).toNat).map natM))) p=some (.dic (Ue s (S.wd.getD i []) (rhoK (S.wd.getD i [])) W.w (ZR W S s))):=by rw[X9 λz=>np (by rw[z];simp[StA.own])];exact hp2
  generalize updM M2 A2.pn _=M3 at*;delta Ml
  repeat (first|walk_at "s"|simp only[h3.w])
  rw[Yl (by rw[X2,h1.wl,li]),UB (i:=i) (by rw[X2,h1.wl,li]) G.in_nd (ZU hI)]
  refine⟨by lia,?_⟩
  have e4:(A2.ws.map MV.ref).set i (.ref p)=(A2.ws.set i p).map MV.ref:=by rw[UM]
  rw[e4];obtain⟨h4,N4⟩:=h3.put_w N i hp3 np;exact q _ _ (s3.upd (N.fr A2.pw (by simp[StA.own])) _) N4 (λx hx=>(CQ hx).elim .inl λz=>.inr (by rw[z];exact p0)) (eB▸h4)
 delta F1 Mu;walk_at "s";delta Mt;cases s with
 |take f x=>
  obtain⟨v,w1,w2,w3⟩:=FO hS si.1 hc;have hA1:=hA.keep s0;obtain⟨b,b1,b2⟩:=hA1.gs_at hS si.1;simp only[askM];walk_at "s";delta Ms;walk_at "s";delta Mr;rw[StA.mv]
  repeat (first|walk_at "s"|simp only[hA1.g,hA1.t])
  refine⟨_,Zm G si.1 b1,?_⟩
  repeat (first|walk_at "s"|simp only[hA1.t,b2])
  refine⟨_,Uf G hS si.1,?_⟩
  repeat (first|walk_at "s"|simp only[b2])
  refine⟨.int v,XH (by rw[Xg,w2];rfl),?_⟩
  delta Mp
  repeat (first|walk_at "s"|simp only[hA1.t])
  refine⟨_,Uf G hS si.1,?_⟩;rw[StA.mv]
  repeat (first|walk_at "s"|simp only[h2.t])
  rw[Yl (by rw[X2,hB.tl,lf]),UB (i:=W.fat f) (by rw[X2,hB.tl,lf]) G.fn_nd (Ye si.1).1]
  refine⟨by lia,?_⟩
  have e3:(B.tak.map natM).set (W.fat f) (.int ((S.tak.getD (W.fat f) 0:Nat)+1))=(B.tak.set (W.fat f) (S.tak.getD (W.fat f) 0+1)).map natM:=by rw[UM];rfl
  rw[e3];have h3:=h2.put_t N (B.tak.set (W.fat f) (S.tak.getD (W.fat f) 0+1));have s3:=s0.upd (N.fr A2.pt (by simp[StA.own])) (.dic (zipK W.fns ((B.tak.set (W.fat f) (S.tak.getD (W.fat f) 0+1)).map natM)))
  have fd3:∀a,updM M A2.pt (.dic (zipK W.fns ((B.tak.set (W.fat f) (S.tak.getD (W.fat f) 0+1)).map natM))) a=none->M a=none:=λ_=>B0;generalize updM M A2.pt _=M3 at*;delta AG;walk_at "s";have r:=rest M3 _ (some (.str f)) s3 fd3 h3 hB.nl hB.gl rfl;rw[w1]at r;exact r
 |give f T=>
  obtain⟨b,b1,b2⟩:=h2.gs_at hB si.1;have hgi:=(hB.gi _ (Xk (ZT hB (Ye si.1).2))).1;simp only[askM];walk_at "s";delta AG;walk_at "s";delta Mo;rw[StA.mv,StA.mv]
  repeat (first|walk_at "s"|simp only[h2.g])
  refine⟨_,Zm G si.1 b1,?_⟩
  repeat (first|walk_at "s"|simp only[b2])
  rw[X2];refine⟨⟨_,rfl⟩,by lia,?_⟩
  have e3:(B.giv.getD (W.fat f) []).map MV.int++[.int (T.val (rhoK (S.wd.getD i [])) W.w)]=(B.giv.getD (W.fat f) []++[T.val (rhoK (S.wd.getD i [])) W.w]).map MV.int:=by simp
  rw[e3];have h3:=h2.put_g N b1 (B.giv.getD (W.fat f) []++[T.val (rhoK (S.wd.getD i [])) W.w]);have s3:=s0.upd (N.fr b (YV (Xk b1))) (.lst ((B.giv.getD (W.fat f) []++[T.val (rhoK (S.wd.getD i [])) W.w]).map MV.int));have fd3:∀a,updM M b (.lst ((B.giv.getD (W.fat f) []++[T.val (rhoK (S.wd.getD i [])) W.w]).map MV.int)) a=none->M a=none:=λ_=>B0;generalize updM M b _=M3 at*;exact rest M3 _ none s3 fd3 h3 hB.nl (by rw[UJ];exact hB.gl) rfl
 |put x T=>
  simp only[askM];walk_at "s";delta AG;walk_at "s";exact rest M B none s0 (λ_ z=>z) h2 hB.nl hB.gl rfl
 |jump T j=>
  simp only[askM];walk_at "s";delta AG;walk_at "s";exact rest M B none s0 (λ_ z=>z) h2 hB.nl hB.gl rfl
theorem CD{ks:List Str}{α:Type}{xs:List α}(h:xs.length=ks.length):(ks.zip xs).map (·.1)=ks:=List.map_fst_zip (by lia)
theorem B3{ks:List Str}{vs:List MV}(h:vs.length=ks.length):(zipK ks vs).map (λp=>kM p.1)=ks.map MV.str:=by
 have:=Ct h;have e:(zipK ks vs).map (λp=>kM p.1)=((zipK ks vs).map (·.1)).map kM:=by rw[Y7];rfl
 rw[e,this,Y7];rfl
theorem FQ{α β:Type}{xs:List α}{ys:List β}{p:α×β}(h:p∈xs.zip ys):∃i:Nat,xs[i]?=some p.1/\ys[i]?=some p.2:=by
 obtain⟨i,hi,rfl⟩:=Y0 h;rw[ZB]at hi;refine⟨i,?_,?_⟩<;>rw[List.getElem_zip,X6]
theorem FR{α β:Type}{xs:List α}{ys:List β}{i:Nat}{x:α}{y:β}(h1:xs[i]?=some x) (h2:ys[i]?=some y):(xs.zip ys)[i]?=some (x,y):=by
 rw[G7];exact⟨h1,h2⟩
theorem Q3:∀{ks:List Str} {vs:List MV} {i:Nat} {k:Str} {v:MV},ks[i]?=some k->vs[i]?=some v->(Xf k,v)∈zipK ks vs
 |[],_,_,_,_,h,_=>by simp at h
 |_::_,[],_,_,_,_,h=>by simp at h
 |a::ks,b::vs,0,k,v,h1,h2=>by simp at h1 h2;subst h1 h2;exact Yh ..
 |a::ks,b::vs,i+1,k,v,h1,h2=>Yb _ (Q3 (by simpa using h1) (by simpa using h2))
theorem StdAt.ws_ne{W:Wld}{S:Std}{M:MH}{A:StA}(h:StdAt W S M A)(G:W.Good){c:Nat}(hS:SOk W c S){i:Nat}{a:Addr}(ha:A.ws[i]?=some a):a≠A.pw:=by
 intro e;have hi:i<W.isl.length:=by rw[<- h.wl];exact(Xx.mp ha).1
 have hI:=X6 hi;have h1:=h.wv i a _ ha (Z3 hS hI);rw[e,h.w]at h1;have z:zipK W.ins (A.ws.map MV.ref)=S.wd.getD i []:=by injection h1 with h1;injection h1
 have:=((hS.wi i _ _ hI (Z3 hS hI)).nodup (G.io _ (XY hi)).nd).2 (Xf (W.isl[i]).name,.ref a);have:=this (by rw[<- z];exact Q3 (ZU hI) (by rw[Xg,ha];rfl))
 cases this
noncomputable abbrev CF:SpM:=λvs M Q=>∃(W:Wld) (S:Std) (A:StA) (c:Nat),vs=[A.mv]/\W.Good/\SOk W c S/\StdAt W S M A/\∀M' A',SameM M M'->StdAt W S M' A'->A'.New M->(∀a∈A'.ws,M a=none)->Q A'.mv M'
theorem Zb0:MonW CF:=by walk_at "m"
theorem ZfV(T:Txt K mg t):FnOk P w K mg base CX0 1 t.f_copy_of t.d_copy_of ["stand"] (liSp K CF):=by
 refine T.q_copy_of.F.okM ZfM (Xs (Φ:=[]) (Xt T) (Xu T) rfl nl0 nl0:Fts P w K mg base 0 Mc []) EU Zgi (λvs M Q h=>?_) (λvs M Q h=>?_)
 ·obtain⟨_,_,_,_,rfl,_⟩:=h;rfl
 obtain⟨W,S,A,c,rfl,G,hS,hA,q⟩:=h;show wSs _ _ _ [some A.mv,none,none] M;have i5:=G.i5;have f6:=G.f6;have li:W.ins.length=W.isl.length:=by unfold Wld.ins;rw[X2]
 have lf:W.fns.length=W.fer.length:=by unfold Wld.fns;rw[X2]
 have hΦ:=(Zk (Φ:=[]) nl0);delta EU Mb;rw[StA.mv];walk_at "s";refine Cu (W.ins.zip S.wd) (λx=>.str x.1) (·.1) (λx=>.dic x.2) (λM1=>∃o,M1=updM M A.pw (.fdic o (zipK W.ins (A.ws.map MV.ref)))) ?_ ?_ hΦ λD1 ws M1 hD1 s1 l1 nd1 dn1 fr1 at1 hd1=>?_
 ·repeat (first|walk_at "s"|simp only[hA.w])
  intro o;refine⟨?_,by rw[ZB];lia,.inr ⟨_,_,_,rfl,hA.w,rfl⟩,o,rfl⟩
  show(zipK W.ins (A.ws.map MV.ref)).map (λp=>kM p.1)=_;rw[B3 (by rw[X2,hA.wl,li])]
  conv=>lhs;rw[<- CD (ks:=W.ins) (xs:=S.wd) (by rw[hS.wl,li])]
  rw[Y7];rfl
 ·rintro⟨z,kvs⟩ hx M1 M' ⟨o,rfl⟩ s;obtain⟨i,i1,i2⟩:=FQ hx;have hw:=s _ _ (Xb (M:=M));have hi:i<A.ws.length:=by rw[hA.wl,<- li];exact(Xx.mp i1).1
  have hv:=hA.wv i _ _ (X6 hi) i2;have hne:A.ws[i]≠A.pw:=hA.ws_ne G hS (X6 hi);have hv':=s _ _ ((X9 (M:=M) hne).trans hv);simp only[sCm,Xz,Y6,Yn,Yo,Yi,Yc]
  repeat (first|walk_at "s"|simp only[hw])
  refine⟨.ref A.ws[i],Zl G.in_nd i1 (by rw[Xg,X6 hi];rfl),?_⟩
  repeat (first|walk_at "s"|simp only[hv'])
  intro p hp;exact⟨p,hp,rfl,rfl⟩
 rw[CD (by rw[hS.wl,li])]at hd1
 rw[ZB,hS.wl,li,Nat.min_self]at l1;have lw:(ws.map MV.ref).length=W.ins.length:=by rw[X2,l1,li]
 repeat (first|walk_at "s"|simp only[hd1])
 refine⟨_,rfl,λpw hpw=>?_⟩;rw[V5 lw G.in_nd];have s2:=SameM.new hpw (.dic (zipK W.ins (ws.map MV.ref)));have h2:updM M1 pw (.dic (zipK W.ins (ws.map MV.ref))) pw=some (.dic (zipK W.ins (ws.map MV.ref))):=Xb;generalize updM M1 pw _=M2 at*;have hA2:=hA.keep (s1.trans s2);delta LZ;walk_at "s";refine Cu (W.fns.zip S.giv) (λx=>.str x.1) (·.1) (λx=>.lst (x.2.map MV.int)) (λM3=>∃o,M3=updM M2 A.pg (.fdic o (zipK W.fns (A.gs.map MV.ref)))) ?_ ?_ hΦ λD2 gs M3 hD2 s3 l3 nd3 dn3 fr3 at3 hd3=>?_
 ·repeat (first|walk_at "s"|simp only[hA2.g])
  intro o;refine⟨?_,by rw[ZB];lia,.inr ⟨_,_,_,rfl,hA2.g,rfl⟩,o,rfl⟩
  show(zipK W.fns (A.gs.map MV.ref)).map (λp=>kM p.1)=_;rw[B3 (by rw[X2,hA.gl,lf])]
  conv=>lhs;rw[<- CD (ks:=W.fns) (xs:=S.giv) (by rw[hS.gl,lf])]
  rw[Y7];rfl
 ·rintro⟨z,xs⟩ hx Ma M' ⟨o,rfl⟩ s;obtain⟨i,i1,i2⟩:=FQ hx;have hw:=s _ _ (Xb (M:=M2));have hi:i<A.gs.length:=by rw[hA.gl,<- lf];exact(Xx.mp i1).1
  have hv:=hA2.gv i _ _ (X6 hi) i2;have hne:A.gs[i]≠A.pg:=λe=>by rw[e,hA2.g]at hv;cases hv
  have hv':=s _ _ ((X9 (M:=M2) hne).trans hv);simp only[sCm,Xz,Y6,Yn,Yo,Yi,Yc]
  repeat (first|walk_at "s"|simp only[hw])
  refine⟨.ref A.gs[i],Zl G.fn_nd i1 (by rw[Xg,X6 hi];rfl),?_⟩
  repeat (first|walk_at "s"|simp only[hv'])
  intro p hp;exact⟨p,hp,rfl,rfl⟩
 rw[CD (by rw[hS.gl,lf])]at hd3
 rw[ZB,hS.gl,lf,Nat.min_self]at l3;have lg:(gs.map MV.ref).length=W.fns.length:=by rw[X2,l3,lf]
 repeat (first|walk_at "s"|simp only[hd3])
 refine⟨_,rfl,λpg hpg=>?_⟩;rw[V5 lg G.fn_nd];have s4:=SameM.new hpg (.dic (zipK W.fns (gs.map MV.ref)));have h4:updM M3 pg (.dic (zipK W.fns (gs.map MV.ref))) pg=some (.dic (zipK W.fns (gs.map MV.ref))):=Xb;generalize updM M3 pg _=M4 at*;have s24:=s3.trans s4;have s04:=(s1.trans s2).trans s24;have hA4:=hA.keep s04;delta LY
 repeat (first|walk_at "s"|simp only[hA4.n])
 intro pn hpn;have s5:=SameM.new hpn (.dic (zipK W.ins (S.num.map natM)));have h5:updM M4 pn (.dic (zipK W.ins (S.num.map natM))) pn=some (.dic (zipK W.ins (S.num.map natM))):=Xb;generalize updM M4 pn _=M5 at*;have hA5:=hA4.keep s5
 repeat (first|walk_at "s"|simp only[hA5.t])
 intro pt hpt;have s6:=SameM.new hpt (.dic (zipK W.fns (S.tak.map natM)));have h6:updM M5 pt (.dic (zipK W.fns (S.tak.map natM))) pt=some (.dic (zipK W.fns (S.tak.map natM))):=Xb;generalize updM M5 pt _=M6 at*;have s46:=s5.trans s6;have s36:=s4.trans s46;have wv:∀(i:Nat) a kvs,ws[i]?=some a->S.wd[i]?=some kvs->M1 a=some (.dic kvs):=λi a kvs x y=>by
  have hi:i<W.ins.length:=by rw[li,<- l1];exact(Xx.mp x).1
  exact at1 i a (W.ins[i],kvs) x (FR (X6 hi) y)
 have gv:∀(i:Nat) a xs,gs[i]?=some a->S.giv[i]?=some xs->M3 a=some (.lst (xs.map MV.int)):=λi a xs x y=>by
  have hi:i<W.fns.length:=by rw[lf,<- l3];exact(Xx.mp x).1
  exact at3 i a (W.fns[i],xs) x (FR (X6 hi) y)
 have wm:∀a∈ws,∃o,M1 a=some o:=λa ha=>by
  obtain⟨i,hi,rfl⟩:=Y0 ha;have hi2:i<S.wd.length:=by rw[hS.wl,<- l1];exact hi
  exact⟨_,wv i _ _ (X6 hi) (X6 hi2)⟩
 have gm:∀a∈gs,∃o,M3 a=some o:=λa ha=>by
  obtain⟨i,hi,rfl⟩:=Y0 ha;have hi2:i<S.giv.length:=by rw[hS.gl,<- l3];exact hi
  exact⟨_,gv i _ _ (X6 hi) (X6 hi2)⟩
 refine q M6 ⟨pn,pw,pg,pt,ws,gs⟩ (s04.trans s46) ⟨s6 _ _ h5,(s24.trans s46) _ _ h2,s46 _ _ h4,h6,l1,l3,λi a k x y=>((s2.trans s24).trans s46) _ _ (wv i a k x y),λi a k x y=>s36 _ _ (gv i a k x y)⟩ ⟨?_,?_,?_⟩ (λa ha=>fr1 a ha)
 ·show(pn::pw::pg::pt::gs).Nodup;simp only[YF,Xn,not_or];refine⟨⟨(neM (s24 _ _ h2) hpn).symm,(neM h4 hpn).symm,neM h5 hpt,λz=>?_⟩,⟨neM (s3 _ _ h2) hpg,neM ((s24.trans s5) _ _ h2) hpt,λz=>?_⟩,⟨neM (s5 _ _ h4) hpt,λz=>?_⟩,λz=>?_,nd3⟩
  ·obtain⟨o,ho⟩:=gm _ z;exact neM (s4 _ _ ho) hpn rfl
  ·exact neM h2 (fr3 _ z) rfl
  ·obtain⟨o,ho⟩:=gm _ z;exact neM ho hpg rfl
  ·obtain⟨o,ho⟩:=gm _ z;exact neM ((s4.trans s5) _ _ ho) hpt rfl
 ·intro a ha;have ha:a∈pn::pw::pg::pt::gs:=ha;simp only[Xn]at ha;rcases ha with rfl|rfl|rfl|rfl|ha
  ·exact s04.free hpn
  ·exact s1.free hpw
  ·exact((s1.trans s2).trans s3).free hpg
  ·exact(s04.trans s5).free hpt
  ·exact(s1.trans s2).free (fr3 _ ha)
 ·intro a ha hb;obtain⟨o,ho⟩:=wm a ha;have hb:a∈pn::pw::pg::pt::gs:=hb;simp only[Xn]at hb;rcases hb with rfl|rfl|rfl|rfl|hb
  ·exact neM ((s2.trans s24) _ _ ho) hpn rfl
  ·exact neM ho hpw rfl
  ·exact neM ((s2.trans s3) _ _ ho) hpg rfl
  ·exact neM (((s2.trans s24).trans s5) _ _ ho) hpt rfl
  ·exact neM (s2 _ _ ho) (fr3 _ hb) rfl
noncomputable def wd0(I:Isl):List (Key×MV):=zipK I.vars (I.prs.map λp=>.int p.2)
noncomputable def Xo(W:Wld):Std:=⟨W.isl.map λ_=>0,W.isl.map wd0,W.fer.map λ_=>[],W.fer.map λ_=>0⟩
theorem FS{W:Wld}(G:W.Good):SOk W 0 (Xo W):=by
 refine⟨X2 _,X2 _,X2 _,X2 _,λi I n hI h=>?_,λi I kvs hI h=>?_,λxs hx=>?_,λj xs n h1 h2=>?_⟩
 ·rw[show(Xo W).num=W.isl.map λ_=>0 from rfl,Xg,hI]at h;cases h;exact YL _
 ·rw[show(Xo W).wd=W.isl.map wd0 from rfl,Xg,hI]at h;cases h;have ok:=G.io I (Xk hI);refine⟨I.prs.map (·.2),by unfold Isl.vars;rw[X2,X2],?_,λv hv=>?_⟩
  ·unfold wd0;rw[Y7];rfl
  ·obtain⟨p,hp,rfl⟩:=XI.mp hv;exact ok.wd p hp
 ·obtain⟨_,_,rfl⟩:=XI.mp hx;exact⟨Xh _,λv hv=>(nomatch hv)⟩
 ·rw[show(Xo W).tak=W.fer.map λ_=>0 from rfl,Xg]at h2;cases hf:W.fer[j]? with
  |none=>rw[hf]at h2;cases h2
  |some f=>rw[hf]at h2;cases h2;exact YL _
theorem Zh1(I:Isl):I.prs.map prV=(wd0 I).map prM:=FK I.prs (·.1) (λp=>.int p.2)
theorem ZkP{I:Isl}(nd:I.vars.Nodup):Ub (wd0 I)=wd0 I:=V5 (by unfold Isl.vars;rw[X2,X2]) nd
noncomputable abbrev B4:SpM:=λvs M Q=>∃W:Wld,vs=[W.mv]/\W.Good/\∀M' A,SameM M M'->StdAt W (Xo W) M' A->A.New M->(∀a∈A.ws,M a=none)->Q A.mv M'
theorem Q4:MonW B4:=by walk_at "m"
theorem ZaV(T:Txt K mg t):FnOk P w K mg base CX0 1 t.f_first_stand t.d_first_stand ["world"] (liSp K B4):=by
 refine T.q_first_stand.F.okM ZaR (Xs (Φ:=[]) (Xt T) (Xu T) rfl nl0 nl0:Fts P w K mg base 0 LX []) ET Zbb (λvs M Q h=>?_) (λvs M Q h=>?_)
 ·obtain⟨_,rfl,_⟩:=h;rfl
 obtain⟨W,rfl,G,q⟩:=h;show wSs _ _ _ [some W.mv,none,none,none,none] M;have i5:=G.i5;have f6:=G.f6;have li:W.ins.length=W.isl.length:=by unfold Wld.ins;rw[X2]
 have lf:W.fns.length=W.fer.length:=by unfold Wld.fns;rw[X2]
 have hΦ:=(Zk (Φ:=[]) nl0);delta ET LW;rw[Wld.mv];walk_at "s";refine Ud W.isl Isl.mv (λx=>.tup [.str x.name,.int 0]) ?_ ?_ hΦ λD hD=>?_
 ·walk_at "s";exact⟨rfl,by lia,trivial⟩
 ·intro x hx M' s;simp only[sCm,Xz,Y6,Yn,Yo,Yi,Yc]
  repeat (first|walk_at "s"|simp only[Isl.mv])
  try exact⟨rfl,rfl⟩
 have e1:(W.isl.map λx=>MV.tup [.str x.name,.int 0])=(zipK W.ins ((Xo W).num.map natM)).map prM:=by
  rw[FK W.isl (·.name) (λ_=>.int 0),show(Xo W).num=W.isl.map λ_=>0 from rfl,Y7];rfl
 have ln:((Xo W).num.map natM).length=W.ins.length:=by rw[X2,li];exact X2 _
 have lt:((Xo W).tak.map natM).length=W.fns.length:=by rw[X2,lf];exact X2 _
 rw[e1];have s1:=SameM.new hD (.lst ((zipK W.ins ((Xo W).num.map natM)).map prM));have hd1:updM M D (.lst ((zipK W.ins ((Xo W).num.map natM)).map prM)) D=some (.lst ((zipK W.ins ((Xo W).num.map natM)).map prM)):=Xb;generalize updM M D _=M1 at*
 repeat (first|walk_at "s"|simp only[hd1])
 refine⟨_,rfl,λpn hpn=>?_⟩;rw[V5 ln G.in_nd];have s2:=s1.trans (SameM.new hpn (.dic (zipK W.ins ((Xo W).num.map natM))));have h2:updM M1 pn (.dic (zipK W.ins ((Xo W).num.map natM))) pn=some (.dic (zipK W.ins ((Xo W).num.map natM))):=Xb;generalize updM M1 pn _=M2 at*;delta LV;walk_at "s";refine Cu W.isl Isl.mv (·.name) (λx=>.dic (wd0 x)) (λM3=>M3=M2) ?_ ?_ hΦ λD2 ws M3 hD2 s3 l3 nd3 dn3 fr3 at3 hd3=>?_
 ·walk_at "s";exact⟨rfl,by lia,.inl ⟨trivial,rfl⟩⟩
 ·rintro I hI Ma M' rfl s;simp only[sCm,Xz,Y6,Yn,Yo,Yi,Yc]
  repeat (first|walk_at "s"|simp only[Isl.mv])
  refine⟨wd0 I,Zh1 I,λp hp=>?_⟩;rw[ZkP (G.io I hI).nd];exact⟨p,hp,rfl,rfl⟩
 have lw:(ws.map MV.ref).length=W.ins.length:=by rw[X2,l3,li]
 have hd3:M3 D2=some (.lst ((zipK W.ins (ws.map MV.ref)).map prM)):=hd3
 repeat (first|walk_at "s"|simp only[hd3])
 refine⟨_,rfl,λpw hpw=>?_⟩;rw[V5 lw G.in_nd];have s34:=SameM.new hpw (.dic (zipK W.ins (ws.map MV.ref)));have h4:updM M3 pw (.dic (zipK W.ins (ws.map MV.ref))) pw=some (.dic (zipK W.ins (ws.map MV.ref))):=Xb;generalize updM M3 pw _=M4 at*;have s24:=s3.trans s34;delta LU;walk_at "s";refine Cu W.fer Fer.mv (·.name) (λx=>.lst []) (λM5=>M5=M4) ?_ ?_ hΦ λD5 gs M5 hD5 s5 l5 nd5 dn5 fr5 at5 hd5=>?_
 ·walk_at "s";exact⟨rfl,by lia,.inl ⟨trivial,rfl⟩⟩
 ·rintro I hI Ma M' rfl s;simp only[sCm,Xz,Y6,Yn,Yo,Yi,Yc]
  repeat (first|walk_at "s"|simp only[Fer.mv])
  intro p hp;exact⟨p,hp,rfl,rfl⟩
 have lg:(gs.map MV.ref).length=W.fns.length:=by rw[X2,l5,lf]
 have hd5:M5 D5=some (.lst ((zipK W.fns (gs.map MV.ref)).map prM)):=hd5
 repeat (first|walk_at "s"|simp only[hd5])
 refine⟨_,rfl,λpg hpg=>?_⟩;rw[V5 lg G.fn_nd];have s56:=SameM.new hpg (.dic (zipK W.fns (gs.map MV.ref)));have h6:updM M5 pg (.dic (zipK W.fns (gs.map MV.ref))) pg=some (.dic (zipK W.fns (gs.map MV.ref))):=Xb;generalize updM M5 pg _=M6 at*;delta LT;walk_at "s";refine Ud W.fer Fer.mv (λx=>.tup [.str x.name,.int 0]) ?_ ?_ hΦ λD hD=>?_
 ·walk_at "s";exact⟨rfl,by lia,trivial⟩
 ·intro x hx M' s;simp only[sCm,Xz,Y6,Yn,Yo,Yi,Yc]
  repeat (first|walk_at "s"|simp only[Fer.mv])
  try exact⟨rfl,rfl⟩
 have e1:(W.fer.map λx=>MV.tup [.str x.name,.int 0])=(zipK W.fns ((Xo W).tak.map natM)).map prM:=by
  rw[FK W.fer (·.name) (λ_=>.int 0),show(Xo W).tak=W.fer.map λ_=>0 from rfl,Y7];rfl
 rw[e1];have s67:=SameM.new hD (.lst ((zipK W.fns ((Xo W).tak.map natM)).map prM));have hd7:updM M6 D (.lst ((zipK W.fns ((Xo W).tak.map natM)).map prM)) D=some (.lst ((zipK W.fns ((Xo W).tak.map natM)).map prM)):=Xb;generalize updM M6 D _=M7 at*
 repeat (first|walk_at "s"|simp only[hd7])
 refine⟨_,rfl,λpt hpt=>?_⟩;rw[V5 lt G.fn_nd];have s78:=SameM.new hpt (.dic (zipK W.fns ((Xo W).tak.map natM)));have h8:updM M7 pt (.dic (zipK W.fns ((Xo W).tak.map natM))) pt=some (.dic (zipK W.fns ((Xo W).tak.map natM))):=Xb;generalize updM M7 pt _=M8 at*;delta LS;walk_at "s";have s68:=s67.trans s78;have s48:=(s5.trans s56).trans s68;have wm:∀a∈ws,∃o,M3 a=some o:=λa ha=>by
  obtain⟨i,hi,rfl⟩:=Y0 ha;exact⟨_,at3 i _ _ (X6 hi) (X6 (by rw[<- l3];exact hi))⟩
 have gm:∀a∈gs,∃o,M5 a=some o:=λa ha=>by
  obtain⟨i,hi,rfl⟩:=Y0 ha;exact⟨_,at5 i _ _ (X6 hi) (X6 (by rw[<- l5];exact hi))⟩
 refine q M8 ⟨pn,pw,pg,pt,ws,gs⟩ (s2.trans (s24.trans s48)) ⟨(s24.trans s48) _ _ h2,s48 _ _ h4,s68 _ _ h6,h8,l3,l5,λi a k x y=>?_,λi a k x y=>?_⟩ ⟨?_,?_,?_⟩ (λa ha=>s2.free (fr3 a ha))
 ·rw[show(Xo W).wd=W.isl.map wd0 from rfl,Xg]at y;have hi:i<W.isl.length:=by rw[<- l3];exact(Xx.mp x).1
  rw[X6 hi]at y;cases y;exact(s34.trans s48) _ _ (at3 i a _ x (X6 hi))
 ·rw[show(Xo W).giv=W.fer.map (λ_=>[])from rfl,Xg]at y;have hi:i<W.fer.length:=by rw[<- l5];exact(Xx.mp x).1
  rw[X6 hi]at y;cases y;exact(s56.trans s68) _ _ (at5 i a _ x (X6 hi))
 ·show(pn::pw::pg::pt::gs).Nodup;simp only[YF,Xn,not_or];refine⟨⟨neM (s3 _ _ h2) hpw,neM ((s24.trans s5) _ _ h2) hpg,neM ((s24.trans (s5.trans (s56.trans s67))) _ _ h2) hpt,λz=>neM (s24 _ _ h2) (fr5 _ z) rfl⟩,⟨neM (s5 _ _ h4) hpg,neM ((s5.trans (s56.trans s67)) _ _ h4) hpt,λz=>neM h4 (fr5 _ z) rfl⟩,⟨neM (s67 _ _ h6) hpt,λz=>?_⟩,λz=>?_,nd5⟩
  ·obtain⟨o,ho⟩:=gm _ z;exact neM ho hpg rfl
  ·obtain⟨o,ho⟩:=gm _ z;exact neM ((s56.trans s67) _ _ ho) hpt rfl
 ·intro a ha;have ha:a∈pn::pw::pg::pt::gs:=ha;simp only[Xn]at ha;rcases ha with rfl|rfl|rfl|rfl|ha
  ·exact s1.free hpn
  ·exact(s2.trans s3).free hpw
  ·exact(s2.trans (s24.trans s5)).free hpg
  ·exact(s2.trans (s24.trans (s5.trans (s56.trans s67)))).free hpt
  ·exact(s2.trans s24).free (fr5 _ ha)
 ·intro a ha hb;obtain⟨o,ho⟩:=wm a ha;have hb:a∈pn::pw::pg::pt::gs:=hb;simp only[Xn]at hb;rcases hb with rfl|rfl|rfl|rfl|hb
  ·exact neM h2 (fr3 _ ha) rfl
  ·exact neM ho hpw rfl
  ·exact neM ((s34.trans s5) _ _ ho) hpg rfl
  ·exact neM ((s34.trans (s5.trans (s56.trans s67))) _ _ ho) hpt rfl
  ·exact neM (s34 _ _ ho) (fr5 _ hb) rfl
noncomputable def B5(L:List Addr)(M:MH):MH:=λa=>if a∈L then none else M a
theorem FT{L:List Addr}{M:MH}{a:Addr}(h:a∉L):B5 L M a=M a:=if_neg h
theorem Q5{L:List Addr}{M:MH}{a:Addr}(h:a∈L):B5 L M a=none:=if_pos h
theorem ZhW(L:List Addr)(M:MH):SameM (B5 L M) M:=λa o h=>by
 by_cases e:a∈L
 ·rw[Q5 e]at h;cases h
 ·rwa [FT e]at h
theorem StdAt.off{W:Wld}{S:Std}{M:MH}{A:StA}(h:StdAt W S M A){D:Addr}{xs:List MV}(hD:M D=some (.lst xs))(nD:D∉A.gs)(o:MO):StdAt W S (updM M D o) A:=by
 have ne:∀{a:Addr} {kvs:List (Key×MV)},M a=some (.dic kvs)->updM M D o a=some (.dic kvs):=fun{a kvs} e=>by
  rw[X9 λz=>by rw[z,hD]at e;cases e];exact e
 refine⟨ne h.n,ne h.w,ne h.g,ne h.t,h.wl,h.gl,λi a k x y=>ne (h.wv i a k x y),λi a k x y=>?_⟩;rw[X9 λz=>nD (by rw[<- z];exact Xk x)]
 exact h.gv i a k x y
noncomputable abbrev B6:SpM:=λvs M Q=>∃(W:Wld) (S:Std) (A:StA) (c:Nat),vs=[W.mv,A.mv]/\W.Good/\SOk W c S/\c≤900/\StdAt W S M A/\∀M' A' p,SameM M M'->StdAt W (Cy W S) M' A'->A'.New M->(∀a∈A'.ws,M a=none)->M p=none->M' p=some (.lst ((PY W S).map MV.str))->Q (.tup [A'.mv,.ref p]) M'
theorem Q6:MonW B6:=by walk_at "m"
theorem Zej(T:Txt K mg t):FnOk P w K mg base CX0 53 t.f_round_of t.d_round_of ["world","stand"] (liSp K B6):=by
 refine T.q_round_of.F.okM Zed (Xs (Φ:=[("can_be",CB),("copy_of",CF),("do_step",CC),("wish_of",CA)]) (Xt T) (Xu T) rfl (fMc ⟨Zcf,(fMc ⟨Zb0,(fMc ⟨ZaZ,(fMc ⟨ZaW,nl0⟩)⟩)⟩)⟩) (fMc ⟨⟨_,_,_,(FnOk.mono (Zhb T) (by decide)),T.q_can_be.m,T.q_can_be.F.kp,T.q_can_be.b⟩,(fMc ⟨⟨_,_,_,(FnOk.mono (ZfV T) (by decide)),T.q_copy_of.m,T.q_copy_of.F.kp,T.q_copy_of.b⟩,(fMc ⟨⟨_,_,_,(FnOk.mono (ZfU T) (by decide)),T.q_do_step.m,T.q_do_step.F.kp,T.q_do_step.b⟩,(fMc ⟨⟨_,_,_,(FnOk.mono (ZfR T) (by decide)),T.q_wish_of.m,T.q_wish_of.F.kp,T.q_wish_of.b⟩,nl0⟩)⟩)⟩)⟩):Fts P w K mg base 52 MF [("can_be",CB),("copy_of",CF),("do_step",CC),("wish_of",CA)]) F2 ZeO (fun vs M Q h=>?_) (fun vs M Q h=>?_)
 ·obtain⟨_,_,_,_,rfl,_⟩:=h;rfl
 obtain⟨W,S,A,c,rfl,G,hS,hc,hA,q⟩:=h;show wSs _ _ _ [some W.mv,some A.mv,none,none,none,none] M;have i5:=G.i5;delta F2 ME;walk_at "s";refine⟨W,S,A,c,rfl,G,hS,hA,λM1 A2 s1 h1 N1 w1=>?_⟩;delta MD;walk_at "s";intro D hD;have s2:=s1.trans (SameM.new hD (.lst []));have h2:=h1.keep (SameM.new hD (.lst []));have hd2:updM M1 D (.lst []) D=some (.lst []):=Xb;have hDo:D∉A2.own:=λz=>by
  unfold StA.own at z;simp only[Xn]at z;rcases z with z|z|z|z|z
  ·exact neM h1.n hD z.symm
  ·exact neM h1.w hD z.symm
  ·exact neM h1.g hD z.symm
  ·exact neM h1.t hD z.symm
  ·obtain⟨j,hj,e⟩:=Y0 z;have hj2:j<S.giv.length:=by rw[hS.gl,<- h1.gl];exact hj
   exact neM (h1.gv j _ _ (X6 hj) (X6 hj2)) hD e
 have hD0:=s1.free hD;generalize updM M1 D _=M2 at*;delta MC;rw[Wld.mv];walk_at "s";obtain⟨J,hJ⟩:∃J:Nat->Sm->MH->Prop,∀j σ M',J j σ M'↔SameM M M'/\(∃ws,StA.New {A2 with ws:=ws} M/\(∀a∈ws,M a=none)/\StdAt W (Xp W S j).1 M' {A2 with ws:=ws})/\M' D=some (.lst ((Xp W S j).2.map MV.str))/\∃v4 v5,σ=[some W.mv,some A.mv,some A2.mv,some (.ref D),v4,v5]:=⟨_,λ_ _ _=>XT⟩;refine⟨J,(hJ _ _ _).mpr ⟨s2,⟨A2.ws,N1,w1,h2⟩,hd2,_,_,rfl⟩,λj σ M' h=>trivial,?_,?_⟩
 ·rintro j u σ M' hu h;obtain⟨s,⟨ws,N,wf,hB⟩,hd,v4,v5,rfl⟩:=(hJ _ _ _).mp h;obtain⟨hj,rfl⟩:=Y9 (show(W.isl.map Isl.mv)[j]?=some u from hu);have hI:=X6 hj;obtain⟨k1,k2,k3,k4⟩:=VQ G hS j;have hA':=hA.keep s;have hr:Xp W S (j+1)=Yf W S j (Xp W S j):=rfl;have back:∀M'' v,YB W S j W.isl[j]=none->M''=M'->J (j+1) [some W.mv,some A.mv,some A2.mv,some (.ref D),some W.isl[j].mv,v] M'':=by
   rintro M'' v e rfl;have e2:Yf W S j (Xp W S j)=Xp W S j:=by unfold Yf;rw[hI];dsimp only;rw[e]
   refine(hJ _ _ _).mpr ⟨s,⟨ws,N,wf,?_⟩,?_,_,_,rfl⟩
   ·rw[hr,e2];exact hB
   ·rw[hr,e2];exact hd
  delta MB
  repeat (first|walk_at "s"|simp only[Isl.mv])
  refine⟨W,S,A,c,j,W.isl[j],rfl,G,hS,hA',hI,?_⟩;delta MA;cases hs:(W.isl[j]).stps[S.num.getD j 0]? with
  |none=>
   have e:dueM (W.isl[j]).stps (rhoK (S.wd.getD j [])) W.w (S.num.getD j 0)=.non:=by unfold dueM;rw[hs]
   rw[e];walk_at "s";exact back M' _ (by unfold YB;rw[hs]) rfl
  |some st=>
   rw[Zmi hs];have si:=UC G hI hs;have hnn:VD (askM st (rhoK (S.wd.getD j [])) W.w)=false:=by cases st<;>rfl
   repeat (first|walk_at "s"|simp only[hnn])
   refine⟨W,S,A,c,st,rhoK (S.wd.getD j []),(W.isl[j]).vars,_,rfl,G,hS,hA',si,?_⟩;show if canM W S st=true then _ else _;cases hcan:canM W S st with
   |false=>
    rw[if_neg (by simp)]
    exact back M' _ (by unfold YB;rw[hs];dsimp only;rw[hcan];rfl) rfl
   |true=>
    have hg:YB W S j W.isl[j]=some st:=by unfold YB;rw[hs];dsimp only;rw[hcan];rfl
    rw[if_pos rfl];delta Mz;walk_at "s";have hown:StA.own {A2 with ws:=ws}=A2.own:=rfl;have sM:SameM M (B5 A2.own M'):=λa o e=>by
     rw[FT λz=>neM e (N1.fr a z) rfl];exact s _ _ e
    refine⟨W,S,(Xp W S j).1,A,{A2 with ws:=ws},B5 A2.own M',c,c+j,j,W.isl[j],st,rfl,G,hS,k1,by lia,hA.keep sM,ZhW _ _,hB,⟨N.nd,λa ha=>Q5 ha,N.ws⟩,hI,hg,λM'' ws' s'' N'' wf'' h''=>?_⟩
    delta Mx;have hd'':M'' D=some (.lst ((Xp W S j).2.map MV.str)):=s'' _ _ (by rw[FT hDo];exact hd)
    repeat (first|walk_at "s"|simp only[hd'',X2])
    refine⟨⟨_,rfl⟩,by lia,?_⟩
    have e2:Yf W S j (Xp W S j)=(YN W S j st (Xp W S j).1,(Xp W S j).2++[(W.isl[j]).name]):=by unfold Yf;rw[hI];dsimp only;rw[hg]
    refine(hJ _ _ _).mpr ⟨(sM.trans s'').upd hD0 _,⟨ws',⟨N''.nd,N.fr,N''.ws⟩,λa ha=>(wf'' a ha).elim (wf a) s.free,?_⟩,?_,_,_,rfl⟩
    ·rw[hr,e2];exact h''.off hd'' (λz=>hDo (YV z)) _
    ·rw[hr,e2,Xb,Y4];rfl
 ·rintro σ M' h;obtain⟨s,⟨ws,N,wf,hB⟩,hd,v4,v5,rfl⟩:=(hJ _ _ _).mp h;delta Mw;walk_at "s";have el:(Src.tup (W.isl.map Isl.mv)).len=W.isl.length:=X2 _;rw[el]at hB hd;exact q M' {A2 with ws:=ws} D s hB N wf hD0 hd
noncomputable abbrev UD:SpM:=λvs M Q=>∃(ns:List Int) (k:Nat),vs=[.frl (ns.map .int),.int k]/\k≤1000/\∀v:Int,Q (.int v) M
theorem CG:MonW UD:=by walk_at "m"
theorem Q7(T:Txt K mg t):FnOk P w K mg base CX0 1 t.f__law_cell t.d__law_cell ["script","k"] (liSp K UD):=by
 refine T.q__law_cell.F.okM ZcY (Xs (Φ:=[]) (Xt T) (Xu T) rfl nl0 nl0:Fts P w K mg base 0 MK []) F3 ZdL (λvs M Q h=>?_) (λvs M Q h=>?_)
 ·obtain⟨_,_,rfl,_⟩:=h;rfl
 obtain⟨ns,k,rfl,hk1,q⟩:=h;show wSs _ _ _ [some (.frl (ns.map .int)),some (.int k)] M;delta F3 MJ;walk_at "s";rw[X2];refine Y8 (λc=>?_) (λc=>?_)
 ·delta MI;walk_at "s";have hk:k<ns.length:=by omega
  refine⟨.int ns[k],XH (by rw[Xg,X6 hk];rfl),?_⟩
  walk_at "s";exact q _
 ·delta MG;walk_at "s";exact⟨.inl ⟨by omega,by omega⟩,q _⟩
noncomputable def Yg(n s:Int):Int:=(n*69621+s*16807+1013)%2147483647*((n*69621+s*16807+1013)%2147483647)%2147483629
theorem FU(n s:Int):0≤Yg n s/\Yg n s<2147483629:=⟨Yp _ (by decide),Yx _ (by decide)⟩
noncomputable abbrev XZ:SpM:=λvs M Q=>∃n s:Int,vs=[.int n,.int s]/\Q (.int (Yg n s)) M
theorem Zo:MonW XZ:=by walk_at "m"
theorem V8(T:Txt K mg t):FnOk P w K mg base CX0 1 t.f__law_mix t.d__law_mix ["number","salt"] (liSp K XZ):=by
 refine T.q__law_mix.F.okM Zeh (Xs (Φ:=[]) (Xt T) (Xu T) rfl nl0 nl0:Fts P w K mg base 0 MN []) F4 ZeS (λvs M Q h=>?_) (λvs M Q h=>?_)
 ·obtain⟨n,s,rfl,_⟩:=h;rfl
 obtain⟨n,s,rfl,q⟩:=h;show wSs _ _ _ [some (.int n),some (.int s),none] M;delta F4 MM;walk_at "s";delta ML;walk_at "s";refine⟨.inl ⟨by omega,by omega⟩,?_⟩
 exact q
noncomputable def Q8(n:Int):Int:=(Yg n 7*2147483629+Yg n 8)*8+n%8
noncomputable def UE(n:Int)(w:Nat):Int:=(if n/8%4=0\/n/8%4=1 then Q8 n else if n/8%4=2 then 0 else 2^w - 1)%2^w
theorem Zes(n:Int)(w:Nat):0≤UE n w/\UE n w<2^w:=AM _ _
noncomputable abbrev Ug:SpM:=λvs M Q=>∃(n:Int) (w:Nat),vs=[.int n,.int w]/\w≤64/\∀M',SameM M M'->Q (.int (UE n w)) M'
theorem FV:MonW Ug:=by walk_at "m"
theorem Q9(T:Txt K mg t):FnOk P w K mg base CX0 2 t.f__law_word t.d__law_word ["number","width"] (liSp K Ug):=by
 refine T.q__law_word.F.okM ZcS (Xs (Φ:=[("_law_mix",XZ)]) (Xt T) (Xu T) rfl (fMc ⟨Zo,nl0⟩) (fMc ⟨⟨_,_,_,(FnOk.mono (V8 T) (by decide)),T.q__law_mix.m,T.q__law_mix.F.kp,T.q__law_mix.b⟩,nl0⟩):Fts P w K mg base 1 N9 [("_law_mix",XZ)]) F6 ZdF (fun vs M Q h=>?_) (fun vs M Q h=>?_)
 ·obtain⟨_,_,rfl,_⟩:=h;rfl
 obtain⟨n,w,rfl,hw,q⟩:=h;show wSs _ _ _ [some (.int n),some (.int w),none] M;delta F6 N8;walk_at "s";refine⟨n,7,rfl,?_⟩;walk_at "s";refine⟨n,8,rfl,?_⟩;walk_at "s";delta N7;walk_at "s";have ew:(1:Int)*2^((w:Nat):Int).toNat=2^w:=by rw[Up,Int.one_mul]
 rw[ew];refine⟨⟨by omega,by omega⟩,λp hp=>?_⟩
 have s:=λo=>q _ (SameM.new hp o);have pp:=AL w;have dm:∀(v:Int) (M':MH),Q (.int (v%2^w)) M'->wBin Operator.Mod (.int v) (.int (2^w)) M' Q:=λv M' h=>by
  rw[Jn];exact⟨pp,h⟩
 rcases(show n/8%4=0\/n/8%4=1\/n/8%4=2\/n/8%4=3 by omega)with e|e|e|e<;>simp only[UE,Q8,e]at s<;>rw[e]
 ·exact⟨_,at0,⟨by omega,by omega⟩,dm _ _ (s _)⟩
 ·exact⟨_,at1,⟨by omega,by omega⟩,dm _ _ (s _)⟩
 ·exact⟨_,at2,⟨by omega,by omega⟩,dm _ _ (s _)⟩
 ·exact⟨_,at3,⟨by omega,by omega⟩,dm _ _ (s _)⟩
noncomputable def alph:Str:="abcdefghijklmnopqrstuvwxyz"
theorem Zix:alph.length≤16777216:=by decide+kernel
theorem ZmE:alph.cps.toList=(XN 26).map (97+·):=by decide+kernel
theorem FW{i:Int}(h0:0≤i)(h1:i<26):atI alph.cps.toList i=some (97+i.toNat):=by
 have hk:i.toNat<26:=by omega
 have:=XH (xs:=alph.cps.toList) (j:=i.toNat) (v:=97+i.toNat) (by rw[ZmE,Xg,List.getElem?_range hk];rfl)
 rwa [U5 h0]at this
theorem CH(c:Nat):(⟨#[c]⟩:Str).length=1:=rfl
theorem ZmD(a b:Str):(a++b).length=a.length+b.length:=by
 show(a.cps++b.cps).size=_;rw[Array.size_append]
 rfl
theorem FX(a b:Str):(a++b).cps.toList=a.cps.toList++b.cps.toList:=by
 show(a.cps++b.cps).toList=_;rw[BF]
theorem Qa(c:Nat):∀(k:Nat) (acc:Array Nat),((UK k #[c]).foldl (·++·) acc).toList=acc.toList++UK k c
 |0,acc=>by simp
 |k+1,acc=>by
  rw[List.replicate_succ,Vi,Qa c k,BF,W5,List.replicate_succ];rfl
theorem mul_one(c:Nat)(i:Int):(Txt.mul (⟨#[c]⟩:Str) i).cps.toList=UK i.toNat c:=by
 unfold Txt.mul;by_cases h:i<1
 ·rw[if_pos h];have:i.toNat=0:=by omega
  rw[this];rfl
 rw[if_neg h];by_cases h2:(i==1||(⟨#[c]⟩:Str).length==0)=true
 ·rw[if_pos h2];rcases(Bool.or_eq_true _ _).mp h2 with e|e
  ·have:i=1:=by simpa using e
   subst this;rfl
  ·have:(⟨#[c]⟩:Str).length=0:=by simpa using e
   cases this
 ·rw[if_neg h2];show((UK i.toNat #[c]).foldl (·++·) #[]).toList=_;rw[Qa];rfl
theorem UF(z:Str):z.length=z.cps.toList.length:=XW.symm
noncomputable def one(c:Nat):Str:=⟨#[c]⟩
theorem Qb:∀(cs:List Nat) (acc:Array Nat),((cs.map one).foldl (fun acc p=>acc++(XS "").cps++p.cps) acc).toList=acc.toList++cs
 |[],acc=>by simp
 |c::cs,acc=>by
  rw[Xz,Vi,Qb cs];have:(acc++(XS "").cps++(one c).cps).toList=acc.toList++[c]:=by
   rw[BF,BF,show(XS "").cps.toList=[]from by decide+kernel,Vg];rfl
  rw[this,W5];rfl
theorem Zi0(cs:List Nat):(ZD (XS "") (cs.map one)).cps.toList=cs:=by
 cases cs with
 |nil=>decide+kernel
 |cons c cs=>
  show(((cs.map one)).foldl (fun acc p=>acc++(XS "").cps++p.cps) (one c).cps).toList=_;rw[Qb];rfl
theorem Qc:∀(cs:List Nat) (a:Nat),(cs.map one).foldl (fun n z=>n+z.length+(XS "").length) a=a+cs.length
 |[],a=>rfl
 |c::cs,a=>by
  rw[Xz,Vi,Qc cs];have:(one c).length=1:=rfl;have h2:(XS "").length=0:=by decide+kernel
  rw[this,h2,YJ];omega
theorem Qd(z:Str)(k:Nat):(cutS z none (some (k:Int))).cps.toList=z.cps.toList.take k:=by
 unfold cutS;simp only[HT.sIx_none,HT.sIx_nat];rw[D4,Nat.sub_zero];show List.take (min k z.cps.toList.length) _=_;by_cases h:k≤z.cps.toList.length
 ·rw[Df h]
 ·rw[De (by omega),YQ (Xh _),YQ (by omega)]
theorem Qe(z:Str)(k:Nat):(cutS z (some (k:Int)) none).cps.toList=z.cps.toList.drop k:=by
 unfold cutS;simp only[HT.sIx_none,HT.sIx_nat];show List.take _ (List.drop (min k _) _)=_;by_cases h:k≤z.cps.toList.length
 ·rw[Df h,YQ (by rw[Uk];exact Xh _)]
 ·rw[De (by omega),Bs (Xh _),Bs (by omega)]
  simp
theorem ZiO{i:Int}(h0:0≤i)(h1:i<8):∃st:Int,atI [MV.int 1,.int 3,.int 5,.int 7,.int 9,.int 11,.int 15,.int 17] i=some (.int st)/\(st=1\/st=3\/st=5\/st=7\/st=9\/st=11\/st=15\/st=17):=by
 rcases(show i=0\/i=1\/i=2\/i=3\/i=4\/i=5\/i=6\/i=7 by omega)with rfl|rfl|rfl|rfl|rfl|rfl|rfl|rfl
 ·exact⟨1,XH (j:=0) rfl,by omega⟩
 ·exact⟨3,XH (j:=1) rfl,by omega⟩
 ·exact⟨5,XH (j:=2) rfl,by omega⟩
 ·exact⟨7,XH (j:=3) rfl,by omega⟩
 ·exact⟨9,XH (j:=4) rfl,by omega⟩
 ·exact⟨11,XH (j:=5) rfl,by omega⟩
 ·exact⟨15,XH (j:=6) rfl,by omega⟩
 ·exact⟨17,XH (j:=7) rfl,by omega⟩
theorem ZiR{f st:Int}(hs:st=1\/st=3\/st=5\/st=7\/st=9\/st=11\/st=15\/st=17){k k':Nat}(h:k<17)(h':k'<17)(e:(f+k*st)%26=(f+k'*st)%26):k=k':=by
 rcases hs with rfl|rfl|rfl|rfl|rfl|rfl|rfl|rfl<;>omega
noncomputable def nmA(b:Bool)(cs:List Nat)(at':Nat)(f st:Int)(k:Nat):List Nat:=if b then cs.take at'++(97+((f+k*st)%26).toNat)::cs.drop (at'+1)else UK (k%4) (97+f.toNat)++[97+((f+k*st)%26).toNat]
theorem ZlD{b:Bool}{cs:List Nat}{at':Nat}{f st:Int}(hs:st=1\/st=3\/st=5\/st=7\/st=9\/st=11\/st=15\/st=17){k k':Nat}(h:k<17)(h':k'<17)(e:nmA b cs at' f st k=nmA b cs at' f st k'):k=k':=by
 have key:97+((f+k*st)%26).toNat=97+((f+k'*st)%26).toNat:=by
  unfold nmA at e;cases b with
  |true=>
   rw[if_pos rfl,if_pos rfl]at e;exact(List.cons.inj (List.append_cancel_left e)).1
  |false=>
   rw[if_neg (by simp),if_neg (by simp)]at e
   have:=congrArg List.getLast? e
   simpa using this
 have a:=Yp (f+k*st) (show(26:Int)≠0 by decide)
 have a':=Yp (f+k'*st) (show(26:Int)≠0 by decide)
 exact ZiR (f:=f) hs h h' (by omega)
theorem Zjh{b:Bool}{cs:List Nat}{at':Nat}{f st:Int}{k:Nat}(hcs:cs.length≤8)(hat:at'<cs.length)(hc:∀c∈cs,97≤c/\c≤122)(hf:0≤f/\f<26){z:Str}(hz:z.cps.toList=nmA b cs at' f st k):Z2 z:=by
 have a:=Yp (f+k*st) (show(26:Int)≠0 by decide)
 have a2:=Yx (f+k*st) (show(0:Int)<26 by decide)
 unfold nmA at hz;cases b with
 |true=>
  rw[if_pos rfl]at hz;refine⟨?_,?_,λc hcm=>?_⟩
  ·rw[UF,hz,Y5,YJ];omega
  ·rw[UF,hz,Y5,YJ,XL,Uk];omega
  ·rw[hz]at hcm;rcases Ys.mp hcm with hm|hm
   ·exact hc c (CU hm)
   ·rcases Xn.mp hm with rfl|hm
    ·omega
    ·exact hc c (List.mem_of_mem_drop hm)
 |false=>
  rw[if_neg (by simp)]at hz
  refine⟨?_,?_,λc hcm=>?_⟩
  ·rw[UF,hz,Y5,W4];omega
  ·rw[UF,hz,Y5,W4,CT];omega
  ·rw[hz]at hcm;rcases Ys.mp hcm with hm|hm
   ·rw[List.eq_of_mem_replicate hm];omega
   ·rw[YE]at hm;omega
theorem UG{α:Type}{xs:List α}{x y:α}{j:Nat}(h:(xs++[x])[j]?=some y):(j<xs.length/\xs[j]?=some y)\/(j=xs.length/\y=x):=by
 by_cases l:j<xs.length
 ·rw[Zu l]at h;exact .inl ⟨l,h⟩
 ·rw[ZY (by omega)]at h
  cases e:j - xs.length with
  |zero=>rw[e]at h;exact .inr ⟨by omega,(Yk h).symm⟩
  |succ m=>rw[e]at h;simp at h
noncomputable abbrev B7:SpM:=λvs M Q=>∃(n:Int) (m:Nat),vs=[.int n,.int m]/\m≤17/\∀(p:Addr) (zs:List Str) M',SameM M M'->M p=none->M' p=some (.lst (zs.map MV.str))->zs.length=m->zs.Nodup->(∀z∈zs,Z2 z)->Q (.ref p) M'
theorem Qf:MonW B7:=by walk_at "m"
theorem Zcc(T:Txt K mg t):FnOk P w K mg base CX0 2 t.f__law_names t.d__law_names ["number","many"] (liSp K B7):=by
 refine T.q__law_names.F.okM Zc4 (Xs (Φ:=[("_law_mix",XZ)]) (Xt T) (Xu T) rfl (fMc ⟨Zo,nl0⟩) (fMc ⟨⟨_,_,_,(FnOk.mono (V8 T) (by decide)),T.q__law_mix.m,T.q__law_mix.F.kp,T.q__law_mix.b⟩,nl0⟩):Fts P w K mg base 1 N6 [("_law_mix",XZ)]) F5 ZcB (fun vs M Q h=>?_) (fun vs M Q h=>?_)
 ·obtain⟨_,_,rfl,_⟩:=h;rfl
 obtain⟨n,m,rfl,hm,q⟩:=h;show wSs _ _ _ [some (.int n),some (.int m),none,none,none,none,none,none,none,none,none] M;have hΦ:=(Zk (Φ:=[("_law_mix",XZ)]) (fMc ⟨Zo,nl0⟩));have al:=Zix;delta F5 N5;walk_at "s";delta N3;walk_at "s";delta N2;walk_at "s";intro p0 hp0;obtain⟨st,hst1,hst⟩:=ZiO (i:=n/26%8) (by omega) (by omega)
 refine⟨_,hst1,?_⟩;have s0:=SameM.new hp0 (.lst [.int 1,.int 3,.int 5,.int 7,.int 9,.int 11,.int 15,.int 17]);generalize updM M p0 _=M0 at*;delta N0;walk_at "s";delta MZ;walk_at "s";obtain⟨sz,hsz,hsz1,hsz2⟩:∃sz:Nat,1+n/208%8=(sz:Int)/\1≤sz/\sz≤8:=⟨(1+n/208%8).toNat,by omega,by omega,by omega⟩
 rw[hsz];refine⟨by omega,?_⟩
 have am0:0≤n/1664%(sz:Int):=Yp _ (by omega)
 have am1:n/1664%(sz:Int)<(sz:Int):=Yx _ (by omega)
 obtain⟨a,ha⟩:∃a:Nat,n/1664%(sz:Int)=(a:Int):=⟨_,(U5 am0).symm⟩;rw[ha]at am1 ⊢;have f0:0≤n%26:=Yp _ (by decide)
 have f1:n%26<26:=Yx _ (by decide)
 delta MY;walk_at "s";obtain⟨cs,hcs⟩:∃cs:List Nat,(XN sz).map (λi:Nat=>97+(Yg n (20+(0+(i:Nat)))%26).toNat)=cs:=⟨_,rfl⟩;have cl:cs.length=sz:=by rw[<- hcs,X2,Zy]
 have cin:∀c∈cs,97≤c/\c≤122:=λc hc=>by
  rw[<- hcs]at hc;obtain⟨i,_,rfl⟩:=XI.mp hc;have:=Yp (Yg n (20+(0+(i:Nat)))) (show(26:Int)≠0 by decide)
  have:=Yx (Yg n (20+(0+(i:Nat)))) (show(0:Int)<26 by decide)
  omega
 refine Ud (XN sz) (λi=>.int (0+(i:Nat))) (λi=>.str (one (97+(Yg n (20+(0+(i:Nat)))%26).toNat))) ?_ ?_ hΦ λD hD=>?_
 ·walk_at "s";refine⟨by omega,by omega,rfl,by rw[Zy];omega,trivial⟩
 ·intro i hi M' s;have e0:=Yp (Yg n (20+(0+(i:Nat)))) (show(26:Int)≠0 by decide)
  have e1:=Yx (Yg n (20+(0+(i:Nat)))) (show(0:Int)<26 by decide)
  simp only[sCm,Xz,Y6,Yn,Yo,Yi,Yc];walk_at "s";refine⟨n,20+(0+(i:Nat)),rfl,?_⟩;walk_at "s";exact⟨al,_,FW e0 e1,rfl⟩
 have hl1:(XN sz).map (λi:Nat=>MV.str (one (97+(Yg n (20+(0+(i:Nat)))%26).toNat)))=(cs.map one).map MV.str:=by
  rw[<- hcs,Y7,Y7];rfl
 rw[hl1];have s1:=SameM.new hD (.lst ((cs.map one).map MV.str));have hd1:updM M0 D (.lst ((cs.map one).map MV.str)) D=some (.lst ((cs.map one).map MV.str)):=Xb;generalize updM M0 D _=M1 at*;walk_at "s";have gl:=Zi0 cs;have gll:(ZD (XS "") (cs.map one)).length=cs.length:=by rw[UF,gl]
 refine⟨_,hd1,?_,by rw[gll];omega,?_⟩
 ·rw[List.foldl_toArray' _ _ _ rfl];exact XV (Wb (Qc cs 0)) (by omega)
 generalize ZD (XS "") (cs.map one)=sm at*;delta MX;walk_at "s";intro p hp;have s2:=SameM.new hp (.lst []);have hd2:updM M1 p (.lst []) p=some (.lst []):=Xb;generalize updM M1 p _=M2 at*;delta MW;walk_at "s";obtain⟨J,hJ⟩:∃J:Nat->Sm->MH->Prop,∀j σ M',J j σ M'↔∃v9 v10,SameM M1 M'/\(∃zs:List Str,M' p=some (.lst (zs.map MV.str))/\zs.length=j/\∀(i:Nat) z,zs[i]?=some z->z.cps.toList=nmA (decide (n/13312%2=0)) cs a (n%26) st i)/\
  σ=[some (.int n),some (.int m),some (.str alph),some (.int (n%26)),some (.int st),some (.int sz),some (.int a),some (.str sm),some (.ref p),v9,v10]:=⟨_,λ_ _ _=>XT⟩
 refine⟨by omega,by omega,J,(hJ 0 _ _).mpr ⟨_,_,s2,⟨[],hd2,rfl,λi z h=>by simp at h⟩,rfl⟩,λj σ M' h=>trivial,?_,?_⟩
 ·rintro k u σ M' hu h;obtain⟨v9,v10,s,⟨zs,hd,zl,zv⟩,rfl⟩:=(hJ _ _ _).mp h;obtain⟨hk,rfl⟩:=AK hu;have g0:=Yp (n%26+(0+(k:Nat))*st) (show(26:Int)≠0 by decide)
  have g1:=Yx (n%26+(0+(k:Nat))*st) (show(0:Int)<26 by decide)
  have done:∀z:Str,z.cps.toList=nmA (decide (n/13312%2=0)) cs a (n%26) st k->∀v9 v10,J (k+1) [some (.int n),some (.int m),some (.str alph),some (.int (n%26)),some (.int st),some (.int sz),some (.int a),some (.str sm),some (.ref p),v9,v10] (updM M' p (.lst (zs.map MV.str++[.str z]))):=λz hz v9 v10=>by
   refine(hJ _ _ _).mpr ⟨_,_,s.upd hp _,⟨zs++[z],by rw[Xb,Y4];rfl,by rw[Y5,zl];rfl,λi y hy=>?_⟩,rfl⟩
   rcases UG hy with⟨_,hy⟩|⟨rfl,rfl⟩
   ·exact zv i y hy
   ·rw[zl];exact hz
  delta MU;walk_at "s";refine⟨?_,al,_,FW g0 g1,?_⟩
  ·exact .inl ⟨by omega,by omega⟩
  have ek:((0:Int)+(k:Nat))=(k:Nat):=by omega
  rw[ek]at g0 g1 ⊢;delta MS;walk_at "s";by_cases hb:n/13312%2=0
  ·rw[if_pos hb];delta MQ
   repeat (first|walk_at "s"|simp only[hd])
   have e1:((a:Int)+1)=((a+1:Nat):Int):=by omega
   rw[e1];have l1:(cutS sm none (some (a:Int))).length≤8:=by rw[UF,Qd,gl,XL];omega
   have l2:(cutS sm (some ((a+1:Nat):Int)) none).length≤8:=by rw[UF,Qe,gl,Uk];omega
   refine⟨⟨_,rfl⟩,by omega,by rw[CH];omega,by omega,by rw[ZmD,CH];omega,by rw[X2];omega,?_⟩
   refine done _ ?_ _ _;rw[FX,FX,Qd,Qe,gl];unfold nmA;rw[decide_eq_true hb,if_pos rfl,W5];rfl
  ·rw[if_neg hb];delta MR
   repeat (first|walk_at "s"|simp only[hd])
   have l1:(Txt.mul ⟨#[97+(n%26).toNat]⟩ ((k:Int)%4)).length≤8:=by rw[UF,mul_one,CT];omega
   refine⟨⟨_,rfl⟩,al,_,FW f0 f1,by rw[CH];omega,by omega,by omega,by rw[CH];omega,by rw[X2];omega,?_⟩
   refine done _ ?_ _ _;rw[FX,mul_one];unfold nmA;rw[decide_eq_false hb,if_neg (by simp)]
   have e4:((k:Int)%4).toNat=k%4:=by omega
   rw[e4]
 ·rintro σ M' h;obtain⟨v9,v10,s,⟨zs,hd,zl,zv⟩,rfl⟩:=(hJ _ _ _).mp h;delta MP;walk_at "s";have zl:zs.length=m:=zl.trans (Up m);refine q p zs M' ((s0.trans s1).trans s) ((s0.trans s1).free hp) hd zl ?_ λz hz=>?_
  ·refine G8.mpr λi j hi hj hij e=>?_;have e1:=zv i _ (X6 hi);have e2:=zv j _ (X6 hj);rw[e]at e1;have:=ZlD hst (by omega) (by omega) (e1.symm.trans e2)
   omega
  ·obtain⟨i,hi,rfl⟩:=Y0 hz;exact Zjh (by omega) (by omega) cin ⟨f0,f1⟩ (zv i _ (X6 hi))
noncomputable abbrev YW(N:Nat):SpM:=λvs M Q=>∃(n:Int) (a:Addr) (zs:List Str) (k:Nat),vs=[.int n,.ref a,.int k]/\k<N/\k≤2/\M a=some (.lst (zs.map MV.str))/\zs.length≤6/\
 ∀(U:Tm) M',SameM M M'->U.depth≤k+1->2*U.size+1≤3^(k+1)->(∀x∈U.reads,x∈zs)->Q U.mv M'
theorem FY(n:Nat):MonW (YW n):=by walk_at "m"
theorem FZ{zs:List Str}{i:Int}(h0:0≤i)(h1:i<zs.length):∃z∈zs,atI (zs.map MV.str) i=some (.str z):=by
 have hk:i.toNat<zs.length:=by lia
 refine⟨zs[i.toNat],XY hk,?_⟩;have:=XH (xs:=zs.map MV.str) (j:=i.toNat) (v:=.str zs[i.toNat]) (by rw[Xg,X6 hk];rfl)
 rwa [U5 h0]at this
theorem Zmt{a b c d i:Int}(h0:0≤i)(h1:i<4):∃v:Int,atI [MV.int a,.int b,.int c,.int d] i=some (.int v):=by
 rcases(show i=0\/i=1\/i=2\/i=3 by lia)with rfl|rfl|rfl|rfl
 ·exact⟨_,at0⟩
 ·exact⟨_,at1⟩
 ·exact⟨_,at2⟩
 ·exact⟨_,at3⟩
theorem Zoy{i:Int}(h0:0≤i)(h1:i<6):∃f:Form,atI [MV.str "plus",.str "minus",.str "times",.str "less",.str "same",.str "minus"] i=some (.str f.str):=by
 rcases(show i=0\/i=1\/i=2\/i=3\/i=4\/i=5 by lia)with rfl|rfl|rfl|rfl|rfl|rfl
 ·exact⟨.plus,XH (j:=0) rfl⟩
 ·exact⟨.minus,XH (j:=1) rfl⟩
 ·exact⟨.times,XH (j:=2) rfl⟩
 ·exact⟨.less,XH (j:=3) rfl⟩
 ·exact⟨.same,XH (j:=4) rfl⟩
 ·exact⟨.minus,XH (j:=5) rfl⟩
theorem Qg(T:Txt K mg t):∀N:Nat,FnOk P w K mg base CX0 (N+8) t.f__law_term t.d__law_term ["number","own","deep"] (liSp K (YW N))
 |0=>by
  have no:∀vs M Q,¬YW 0 vs M Q:=λvs M Q h=>by
   obtain⟨_,_,_,k,_,h0,_⟩:=h;lia
  exact⟨λvs H Q E ⟨ms,M,r,rh,h⟩=>absurd h (no _ _ _),λA outer s H args us vs Q E _ _ _ _ ⟨ms,M,r,rh,h⟩=>absurd h (no _ _ _)⟩
 |N+1=>by
  have ih:=Qg T N;refine T.q__law_term.F.okM ZcT (Xs (Φ:=[("_law_mix",XZ),("_law_term",(YW N)),("_law_word",Ug)]) (Xt T) (Xu T) rfl (fMc ⟨Zo,(fMc ⟨(FY _),(fMc ⟨FV,nl0⟩)⟩)⟩) (fMc ⟨⟨_,_,_,FnOk.mono (V8 T) (by lia),T.q__law_mix.m,T.q__law_mix.F.kp,T.q__law_mix.b⟩,(fMc ⟨⟨_,_,_,ih,T.q__law_term.m,T.q__law_term.F.kp,T.q__law_term.b⟩,(fMc ⟨⟨_,_,_,FnOk.mono (Q9 T) (by lia),T.q__law_word.m,T.q__law_word.F.kp,T.q__law_word.b⟩,nl0⟩)⟩)⟩):Fts P w K mg base (N+8) Nl [("_law_mix",XZ),("_law_term",(YW N)),("_law_word",Ug)]) F9 ZdG (fun vs M Q h=>?_) (fun vs M Q h=>?_)
  ·obtain⟨_,_,_,_,rfl,_⟩:=h;rfl
  obtain⟨n,a,zs,k,rfl,hk,k2,ha,zl,q⟩:=h;show wSs _ _ _ [some (.int n),some (.ref a),some (.int k),none,none,none,none,none] M;delta F9 Nk;walk_at "s";delta Nj;walk_at "s";refine⟨n,1,rfl,?_⟩;obtain⟨mr,hmr⟩:∃mr,Yg n 1=mr:=⟨_,rfl⟩;rw[hmr];have p3:1≤3^k:=Nat.one_le_pow _ _ (by decide)
  have p4:3^(k+1)=3*3^k:=by rw[Nat.pow_succ,Nat.mul_comm]
  have leaf:∀D:EndM,D.rt=Q->wSs [("_law_mix",XZ),("_law_term",YW N),("_law_word",Ug)] F8 D [some (.int n),some (.ref a),some (.int k),some (.int (n%9)),some (.int mr),none,none,none] M:=by
   rintro D hD;delta F8;walk_at "s";intro p hp;refine WE (SameM.new hp _ _ _ ha) Xb ?_;have s1:=SameM.new hp (.lst []);generalize updM M p _=M1 at*;have ha1:=s1 _ _ ha;have num:wSs [("_law_mix",XZ),("_law_term",YW N),("_law_word",Ug)] F7 D [some (.int n),some (.ref a),some (.int k),some (.int (n%9)),some (.int mr),none,none,none] M1:=by
    delta F7;walk_at "s";refine⟨mr,64,rfl,by decide,λM2 s2=>?_⟩
    delta Ng;walk_at "s";intro p3 hp3;obtain⟨v,hv⟩:=Zmt (a:=mr/8%9 - 4) (b:=UE mr 64) (c:=0 - UE mr 64) (d:=mr/8%2) (i:=mr/128%4) (by lia) (by lia)
    refine⟨_,hv,?_⟩
    try walk_at "s"
    rw[hD];exact q (.num v) _ ((s1.trans s2).trans (SameM.new hp3 _)) (by simp[Tm.depth]) (by simp only[Tm.size];lia) (λx hx=>by simp[Tm.reads]at hx)
   refine Y8 (λc1=>Y8 (λc2=>?_) λ_=>num) λ_=>num;have z0:0<zs.length:=by
    cases zs with
    |nil=>simp at c1
    |cons _ _=>simp
   delta Nh
   repeat (first|walk_at "s"|simp only[ha1])
   rw[X2];have e0:=Yp (mr/3) (show(zs.length:Int)≠0 by lia)
   have e1:=Yx (mr/3) (show(0:Int)<zs.length by lia)
   obtain⟨z,hz,az⟩:=FZ e0 e1;refine⟨by lia,_,az,?_⟩
   try walk_at "s"
   rw[hD];exact q (.var z) _ s1 (by simp[Tm.depth]) (by simp only[Tm.size];lia) (λx hx=>by simp[Tm.reads]at hx;rw[hx];exact hz)
  delta Ni;walk_at "s";refine Y8 (λ_=>leaf _ rfl) λc1=>Y8 (λ_=>leaf _ rfl) λc2=>?_;have k1:1≤k:=by lia
  obtain⟨k',rfl⟩:∃k',k=k'+1:=⟨k - 1,by lia⟩
  have ek:((k'+1:Nat):Int) - 1=(k':Nat):=by lia
  have n9:0≤n%9/\n%9<9:=⟨Yp _ (by decide),Yx _ (by decide)⟩
  delta Nf;walk_at "s";refine⟨n,2,rfl,?_⟩;walk_at "s";rw[ek];refine⟨_,a,zs,k',rfl,by lia,by lia,ha,zl,λU1 M1 s1 d1 z1 r1=>?_⟩
  delta Nd;walk_at "s";refine⟨n,3,rfl,?_⟩;walk_at "s";rw[ek];refine⟨_,a,zs,k',rfl,by lia,by lia,s1 _ _ ha,zl,λU2 M2 s2 d2 z2 r2=>?_⟩
  have s12:=s1.trans s2;delta Nc;walk_at "s";refine Y8 (λc8=>?_) λc8=>?_
  ·delta Nb;walk_at "s";refine⟨n,4,rfl,?_⟩;walk_at "s";rw[ek];refine⟨_,a,zs,k',rfl,by lia,by lia,s12 _ _ ha,zl,λU3 M3 s3 d3 z3 r3=>?_⟩
   try walk_at "s"
   exact q (.pick U3 U1 U2) _ (s12.trans s3) (by simp only[Tm.depth];lia) (by simp only[Tm.size];lia) (λx hx=>by
    simp only[Tm.reads,Ys]at hx;exact hx.elim (r3 x) (·.elim (r1 x) (r2 x)))
  ·delta Na;walk_at "s";intro p3 hp3;obtain⟨f,hf⟩:=Zoy (i:=n%9 - 2) (by lia) (by lia)
   refine⟨_,hf,?_⟩
   try walk_at "s"
   exact q (.two f U1 U2) _ (s12.trans (SameM.new hp3 _)) (by simp only[Tm.depth];lia) (by simp only[Tm.size];lia) (λx hx=>by
    simp only[Tm.reads,Ys]at hx;exact hx.elim (r1 x) (r2 x))
theorem Qh{F:List Fer}{b:Fer->Bool}{i:Int}(h:0<(F.filter b).length):∃v,v∈F/\b v=true/\atI ((F.filter b).map λv=>MV.str v.name) (i%((F.filter b).length:Int))=some (.str v.name):=by
 have e0:=Yp i (show((F.filter b).length:Int)≠0 by lia)
 have e1:=Yx i (show(0:Int)<(F.filter b).length by lia)
 obtain⟨j,hj⟩:∃j:Nat,i%((F.filter b).length:Int)=j:=⟨_,(U5 e0).symm⟩;have hl:j<(F.filter b).length:=by lia
 have hm:=D0.mp (XY hl);refine⟨(F.filter b)[j],hm.1,hm.2,?_⟩;rw[hj];exact XH (by rw[Xg,X6 hl];rfl)
theorem Qi{F:List Fer}(nd:(F.map (·.name)).Nodup){v x:Fer}(hv:v∈F)(hx:x∈F)(e:x.name=v.name):x=v:=by
 obtain⟨i,hi,rfl⟩:=Y0 hv;obtain⟨j,hj,rfl⟩:=Y0 hx;have:=(Zz (l:=F.map (·.name)) (i:=j) (j:=i) (by rw[X2];exact hj) nd).mp (by
  rw[Xg,Xg,X6 hj,X6 hi];exact congrArg some e)
 subst this;rfl
noncomputable abbrev B8:SpM:=λvs M Q=>∃(n:Int) (z:Str) (f a:Addr) (F:List Fer) (zs:List Str) (m:Nat),vs=[.int n,.str z,.ref f,.ref a,.int m]/\M f=some (.lst (F.map Fer.mv))/\F.length≤6/\(F.map (·.name)).Nodup/\M a=some (.lst (zs.map MV.str))/\zs.length≤6/\m≤12/\
 ∀(S:Stp) M',SameM M M'->Ze (F.map (·.name)) zs m S->VO F z S->Q S.mv M'
theorem Qj:MonW B8:=by walk_at "m"
theorem Zd6(T:Txt K mg t):FnOk P w K mg base CX0 12 t.f__law_step t.d__law_step ["number","name","ferries","own","many"] (liSp K B8):=by
 refine T.q__law_step.F.okM ZcU (Xs (Φ:=[("_law_mix",XZ),("_law_term",(YW 3))]) (Xt T) (Xu T) rfl (fMc ⟨Zo,(fMc ⟨(FY _),nl0⟩)⟩) (fMc ⟨⟨_,_,_,FnOk.mono (V8 T) (by decide),T.q__law_mix.m,T.q__law_mix.F.kp,T.q__law_mix.b⟩,(fMc ⟨⟨_,_,_,FnOk.mono (Qg T 3) (by decide),T.q__law_term.m,T.q__law_term.F.kp,T.q__law_term.b⟩,nl0⟩)⟩):Fts P w K mg base 11 Nu [("_law_mix",XZ),("_law_term",(YW 3))]) Ff ZdH (fun vs M Q h=>?_) (fun vs M Q h=>?_)
 ·obtain⟨_,_,_,_,_,_,_,rfl,_⟩:=h;rfl
 obtain⟨n,z,f,a,F,zs,m,rfl,hf,f6,nd,ha,zl,m12,q⟩:=h;show wSs _ _ _ [some (.int n),some (.str z),some (.ref f),some (.ref a),some (.int m),none,none,none,none,none] M;have hΦ:=Zk (Φ:=[("_law_mix",XZ),("_law_term",YW 3)]) (fMc ⟨Zo,fMc ⟨FY 3,nl0⟩⟩);delta Ff Nt;walk_at "s";refine FL F Fer.mv (λv=>.str v.name) (λv=>decide (v.taker=z)) ?_ ?_ hΦ λD1 hD1=>?_
 ·repeat (first|walk_at "s"|simp only[hf])
  exact⟨rfl,by lia,hf⟩
 ·intro v hv M' s;simp only[sCm,Xz,Y6,Yn,Yo,Yi,Yc]
  repeat (first|walk_at "s"|simp only[Fer.mv])
  try simp
 have s1:=SameM.new hD1 (.lst ((F.filter λv=>decide (v.taker=z)).map λv=>MV.str v.name));have d1:updM M D1 (.lst ((F.filter λv=>decide (v.taker=z)).map λv=>MV.str v.name)) D1=some (.lst ((F.filter λv=>decide (v.taker=z)).map λv=>MV.str v.name)):=Xb;generalize updM M D1 _=M1 at*;have hf1:=s1 _ _ hf;delta Nr;walk_at "s";refine FL F Fer.mv (λv=>.str v.name) (λv=>decide (v.giver=z)) ?_ ?_ hΦ λD2 hD2=>?_
 ·repeat (first|walk_at "s"|simp only[hf1])
  exact⟨rfl,by lia,hf1⟩
 ·intro v hv M' s;simp only[sCm,Xz,Y6,Yn,Yo,Yi,Yc]
  repeat (first|walk_at "s"|simp only[Fer.mv])
  try simp
 have s2:=SameM.new hD2 (.lst ((F.filter λv=>decide (v.giver=z)).map λv=>MV.str v.name));have d2:updM M1 D2 (.lst ((F.filter λv=>decide (v.giver=z)).map λv=>MV.str v.name)) D2=some (.lst ((F.filter λv=>decide (v.giver=z)).map λv=>MV.str v.name)):=Xb;generalize updM M1 D2 _=M2 at*;have d12:=s2 _ _ d1;have ss:=s1.trans s2;have ha2:=ss _ _ ha;delta Nq;walk_at "s";delta Np;walk_at "s";refine⟨n,5,rfl,?_⟩;obtain⟨mr,hmr⟩:∃mr,Yg n 5=mr:=⟨_,rfl⟩;rw[hmr];have n8:0≤n%8/\n%8<8:=⟨Yp _ (by decide),Yx _ (by decide)⟩
 have rest:∀M3,SameM M2 M3->wSs [("_law_mix",XZ),("_law_term",YW 3)] Fe {nx:=fun _ M'=>Q .non M',rt:=Q} [some (.int n),some (.str z),some (.ref f),some (.ref a),some (.int m),some (.ref D1),some (.ref D2),some (.int (n%8)),some (.int mr),none] M3:=by
  intro M3 s3;delta Fe;walk_at "s";refine⟨n,6,rfl,?_⟩;walk_at "s";obtain⟨k,hk,hk2⟩:∃k:Nat,mr/64%3=(k:Int)/\k≤2:=⟨(mr/64%3).toNat,by lia,by lia⟩
  rw[hk];refine⟨_,a,zs,k,rfl,by lia,hk2,s3 _ _ ha2,zl,λU M4 s4 u1 u2 u3=>?_⟩
  have hU:TmIn zs U:=⟨by lia,by
   have:3^(k+1)≤3^3:=Nat.pow_le_pow_right (by decide) (by lia)
   lia,u3⟩
  have s34:=s3.trans s4;have rest2:∀M5,SameM M2 M5->wSs [("_law_mix",XZ),("_law_term",YW 3)] Fc {nx:=fun _ M'=>Q .non M',rt:=Q} [some (.int n),some (.str z),some (.ref f),some (.ref a),some (.int m),some (.ref D1),some (.ref D2),some (.int (n%8)),some (.int mr),some U.mv] M5:=by
   intro M5 s5;have jmp:∀M6,SameM M2 M6->wSs [("_law_mix",XZ),("_law_term",YW 3)] Fb {nx:=fun σ M=>wSs [("_law_mix",XZ),("_law_term",YW 3)] Fa {nx:=fun _ M'=>Q .non M',rt:=Q} σ M,rt:=Q} [some (.int n),some (.str z),some (.ref f),some (.ref a),some (.int m),some (.ref D1),some (.ref D2),some (.int (n%8)),some (.int mr),some U.mv] M6:=by
    intro M6 s6;have e0:=Yp (mr/512) (show((m:Int)+1)≠0 by lia)
    have e1:=Yx (mr/512) (show(0:Int)<(m:Int)+1 by lia)
    delta Fb;walk_at "s";refine⟨by lia,?_⟩
    exact q (.jump U (mr/512%((m:Int)+1))) _ (ss.trans s6) ⟨hU,e0,by lia⟩ trivial
   delta Fc;walk_at "s";refine Y8 (λ_=>jmp M5 s5) λc7=>?_;intro p hp;refine WE (SameM.new hp _ _ _ (s5 _ _ ha2)) Xb ?_;have s6:=s5.trans (SameM.new hp (.lst []));generalize updM M5 p _=M6 at*;refine Y8 (λ_=>jmp M6 s6) λc1=>?_;have z0:0<zs.length:=by
    cases zs with
    |nil=>simp at c1
    |cons _ _=>simp
   delta Fa
   repeat (first|walk_at "s"|simp only[s6 _ _ ha2])
   rw[X2];have e0:=Yp (mr/8) (show(zs.length:Int)≠0 by lia)
   have e1:=Yx (mr/8) (show(0:Int)<zs.length by lia)
   obtain⟨x,hx,ax⟩:=FZ e0 e1;refine⟨by lia,_,ax,?_⟩
   try walk_at "s"
   exact q (.put x U) _ (ss.trans s6) ⟨hx,hU⟩ trivial
  show wSs _ Fd _ _ _;delta Fd;walk_at "s";refine Y8 (λc6=>?_) λ_=>rest2 M4 s34;intro p hp;refine WE (SameM.new hp _ _ _ (s34 _ _ d2)) Xb ?_;have s5:=s34.trans (SameM.new hp (.lst []));generalize updM M4 p _=M5 at*;refine Y8 (λc1=>?_) λ_=>rest2 M5 s5;have g0:0<(F.filter λv=>decide (v.giver=z)).length:=by
   cases hF:F.filter λv=>decide (v.giver=z)with
   |nil=>rw[hF]at c1;simp at c1
   |cons _ _=>simp
  delta Nm
  repeat (first|walk_at "s"|simp only[s5 _ _ d2])
  rw[X2];obtain⟨v,hv,bv,av⟩:=Qh (i:=mr) g0;refine⟨by lia,_,av,?_⟩
  try walk_at "s"
  exact q (.give v.name U) _ (ss.trans s5) ⟨XI.mpr ⟨v,hv,rfl⟩,hU⟩ (λx hx e=>by rw[Qi nd hv hx e];exact of_decide_eq_true bv)
 delta No;walk_at "s";refine Y8 (λc3=>?_) λ_=>rest M2 (SameM.refl _);intro p hp;refine WE (SameM.new hp _ _ _ d12) Xb ?_;have s3:=SameM.new hp (.lst []);generalize updM M2 p _=M3 at*;refine Y8 (λc1=>?_) λ_=>rest M3 s3
 try walk_at "s"
 intro p2 hp2;refine WE (SameM.new hp2 _ _ _ (s3 _ _ ha2)) Xb ?_;have s4:=s3.trans (SameM.new hp2 (.lst []));generalize updM M3 p2 _=M4 at*;refine Y8 (λc2=>?_) λ_=>rest M4 s4;have g0:0<(F.filter λv=>decide (v.taker=z)).length:=by
  cases hF:F.filter λv=>decide (v.taker=z)with
  |nil=>rw[hF]at c1;simp at c1
  |cons _ _=>simp
 have z0:0<zs.length:=by
  cases zs with
  |nil=>simp at c2
  |cons _ _=>simp
 delta Nn
 repeat (first|walk_at "s"|simp only[s4 _ _ d12,s4 _ _ ha2])
 obtain⟨v,hv,bv,av⟩:=Qh (i:=mr) g0;have e0:=Yp (mr/8) (show(zs.length:Int)≠0 by lia)
 have e1:=Yx (mr/8) (show(0:Int)<zs.length by lia)
 obtain⟨x,hx,ax⟩:=FZ e0 e1;rw[X2];refine⟨by lia,_,av,?_⟩
 rw[X2];refine⟨by lia,_,ax,?_⟩
 try walk_at "s"
 exact q (.take v.name x) _ (ss.trans s4) ⟨XI.mpr ⟨v,hv,rfl⟩,hx⟩ (λy hy e=>by rw[Qi nd hv hy e];exact of_decide_eq_true bv)
theorem ZkQ{g e m:Int}(h0:0≤g)(h1:g<m)(e1:1≤e)(e2:e≤m - 1):(g+e)%m≠g:=by
 by_cases h:g+e<m
 ·rw[Int.emod_eq_of_lt (by lia) h];lia
 ·have:(g+e)%m=g+e - m:=by
   rw[show g+e=(g+e - m)+m by lia,Int.add_emod_right,Int.emod_eq_of_lt (by lia) (by lia)];lia
  rw[this];lia
theorem VS{zs:List Str}{i:Int}{k:Nat}(e:i=k){z:Str}(h:zs[k]?=some z):atI (zs.map MV.str) i=some (.str z):=by
 rw[e];exact XH (by rw[Xg,h];rfl)
noncomputable abbrev B9:SpM:=λvs M Q=>∃(n:Int) (p:Addr) (zs:List Str) (m:Nat),vs=[.int n,.ref p,.int m]/\M p=some (.lst (zs.map MV.str))/\15≤zs.length/\zs.Nodup/\m≤5/\
 ∀(F:List Fer) (pf:Addr) M',SameM M M'->M pf=none->M' pf=some (.lst (F.map Fer.mv))->F.length≤6->(∀(i:Nat) f,F[i]?=some f->zs[5+i]?=some f.name)->(∀f∈F,FerOk (zs.take m) f)->Q (.ref pf) M'
theorem Qk:MonW B9:=by walk_at "m"
theorem Z9U(T:Txt K mg t):FnOk P w K mg base CX0 2 t.f__law_ferries t.d__law_ferries ["number","names","many"] (liSp K B9):=by
 refine T.q__law_ferries.F.okM Z9H (Xs (Φ:=[("_law_mix",XZ)]) (Xt T) (Xu T) rfl (fMc ⟨Zo,nl0⟩) (fMc ⟨⟨_,_,_,(FnOk.mono (V8 T) (by decide)),T.q__law_mix.m,T.q__law_mix.F.kp,T.q__law_mix.b⟩,nl0⟩):Fts P w K mg base 1 NG [("_law_mix",XZ)]) Fh ZaC (fun vs M Q h=>?_) (fun vs M Q h=>?_)
 ·obtain⟨_,_,_,_,rfl,_⟩:=h;rfl
 obtain⟨n,p,zs,m,rfl,hp,zl,nd,m5,q⟩:=h;show wSs _ _ _ [some (.int n),some (.ref p),some (.int m),none,none,none,none,none,none] M;delta Fh NF;walk_at "s";intro pf hpf;have s1:=SameM.new hpf (.lst []);have hd1:updM M pf (.lst []) pf=some (.lst []):=Xb;generalize updM M pf _=M1 at*;delta NE;walk_at "s";refine Y8 (λc1=>?_) λc1=>?_
 ·delta ND;walk_at "s";obtain⟨r,hr,hr6⟩:∃r:Nat,n/8%7=(r:Int)/\r≤6:=⟨(n/8%7).toNat,by lia,by lia⟩
  rw[hr];obtain⟨J,hJ⟩:∃J:Nat->Sm->MH->Prop,∀j σ M',J j σ M'↔∃v4 v5 v6 v7 v8,SameM M M'/\(∃F:List Fer,M' pf=some (.lst (F.map Fer.mv))/\F.length=j/\(∀(i:Nat) f,F[i]?=some f->zs[5+i]?=some f.name)/\∀f∈F,FerOk (zs.take m) f)/\
   σ=[some (.int n),some (.ref p),some (.int m),some (.ref pf),v4,v5,v6,v7,v8]:=⟨_,λ_ _ _=>XT⟩
  refine⟨by lia,by lia,J,(hJ 0 _ _).mpr ⟨_,_,_,_,_,s1,⟨[],hd1,rfl,λi f h=>by simp at h,λf h=>by simp at h⟩,rfl⟩,λj σ M' h=>trivial,?_,?_⟩
  ·rintro j u σ M' hu h;obtain⟨v4,v5,v6,v7,v8,s,⟨F,hd,fl,fn,fo⟩,rfl⟩:=(hJ _ _ _).mp h;obtain⟨hj,rfl⟩:=AK hu;have hj:j<r:=by simpa using hj
   delta NA;walk_at "s";refine⟨n,10+(0+(j:Nat)),rfl,?_⟩;obtain⟨mr,hmr⟩:∃mr,Yg n (10+(0+(j:Nat)))=mr:=⟨_,rfl⟩;rw[hmr];have g0:=Yp mr (show(m:Int)≠0 by lia)
   have g1:=Yx mr (show(0:Int)<m by lia)
   have d0:=Yp (mr/8) (show((m:Int) - 1)≠0 by lia)
   have d1:=Yx (mr/8) (show(0:Int)<(m:Int) - 1 by lia)
   delta Nz;walk_at "s";refine⟨by lia,?_⟩
   delta Ny;walk_at "s";refine⟨by lia,by lia,?_⟩
   have t0:=Yp (mr%(m:Int)+1+mr/8%((m:Int) - 1)) (show(m:Int)≠0 by lia)
   have t1:=Yx (mr%(m:Int)+1+mr/8%((m:Int) - 1)) (show(0:Int)<m by lia)
   have tn:(mr%(m:Int)+1+mr/8%((m:Int) - 1))%(m:Int)≠mr%(m:Int):=by
    rw[Int.add_assoc];exact ZkQ g0 g1 (by lia) (by lia)
   obtain⟨g,hg⟩:∃g:Nat,mr%(m:Int)=(g:Int):=⟨_,(U5 g0).symm⟩;rw[hg]at t0 t1 tn ⊢;obtain⟨tk,htk⟩:∃tk:Nat,((g:Int)+1+mr/8%((m:Int) - 1))%(m:Int)=(tk:Int):=⟨_,(U5 t0).symm⟩;rw[htk]at t1 tn ⊢;have gm:g<m:=by lia
   have tm:tk<m:=by lia
   have gt:g≠tk:=λe=>tn (by rw[e])
   delta Nw
   repeat (first|walk_at "s"|simp only[s _ _ hp])
   have h5:=X6 (show 5+j<zs.length by lia)
   have hgg:=X6 (show g<zs.length by lia)
   have htt:=X6 (show tk<zs.length by lia)
   refine⟨_,VS (by lia) h5,_,VS rfl hgg,_,VS rfl htt,?_⟩
   obtain⟨kk,hkk,hkk3⟩:∃kk:Nat,mr/64%4=(kk:Int)/\kk≤3:=⟨(mr/64%4).toNat,by lia,by lia⟩
   obtain⟨st,hst,hst1,hst3⟩:∃st:Nat,1+mr/256%3=(st:Int)/\1≤st/\st≤3:=⟨(1+mr/256%3).toNat,by lia,by lia,by lia⟩
   have zg:zs[g]∈zs.take m:=Xk (i:=g) (by rw[W3 gm];exact hgg)
   have zt:zs[tk]∈zs.take m:=Xk (i:=tk) (by rw[W3 tm];exact htt)
   have zn:zs[g]≠zs[tk]:=λe=>gt ((Zz (show g<zs.length by lia) nd).mp (hgg.trans ((congrArg some e).trans htt.symm)))
   generalize zs[5+j]'(by lia)=z5 at*
   generalize zs[g]'(by lia)=z1 at*
   generalize zs[tk]'(by lia)=z2 at*
   delta Nv
   repeat (first|walk_at "s"|simp only[hd,hkk,hst,Yi,Yc])
   rw[X2];refine⟨⟨_,rfl⟩,by lia,?_⟩
   refine(hJ _ _ _).mpr ⟨_,_,_,_,_,s.upd hpf _,⟨F++[⟨z5,z1,z2,kk,st⟩],?_,by rw[Y5,fl];rfl,λi f hi=>?_,λf hf=>?_⟩,rfl⟩
   ·rw[Xb,Y4];rfl
   ·rcases UG hi with⟨_,hi⟩|⟨rfl,rfl⟩
    ·exact fn i f hi
    ·rw[fl];exact h5
   ·rcases Ys.mp hf with hf|hf
    ·exact fo f hf
    ·rw[YE]at hf;subst hf;exact⟨zg,zt,zn,hkk3,hst1,hst3⟩
  ·rintro σ M' h;obtain⟨v4,v5,v6,v7,v8,s,⟨F,hd,fl,fn,fo⟩,rfl⟩:=(hJ _ _ _).mp h;have fl:F.length=r:=fl.trans (Up r);delta Fg;walk_at "s";exact q F pf M' s hpf hd (by lia) fn fo
 ·delta Fg;walk_at "s";exact q [] pf M1 s1 hpf hd1 (by simp) (λi f h=>by simp at h) (λf h=>by simp at h)
structure IslsNew (M0 M:MH) (Is:List Isl) (ys:List MV):Prop where
 len:ys.length=Is.length
 at_:∀(i:Nat) (I:Isl) (y:MV),Is[i]?=some I->ys[i]?=some y->∃a b,y=.tup [.str I.name,.ref a,.ref b]/\M0 a=none/\M0 b=none/\M a=some (.lst (I.prs.map prV))/\M b=some (.lst (I.stps.map Stp.mv))
theorem IslsNew.inn{M0 M:MH}{Is:List Isl}{ys:List MV}(h:IslsNew M0 M Is ys):IslsIn M Is ys:=⟨h.len,λi I y a b=>by
 obtain⟨c,d,e,_,_,h1,h2⟩:=h.at_ i I y a b;exact⟨c,d,e,h1,h2⟩⟩
theorem IslsNew.keep{M0 M M':MH}{Is:List Isl}{ys:List MV}(h:IslsNew M0 M Is ys)(s:∀a o,M a=some o->M0 a=none->M' a=some o):IslsNew M0 M' Is ys:=⟨h.len,λi I y a b=>by
 obtain⟨c,d,e,n1,n2,h1,h2⟩:=h.at_ i I y a b;exact⟨c,d,e,n1,n2,s _ _ h1 n1,s _ _ h2 n2⟩⟩
theorem Ql{α:Type}{v y:α}{xs:List α}{i:Nat}(h:(xs++[v])[i]?=some y):xs[i]?=some y\/(i=xs.length/\y=v):=by
 rw[List.getElem?_append]at h;split at h
 ·exact .inl h
 ·rename_i e
  obtain⟨d,hd⟩:∃d,i - xs.length=d:=⟨_,rfl⟩;rw[hd]at h;cases d with
  |zero=>simp at h;exact .inr ⟨by lia,h.symm⟩
  |succ d=>simp at h
theorem IslsNew.add{M0 M:MH}{Is:List Isl}{ys:List MV}(h:IslsNew M0 M Is ys){I:Isl}{a b:Addr}(n1:M0 a=none)(n2:M0 b=none)(h1:M a=some (.lst (I.prs.map prV)))(h2:M b=some (.lst (I.stps.map Stp.mv))):IslsNew M0 M (Is++[I]) (ys++[.tup [.str I.name,.ref a,.ref b]]):=by
 refine⟨by simp[h.len],λi J y hJ hy=>?_⟩
 have l:=h.len;rcases Ql hJ with hJ'|⟨e1,rfl⟩<;>rcases Ql hy with hy'|⟨e2,rfl⟩
 ·exact h.at_ i J y hJ' hy'
 ·have:=(Xx.mp hJ').1;lia
 ·have:=(Xx.mp hy').1;lia
 ·exact⟨a,b,rfl,n1,n2,h1,h2⟩
theorem ZjF{Φ:List (Str×SpM)}{own:List Str}{fr:List Nat}{src:ISr}{tg:ITg}{elt:IE}{σ:Sm}{M:MH}{Q:QM}{α:Type}(xs:List α)(f:α->MV)(R:α->MV->Prop)
  (hs:wSr Φ src σ M λS M1=>S.items=xs.map f/\xs.length<sizeLine/\S.okF M1/\SameM M M1)
  (ht:∀x∈xs,∀M',SameM M M'->wTg tg (f x) (sCm own fr σ) λσ2=>wE Φ elt σ2 M' λy M2=>R x y/\SameM M' M2)
  (hΦ:∀(j:Nat) f sp,Φ[j]?=some (f,sp)->MonW sp)
  (q:∀D M' ys,M D=none->SameM M M'->ys.length=xs.length->(∀(i:Nat) x y,xs[i]?=some x->ys[i]?=some y->R x y)->M' D=some (.lst ys)->Q (.ref D) M'):wE Φ (.comp own fr src tg .none elt) σ M Q:=by
 rw[WF];refine mon_sr hΦ src (λS M1 ⟨h1,h2,h3,h4⟩=>?_) hs;have hl:S.len=xs.length:=by rw[<- S.items_len,h1,X2]
 refine⟨by rw[hl];exact h2,λD hD=>⟨λi ys M2=>SameM M1 M2/\M2 D=some (.lst ys)/\ys.length=i/\∀(j:Nat) x y,xs[j]?=some x->ys[j]?=some y->R x y,⟨SameM.new hD _,Xb,rfl,λj x y _ h=>by simp at h⟩,?_,?_,?_⟩⟩
 ·rintro i ys M2 ⟨s2,d2,e,_⟩;refine⟨d2,by lia,?_⟩
  cases S with
  |dic _ _ _=>exact h3.elim
  |lst a zs=>exact s2 _ _ h3
  |_=>trivial
 ·rintro i x ys M2 hx ⟨s2,d2,e,hr⟩;rw[h1]at hx;obtain⟨hi,rfl⟩:=Y9 hx;refine Ut tg (λσ2 h=>?_) (ht xs[i] (XY hi) M2 (h4.trans s2));rw[wI,if_pos rfl];refine Xc hΦ elt (λy M3 ⟨r,s3⟩=>?_) h;refine⟨s3 _ _ d2,(s2.trans s3).upd hD _,Xb,by rw[Y5,e];rfl,λj x' y' hx' hy'=>?_⟩
  rcases UG hy' with⟨_,hy'⟩|⟨rfl,rfl⟩
  ·exact hr j x' y' hx' hy'
  ·rw[e,X6 hi]at hx';cases hx';exact r
 ·rintro ys M2 ⟨s2,d2,e,hr⟩;rw[WG h3];exact q D M2 ys (h4.free hD) (h4.trans s2) (by lia) hr d2
theorem Qm{α:Type}{P:Stp->Prop}:∀{xs:List α} {ys:List MV},ys.length=xs.length->(∀(i:Nat) x y,xs[i]?=some x->ys[i]?=some y->∃S:Stp,y=S.mv/\P S)->∃ss:List Stp,ys=ss.map Stp.mv/\ss.length=xs.length/\∀S∈ss,P S
 |[],[],_,_=>⟨[],rfl,rfl,λ_ h=>nomatch h⟩
 |[],_::_,h,_=>by cases h
 |_::_,[],h,_=>by cases h
 |x::xs,y::ys,h,r=>by
  obtain⟨S,rfl,hS⟩:=r 0 x y rfl rfl;obtain⟨ss,rfl,l,hs⟩:=Qm (xs:=xs) (ys:=ys) (by simpa using h) λi x y a b=>r (i+1) x y (by simpa using a) (by simpa using b)
  refine⟨S::ss,rfl,by rw[YJ,YJ,l],λS' h'=>?_⟩
  rcases Xn.mp h' with rfl|h'
  ·exact hS
  ·exact hs S' h'
theorem ZlL{i:Int}(h0:0≤i)(h1:i<8):∃m:Nat,atI [MV.int 2,.int 3,.int 4,.int 5,.int 2,.int 3,.int 1,.int 0] i=some (.int m)/\m≤5:=by
 rcases(show i=0\/i=1\/i=2\/i=3\/i=4\/i=5\/i=6\/i=7 by lia)with rfl|rfl|rfl|rfl|rfl|rfl|rfl|rfl
 ·exact⟨2,XH (j:=0) rfl,by lia⟩
 ·exact⟨3,XH (j:=1) rfl,by lia⟩
 ·exact⟨4,XH (j:=2) rfl,by lia⟩
 ·exact⟨5,XH (j:=3) rfl,by lia⟩
 ·exact⟨2,XH (j:=4) rfl,by lia⟩
 ·exact⟨3,XH (j:=5) rfl,by lia⟩
 ·exact⟨1,XH (j:=6) rfl,by lia⟩
 ·exact⟨0,XH (j:=7) rfl,by lia⟩
noncomputable abbrev Ba:SpM:=λvs M Q=>∃ns:List Int,vs=[.frl (ns.map .int),.int 3]/\ns.length≤63/\
 ∀(W:Wld) (pi pf:Addr) (ys:List MV) M',SameM M M'->W.Good->M pi=none->M pf=none->pi≠pf->M' pi=some (.lst ys)->IslsIn M' W.isl ys->M' pf=some (.lst (W.fer.map Fer.mv))->Q (.tup [.int W.w,.ref pi,.ref pf]) M'
theorem Qn:MonW Ba:=by walk_at "m"
theorem Zc9(T:Txt K mg t):FnOk P w K mg base CX0 13 t.f__law_world t.d__law_world ["script","start"] (liSp K Ba):=by
 refine T.q__law_world.F.okM Zc1 (Xs (Φ:=[("_law_cell",UD),("_law_ferries",B9),("_law_mix",XZ),("_law_names",B7),("_law_step",B8),("_law_word",Ug)]) (Xt T) (Xu T) rfl (fMc ⟨CG,(fMc ⟨Qk,(fMc ⟨Zo,(fMc ⟨Qf,(fMc ⟨Qj,(fMc ⟨FV,nl0⟩)⟩)⟩)⟩)⟩)⟩) (fMc ⟨⟨_,_,_,(FnOk.mono (Q7 T) (by decide)),T.q__law_cell.m,T.q__law_cell.F.kp,T.q__law_cell.b⟩,(fMc ⟨⟨_,_,_,(FnOk.mono (Z9U T) (by decide)),T.q__law_ferries.m,T.q__law_ferries.F.kp,T.q__law_ferries.b⟩,(fMc ⟨⟨_,_,_,(FnOk.mono (V8 T) (by decide)),T.q__law_mix.m,T.q__law_mix.F.kp,T.q__law_mix.b⟩,(fMc ⟨⟨_,_,_,(FnOk.mono (Zcc T) (by decide)),T.q__law_names.m,T.q__law_names.F.kp,T.q__law_names.b⟩,(fMc ⟨⟨_,_,_,(FnOk.mono (Zd6 T) (by decide)),T.q__law_step.m,T.q__law_step.F.kp,T.q__law_step.b⟩,(fMc ⟨⟨_,_,_,(FnOk.mono (Q9 T) (by decide)),T.q__law_word.m,T.q__law_word.F.kp,T.q__law_word.b⟩,nl0⟩)⟩)⟩)⟩)⟩)⟩):Fts P w K mg base 12 NY [("_law_cell",UD),("_law_ferries",B9),("_law_mix",XZ),("_law_names",B7),("_law_step",B8),("_law_word",Ug)]) Fi Zcy (fun vs M Q h=>?_) (fun vs M Q h=>?_)
 ·obtain⟨_,rfl,_⟩:=h;rfl
 obtain⟨ns,rfl,nl,q⟩:=h;show wSs _ _ _ [some (.frl (ns.map .int)),some (.int 3),none,none,none,none,none,none,none,none,none,none,none,none,none,none,none] M;have hΦ:=(Zk (Φ:=[("_law_cell",UD),("_law_ferries",B9),("_law_mix",XZ),("_law_names",B7),("_law_step",B8),("_law_word",Ug)]) (fMc ⟨CG,(fMc ⟨Qk,(fMc ⟨Zo,(fMc ⟨Qf,(fMc ⟨Qj,(fMc ⟨FV,nl0⟩)⟩)⟩)⟩)⟩)⟩));delta Fi NX;walk_at "s";refine⟨ns,0,rfl,by decide,λv0=>?_⟩
 walk_at "s";refine⟨v0,1,rfl,?_⟩;obtain⟨h0,h1⟩:=FU v0 1;generalize Yg v0 1=hd at*;delta NW;walk_at "s";intro p0 hp0;obtain⟨m,hm,m5⟩:=ZlL (i:=hd%8) (by lia) (by lia)
 refine⟨_,hm,?_⟩;have s0:=SameM.new hp0 (.lst [MV.int 2,.int 3,.int 4,.int 5,.int 2,.int 3,.int 1,.int 0]);generalize updM M p0 _=M0 at*;delta NV;walk_at "s";refine⟨ns,1,rfl,by decide,λv1=>?_⟩
 walk_at "s";refine⟨v1,2,rfl,?_⟩;walk_at "s";refine⟨_,17,rfl,by decide,λpn zs M1 s1 hpn hn zl znd zg=>?_⟩
 delta NU;walk_at "s";refine⟨ns,2,rfl,by decide,λv2=>?_⟩
 walk_at "s";refine⟨v2,3,rfl,?_⟩;obtain⟨z0,z1⟩:=FU v2 3;generalize Yg v2 3=sz at*;delta NT;walk_at "s";intro p1 hp1;obtain⟨wd,hwd,wd1,wd2⟩:∃wd:Nat,atI [MV.int (1+sz/4%64),.int 64,.int (1+sz/4%5),.int 8] (sz%4)=some (.int wd)/\1≤wd/\wd≤64:=by
  rcases(show sz%4=0\/sz%4=1\/sz%4=2\/sz%4=3 by lia)with e|e|e|e<;>rw[e]
  ·exact⟨(1+sz/4%64).toNat,by rw[U5 (by lia)];exact at0,by lia,by lia⟩
  ·exact⟨64,at1,by lia,by lia⟩
  ·exact⟨(1+sz/4%5).toNat,by rw[U5 (by lia)];exact at2,by lia,by lia⟩
  ·exact⟨8,at3,by lia,by lia⟩
 refine⟨_,hwd,?_⟩;have s2:=SameM.new hp1 (.lst [MV.int (1+sz/4%64),.int 64,.int (1+sz/4%5),.int 8]);generalize updM M1 p1 _=M2 at*;have hn2:=s2 _ _ hn;delta NS;walk_at "s";refine⟨hd,pn,zs,m,rfl,hn2,by lia,znd,m5,λF pf M3 s3 hpf hf fl fn fo=>?_⟩
 delta NR;walk_at "s";intro pi hpi;have s4:=SameM.new hpi (.lst []);have hi4:updM M3 pi (.lst []) pi=some (.lst []):=Xb;have only:∀a,a≠pi->updM M3 pi (.lst []) a=M3 a:=λa e=>X9 e;generalize updM M3 pi _=M4 at*;have ndF:(F.map (·.name)).Nodup:=by
  refine G8.mpr λi j hi hj hij e=>?_;rw[X2]at hi hj;rw[CZ,CZ]at e;have e1:=fn i _ (X6 hi);have e2:=fn j _ (X6 hj);rw[e]at e1;have:=(Zz (show 5+i<zs.length by lia) znd).mp (e1.trans e2.symm)
  lia
 delta NQ;walk_at "s";obtain⟨J,hJ⟩:∃J:Nat->Sm->MH->Prop,∀j σ M',J j σ M'↔∃(Is:List Isl) (ys:List MV) (v9 v10 v11 v12 v13 v14 v15 v16:Option MV),SameM M3 M'/\M' pi=some (.lst ys)/\IslsNew M4 M' Is ys/\Is.length=j/\(∀(k:Nat) I,Is[k]?=some I->zs[k]?=some I.name)/\(∀I∈Is,IslOk wd (F.map (·.name)) I/\∀s∈I.stps,VO F I.name s)/\
  σ=[some (.frl (ns.map MV.int)),some (.int 3),some (.int hd),some (.int m),some (.ref pn),some (.int sz),some (.int wd),some (.ref pf),some (.ref pi),v9,v10,v11,v12,v13,v14,v15,v16]:=⟨_,λ_ _ _=>XT⟩
 refine⟨by lia,by lia,J,(hJ 0 _ _).mpr ⟨[],[],_,_,_,_,_,_,_,_,s4,hi4,⟨rfl,λi I y h=>by simp at h⟩,rfl,λk I h=>by simp at h,λI h=>(nomatch h),rfl⟩,λj σ M' h=>trivial,?_,?_⟩
 ·rintro i u σ M' hu h;obtain⟨Is,ys,v9,v10,v11,v12,v13,v14,v15,v16,s,hys,hI,il,inm,io,rfl⟩:=(hJ _ _ _).mp h;obtain⟨hi,rfl⟩:=AK hu;have hi:i<m:=by simpa using hi
  have hyl:=hI.len;have bk:∀x,M' x=none->M4 x=none:=λx hx=>by
   by_cases e:x=pi
   ·subst e;rw[hys]at hx;cases hx
   ·rw[only x e];exact s.free hx
  delta NP;walk_at "s";refine⟨sz,20+(0+(i:Nat)),rfl,?_⟩;obtain⟨r0,r1⟩:=FU sz (20+(0+(i:Nat)));generalize Yg sz (20+(0+(i:Nat)))=mr at*;have hn5:=s _ _ (s3 _ _ hn2);delta NO;walk_at "s";intro pq hpq;obtain⟨fs,hfs,fs11⟩:∃fs:Nat,atI [MV.int 11,.int 11,.int 5,.int 0] (mr/7%4)=some (.int fs)/\fs≤11:=by
   rcases(show mr/7%4=0\/mr/7%4=1\/mr/7%4=2\/mr/7%4=3 by lia)with e|e|e|e<;>rw[e]
   ·exact⟨11,at0,by lia⟩
   ·exact⟨11,at1,by lia⟩
   ·exact⟨5,at2,by lia⟩
   ·exact⟨0,at3,by lia⟩
  refine⟨_,hfs,?_⟩;have sq:=SameM.new hpq (.lst [MV.int 11,.int 11,.int 5,.int 0]);generalize updM M' pq _=Mq at*;delta NN
  repeat (first|walk_at "s"|simp only[sq _ _ hn5])
  intro po hpo;obtain⟨zo,hzo,zol,zond,zoin⟩:∃zo:List Str,cutM (zs.map MV.str) (some (fs:Int)) (some ((fs:Int)+mr%7))=zo.map MV.str/\zo.length≤6/\zo.Nodup/\∀z∈zo,z∈zs:=by
   obtain⟨d,hd,d6⟩:∃d:Nat,mr%7=(d:Int)/\d≤6:=⟨(mr%7).toNat,by lia,by lia⟩
   have e2:(fs:Int)+mr%7=((fs+d:Nat):Int):=by lia
   rw[e2];refine⟨(zs.drop (HT.sIx (zs.map MV.str).length 0 (some (fs:Int)))).take (HT.sIx (zs.map MV.str).length (zs.map MV.str).length (some ((fs+d:Nat):Int)) - HT.sIx (zs.map MV.str).length 0 (some (fs:Int))),?_,?_,?_,λz hz=>List.mem_of_mem_drop (CU hz)⟩
   ·unfold cutM;rw[W8,List.map_drop]
   ·have h1:=HT.sIx_nat (zs.map MV.str).length 0 fs;have h2:=HT.sIx_nat (zs.map MV.str).length (zs.map MV.str).length (fs+d);rw[X2,zl]at h1 h2 ⊢;rw[h1,h2,XL,Uk];lia
   ·exact(znd.sublist (List.drop_sublist ..)).sublist (Bt ..)
  rw[hzo];have s5:=SameM.new hpo (.lst (zo.map MV.str));have ho5:updM Mq po (.lst (zo.map MV.str)) po=some (.lst (zo.map MV.str)):=Xb;generalize updM Mq po _=M5 at*;replace s5:=sq.trans s5;delta NM;walk_at "s";refine FL (XN ((ns.length:Int) - 3).toNat) (λk=>.int (3+(k:Nat))) (λk=>.int (ns.getD (3+k) 0%1000000007)) (λk=>decide ((3+(k:Int) - 3)%(m:Int)=0+(i:Nat))) ?_ ?_ hΦ λpc hpc=>?_
  ·walk_at "s";rw[X2];refine⟨⟨by lia,by lia⟩,rfl,by rw[Zy];lia,trivial⟩
  ·intro k hk M6 s6;have hk:k<((ns.length:Int) - 3).toNat:=Bu.mp hk;have hkn:3+k<ns.length:=by lia
   simp only[sCm,Xz,Y6,Yn,Yo,Yi,Yc];walk_at "s";refine⟨by lia,λ_=>⟨.int ns[3+k],?_,?_⟩⟩
   ·have e:(3:Int)+(k:Nat)=((3+k:Nat):Int):=by lia
    rw[e];exact XH (by rw[Xg,X6 hkn];rfl)
   ·walk_at "s";rw[Y2,X6 hkn];rfl
  obtain⟨cs,hcs,csl⟩:∃cs:List Int,((XN ((ns.length:Int) - 3).toNat).filter (λk:Nat=>decide ((3+(k:Int) - 3)%(m:Int)=0+(i:Nat)))).map (λk=>MV.int (ns.getD (3+k) 0%1000000007))=cs.map MV.int/\cs.length≤63:=by
   refine⟨((XN ((ns.length:Int) - 3).toNat).filter (λk:Nat=>decide ((3+(k:Int) - 3)%(m:Int)=0+(i:Nat)))).map (λk=>ns.getD (3+k) 0%1000000007),by rw[Y7];rfl,?_⟩
   rw[X2];exact XV (List.length_filter_le ..) (by rw[Zy];lia)
  rw[hcs];have s6:=SameM.new hpc (.lst (cs.map MV.int));have hc6:updM M5 pc (.lst (cs.map MV.int)) pc=some (.lst (cs.map MV.int)):=Xb;generalize updM M5 pc _=M6 at*;delta NL
  repeat (first|walk_at "s"|simp only[hc6])
  obtain⟨ln,hln,hln2⟩:∃ln:Nat,(if(12:Int)<((cs.map MV.int).length:Nat)then(12:Int)else((cs.map MV.int).length:Nat))=(ln:Int)/\ln=min 12 cs.length:=by
   rw[X2];by_cases h:(12:Int)<(cs.length:Nat)
   ·rw[if_pos h];exact⟨12,rfl,by lia⟩
   ·rw[if_neg h];exact⟨cs.length,rfl,by lia⟩
  rw[hln];delta NK;walk_at "s";refine Jr (XN zo.length) (λj=>.int (0+(j:Nat))) (λj=>.tup [.str (zo.getD j default),.int (UE (Yg mr (0+(j:Nat))) wd)]) ?_ ?_ hΦ λpp M7 hpp s7 hp7=>?_
  ·repeat (first|walk_at "s"|simp only[s6 _ _ ho5])
   rw[X2];exact⟨by lia,by lia,rfl,by rw[Zy];lia,trivial,λ_ _ e=>e⟩
  ·intro j hj M7 s7;have hj:j<zo.length:=Bu.mp hj;simp only[sCm,Xz,Y6,Yn,Yo,Yi,Yc]
   repeat (first|walk_at "s"|simp only[s7 _ _ (s6 _ _ ho5)])
   refine⟨_,VS (k:=j) (by lia) (X6 hj),?_⟩
   try walk_at "s"
   refine⟨mr,_,rfl,?_⟩
   try walk_at "s"
   refine⟨_,wd,rfl,wd2,λM8 s8=>?_⟩
   try walk_at "s"
   refine⟨?_,s8⟩;rw[Y2,X6 hj];rfl
  have s7:SameM M6 M7:=s7;obtain⟨prs,hprs⟩:∃prs:List (Str×Int),(XN zo.length).map (λj:Nat=>(zo.getD j default,UE (Yg mr (0+(j:Nat))) wd))=prs:=⟨_,rfl⟩;have hp7:M7 pp=some (.lst (prs.map prV)):=by rw[hp7,<- hprs,Y7];rfl
  have hzi:=X6 (show i<zs.length by lia)
  generalize zs[i]'(by lia)=zi at*
  have s57:=(s5.trans s6).trans s7;have hf7:=s57 _ _ (s _ _ hf);delta NJ;walk_at "s";refine ZjF (cs.take 12) MV.int (λ_ y=>∃S:Stp,y=S.mv/\(Ze (F.map (·.name)) zo ln S/\VO F zi S)) ?_ ?_ hΦ λps M8 yss hps s8 ysl hyr hs8=>?_
  ·repeat (first|walk_at "s"|simp only[s7 _ _ hc6])
   intro p hp;have e12:=Pf (cs.map MV.int) 12;have e12:cutM (cs.map MV.int) none (some 12)=(cs.take 12).map MV.int:=by rw[W8];exact e12
   rw[e12]
   try walk_at "s"
   refine⟨rfl,by rw[XL];lia,?_,SameM.new hp _⟩
   exact Xb
  ·intro c hc M8 s8;simp only[sCm,Xz,Y6,Yn,Yo,Yi,Yc];walk_at "s";refine⟨c,4,rfl,?_⟩
   repeat (first|walk_at "s"|simp only[s8 _ _ (s57 _ _ hn5)])
   refine⟨_,VS (k:=i) (by lia) hzi,?_⟩
   try walk_at "s"
   refine⟨_,zi,pf,po,F,zo,ln,rfl,s8 _ _ hf7,fl,ndF,s8 _ _ ((s6.trans s7) _ _ ho5),zol,by lia,λS M9 s9 si se=>?_⟩
   exact⟨⟨S,rfl,si,se⟩,s9⟩
  obtain⟨ss,rfl,ssl,ssP⟩:=Qm ysl hyr;have ssl:ss.length=ln:=by rw[ssl,XL];lia
  have s78:=s57.trans s8;delta NI
  repeat (first|walk_at "s"|simp only[s78 _ _ hn5,s78 _ _ hys])
  refine⟨⟨_,rfl⟩,_,VS (k:=i) (by lia) hzi,?_⟩
  repeat (first|walk_at "s"|simp only[s78 _ _ hys])
  have vars:prs.map (·.1)=zo:=by
   rw[<- hprs,Y7];apply W6;intro k;rw[Xg];by_cases hk:k<zo.length
   ·rw[List.getElem?_range hk,X6 hk];show some (zo.getD k default)=_;rw[Y2,X6 hk];rfl
   ·rw[Zw (by rw[Zy];lia),Zw (by lia)];rfl
  have prl:prs.length=zo.length:=by rw[<- vars,X2]
  have n1:M4 pp=none:=bk _ ((s5.trans s6).free hpp);have n2:M4 ps=none:=bk _ (s57.free hps);have s8':∀x o,M8 x=some o->M4 x=none->updM M8 pi (.lst (ys++[.tup [.str zi,.ref pp,.ref ps]])) x=some o:=λx o h n=>by
   rw[X9 (λe=>by subst e;rw[hi4]at n;cases n)];exact h
  refine⟨by lia,(hJ _ _ _).mpr ⟨Is++[⟨zi,prs,ss⟩],_,_,_,_,_,_,_,_,_,(s.trans s78).upd hpi _,Xb,?_,by rw[Y5,il];rfl,λk I hk=>?_,λI hI'=>?_,rfl⟩⟩
  ·refine(hI.keep λx o h n=>s8' x o (s78 _ _ h) n).add (I:=⟨zi,prs,ss⟩) n1 n2 (s8' _ _ (s8 _ _ hp7) n1) (s8' _ _ hs8 n2)
  ·rcases UG hk with⟨_,hk⟩|⟨rfl,rfl⟩
   ·exact inm k I hk
   ·rw[il];exact hzi
  ·rcases Ys.mp hI' with h'|h'
   ·exact io I h'
   ·rw[YE]at h';subst h';refine⟨⟨by show prs.length≤6;lia,by show ss.length≤12;lia,?_,?_,?_,?_⟩,λS hS=>(ssP S hS).2⟩
    ·show(prs.map (·.1)).Nodup;rw[vars];exact zond
    ·intro x hx;have hx:x∈prs.map (·.1):=hx;rw[vars]at hx;exact zg x (zoin x hx)
    ·intro x hx;have hx:x∈prs:=hx;rw[<- hprs]at hx;obtain⟨j,_,rfl⟩:=XI.mp hx;exact Zes _ _
    ·intro S hS;show Ze _ (prs.map (·.1)) ss.length S;rw[vars,ssl];exact(ssP S hS).1
 ·rintro σ M' h;obtain⟨Is,ys,v9,v10,v11,v12,v13,v14,v15,v16,s,hys,hI,il,inm,io,rfl⟩:=(hJ _ _ _).mp h;have il:Is.length=m:=il.trans (Up m);delta NH;walk_at "s";have s03:=((s0.trans s1).trans s2).trans s3;have eI:Is.map (·.name)=zs.take m:=by
   apply W6;intro k;by_cases hk:k<m
   ·rw[Xg,W3 hk,X6 (show k<Is.length by lia),inm k _ (X6 (show k<Is.length by lia))];rfl
   ·rw[Zw (by rw[X2];lia),Zw (by rw[XL];lia)]
  have eF:∀z∈F.map (·.name),∃j:Nat,j<F.length/\zs[5+j]?=some z:=λz hz=>by
   obtain⟨f,hf,rfl⟩:=XI.mp hz;obtain⟨j,hj,rfl⟩:=Y0 hf;exact⟨j,hj,fn j _ (X6 hj)⟩
  refine q ⟨wd,Is,F⟩ pi pf ys M' (s03.trans s) ?_ (s03.free hpi) (((s0.trans s1).trans s2).free hpf) (neM hf hpi).symm hys hI.inn (s _ _ hf);refine⟨wd1,wd2,by show Is.length≤5;lia,by show F.length≤6;exact fl,λz hz=>?_,λz hz=>?_,?_,λI hi=>(io I hi).1,λf hf=>?_,λI hi=>(io I hi).2⟩
  ·obtain⟨j,_,e⟩:=eF z hz;exact zg z (Xk e)
  ·have hz:z∈Is.map (·.name):=hz;rw[eI]at hz;exact zg z (CU hz)
  ·show(F.map (·.name)++Is.map (·.name)).Nodup;rw[Zx,eI];refine⟨ndF,znd.sublist (Bt ..),λa ha b hb e=>?_⟩;subst e;obtain⟨j,_,e1⟩:=eF a ha;obtain⟨k,hk,e2⟩:=Y0 hb;rw[XL]at hk;rw[CY]at e2;have:=(Zz (show k<zs.length by lia) znd).mp ((X6 (show k<zs.length by lia)).trans ((congrArg some e2).trans e1.symm))
   lia
  ·show FerOk (Is.map (·.name)) f;rw[eI];exact fo f hf
noncomputable abbrev Bb:SpM:=λvs M Q=>∃(W:Wld) (pi pf:Addr) (ys:List MV),vs=[.tup [.int W.w,.ref pi,.ref pf]]/\W.Good/\M pi=some (.lst ys)/\IslsIn M W.isl ys/\M pf=some (.lst (W.fer.map Fer.mv))/\∀M',SameM M M'->Q W.mv M'
theorem Qo:MonW Bb:=by walk_at "m"
theorem Zd8(T:Txt K mg t):FnOk P w K mg base CX0 57 t.f__law_made t.d__law_made ["parts"] (liSp K Bb):=by
 refine T.q__law_made.F.okM ZcW (Xs (Φ:=[("made",AZ)]) (Xt T) (Xu T) rfl (fMc ⟨PR,nl0⟩) (fMc ⟨⟨_,_,_,(FnOk.mono (Zlx T) (by decide)),T.q_made.m,T.q_made.F.kp,T.q_made.b⟩,nl0⟩):Fts P w K mg base 56 O1 [("made",AZ)]) Fj ZdJ (fun vs M Q h=>?_) (fun vs M Q h=>?_)
 ·obtain⟨_,_,_,_,rfl,_⟩:=h;rfl
 obtain⟨W,pi,pf,ys,rfl,G,hpi,hIs,hpf,q⟩:=h;show wSs _ _ _ [some (.tup [.int W.w,.ref pi,.ref pf]),none] M;have i5:=G.i5;have hyl:=hIs.1;have hΦ:=(Zk (Φ:=[("made",AZ)]) (fMc ⟨PR,nl0⟩));delta Fj O0;walk_at "s";refine PU (W.isl.zip ys) (·.2) (λx y N M2=>∃a b,N=[a,b]/\y=.tup [.str x.1.name,.ref a,.ref b]/\M2 a=some (.lst (x.1.prs.map prV))/\M2 b=some (.lst (x.1.stps.map Stp.mv))) (λM1=>M1=M) ?_ ?_ ?_ hΦ λD zs Ns M1 hD s1 l1 l2 nd1 dn1 fr1 at1 hd1=>?_
 ·rintro x y N M2 M3 hk ⟨a,b,rfl,e1,e2,e3⟩;exact⟨a,b,rfl,e1,by rw[hk a (by simp)];exact e2,by rw[hk b (by simp)];exact e3⟩
 ·repeat (first|walk_at "s"|simp only[hpi])
  exact⟨show ys=(W.isl.zip ys).map (·.2)from(List.map_snd_zip (by lia)).symm,by rw[ZB];lia,.inl ⟨hpi,rfl⟩⟩
 ·rintro⟨I,y⟩ hx M1 M' rfl s;obtain⟨i,e1,e2⟩:=FQ hx;obtain⟨a,b,rfl,h1,h2⟩:=hIs.2 i I y e1 e2;have h1':=s _ _ h1;have h2':=s _ _ h2;simp only[sCm,Xz,Y6,Yn,Yo,Yi,Yc]
  repeat (first|walk_at "s"|simp only[h1'])
  intro p hp;have sp:=SameM.new hp (.lst (I.prs.map prV));have hpp:updM M' p (.lst (I.prs.map prV)) p=some (.lst (I.prs.map prV)):=Xb;have hb2:=sp _ _ h2'
  repeat (first|walk_at "s"|simp only[hb2])
  intro p' hp';have sp':=SameM.new hp' (.lst (I.stps.map Stp.mv));refine⟨sp.trans sp',[p,p'],by simp[neM hpp hp'],?_,p,p',rfl,rfl,sp' _ _ hpp,Xb⟩
  intro x hx;simp only[Xn,Y3,or_false]at hx;rcases hx with rfl|rfl
  ·exact⟨hp,_,sp' _ _ hpp⟩
  ·exact⟨sp.free hp',_,Xb⟩
 delta NZ;walk_at "s";have hpf1:=s1 _ _ hpf
 repeat (first|walk_at "s"|simp only[hpf1])
 intro p2 hp2;have s2:=SameM.new hp2 (.lst (W.fer.map Fer.mv));have h2:updM M1 p2 (.lst (W.fer.map Fer.mv)) p2=some (.lst (W.fer.map Fer.mv)):=Xb;generalize updM M1 p2 _=M2 at*;refine⟨D,p2,zs,W,rfl,s2 _ _ hd1,⟨by rw[l1,ZB];lia,λi I y hI hy=>?_⟩,h2,G,λM3 s3=>?_⟩
 ·have hi:i<ys.length:=by rw[hyl];exact(Xx.mp hI).1
  have hN:i<Ns.length:=by rw[l2,ZB];lia
  obtain⟨a,b,_,e,h1,h2⟩:=at1 i (I,ys[i]) y _ (FR hI (X6 hi)) hy (X6 hN);exact⟨a,b,e,s2 _ _ h1,s2 _ _ h2⟩
 ·try walk_at "s"
  exact q _ ((s1.trans s2).trans s3)
theorem StdAt.own_at{W:Wld}{S:Std}{M:MH}{A:StA}(h:StdAt W S M A){c:Nat}(hS:SOk W c S){a:Addr}(ha:a∈A.own\/a∈A.ws):∃o,M a=some o:=by
 rcases ha with z|z
 ·unfold StA.own at z;simp only[Xn]at z;rcases z with z|z|z|z|z
  ·exact⟨_,z▸h.n⟩
  ·exact⟨_,z▸h.w⟩
  ·exact⟨_,z▸h.g⟩
  ·exact⟨_,z▸h.t⟩
  ·obtain⟨j,hj,rfl⟩:=Y0 z;have hj2:j<S.giv.length:=by rw[hS.gl,<- h.gl];exact hj
   exact⟨_,h.gv j _ _ (X6 hj) (X6 hj2)⟩
 ·obtain⟨j,hj,rfl⟩:=Y0 z;have hj2:j<S.wd.length:=by rw[hS.wl,<- h.wl];exact hj
  exact⟨_,h.wv j _ _ (X6 hj) (X6 hj2)⟩
theorem StdAt.offd{W:Wld}{S:Std}{M:MH}{A:StA}(h:StdAt W S M A){D:Addr}(n1:D∉A.own)(n2:D∉A.ws)(o:MO):StdAt W S (updM M D o) A:=by
 have k:∀{a:Addr} {u:MO},a∈A.own\/a∈A.ws->M a=some u->updM M D o a=some u:=λha e=>by
  rw[X9 λz=>by subst z;exact ha.elim n1 n2];exact e
 exact⟨k (.inl (by simp[StA.own])) h.n,k (.inl (by simp[StA.own])) h.w,k (.inl (by simp[StA.own])) h.g,k (.inl (by simp[StA.own])) h.t,h.wl,h.gl,
  λi a kv x y=>k (.inr (Xk x)) (h.wv i a kv x y),λi a kv x y=>k (.inl (YV (Xk x))) (h.gv i a kv x y)⟩
noncomputable def YC(W:Wld):Nat->Std
 |0=>Xo W
 |k+1=>Cy W (YC W k)
theorem CI{W:Wld}(G:W.Good):∀k:Nat,SOk W (5*k) (YC W k)
 |0=>FS G
 |k+1=>by
  have:=(VQ G (CI G k) W.isl.length).1;have i5:=G.i5;exact this.up (by lia)
noncomputable def StA.has(A:StA)(a:Addr):Prop:=a∈A.own\/a∈A.ws
structure StFresh (M:MH) (A:StA):Prop where
 nd:A.own.Nodup
 ws:∀a∈A.ws,a∉A.own
 fr:∀a,A.has a->M a=none
theorem StdAt.alive{W:Wld}{c:Nat}{S:Std}{M:MH}{A:StA}(h:StdAt W S M A)(hS:SOk W c S){a:Addr}(ha:A.has a):∃o,M a=some o:=h.own_at hS ha
theorem CJ{W:Wld}(G:W.Good){j:Nat}{F:Fer}(hF:W.fer[j]?=some F):W.fat F.name=j:=by
 have hj:W.fns[j]?=some F.name:=by unfold Wld.fns;rw[Xg,hF];rfl
 have:=(Ye (Xk hj)).1;exact(Zz (by have:=(Ye (Xk hj)).2;unfold Wld.fns;rw[X2];exact this) G.fn_nd).mp (this.trans hj.symm)
theorem getD_set{α:Type}{l:List α}{i k:Nat}{v d:α}:(l.set i v).getD k d=if k=i/\i<l.length then v else l.getD k d:=by
 rw[Y2,UI,Y2];by_cases e:i=k
 ·subst e;by_cases h:i<l.length
  ·rw[if_pos rfl,if_pos h,if_pos ⟨rfl,h⟩];rfl
  ·rw[if_pos rfl,if_neg h,if_neg λz=>h z.2,Zw (by lia)]
 ·rw[if_neg e,if_neg λz=>e z.1.symm]
theorem G0{W:Wld}{f f':Str}(h:f∈W.fns)(h':f'∈W.fns)(e:W.fat f=W.fat f'):f=f':=by
 have a:=(Ye h).1;rw[e,(Ye h').1]at a;exact(Yk a).symm
theorem Qp{W:Wld}{S:Std}{k:Nat}:∀i:Nat,i≤k->(Xp W S i).1.wd.getD k []=S.wd.getD k []
 |0,_=>rfl
 |i+1,h=>by
  rw[<- Qp (S:=S) i (by lia)]
  show(Yf W S i (Xp W S i)).1.wd.getD k []=_;unfold Yf;split
  ·split
   ·exact getD_set.trans (if_neg λz=>by lia)
   ·rfl
  ·rfl
noncomputable def G1(W:Wld)(S:Std):Prop:=∀(j:Nat) F,W.fer[j]?=some F->S.tak.getD j 0≤(S.giv.getD j []).length/\(S.giv.getD j []).length≤S.tak.getD j 0+2^F.k
theorem Qq{W:Wld}(G:W.Good){c:Nat}{S:Std}(hS:SOk W c S){j:Nat}{F:Fer}(hF:W.fer[j]?=some F):∀i:Nat,
  (((Xp W S i).1.giv.getD j []).length=(S.giv.getD j []).length\/(((Xp W S i).1.giv.getD j []).length=(S.giv.getD j []).length+1/\(S.giv.getD j []).length<S.tak.getD j 0+2^F.k/\∃g,g<i/\W.ins[g]?=some F.giver))/\S.tak.getD j 0≤(Xp W S i).1.tak.getD j 0
 |0=>⟨.inl rfl,Xh _⟩
 |i+1=>by
  have ih:=Qq G hS hF i;have k1:=(VQ G hS i).1;have up:(((Xp W S i).1.giv.getD j []).length=(S.giv.getD j []).length\/(((Xp W S i).1.giv.getD j []).length=(S.giv.getD j []).length+1/\(S.giv.getD j []).length<S.tak.getD j 0+2^F.k/\∃g,g<i+1/\W.ins[g]?=some F.giver)):=
   ih.1.imp id fun⟨a,b,g,h,e⟩=>⟨a,b,g,by lia,e⟩
  show((((Yf W S i (Xp W S i)).1.giv.getD j []).length=_\/(((Yf W S i (Xp W S i)).1.giv.getD j []).length=_/\_))/\_≤(Yf W S i (Xp W S i)).1.tak.getD j 0);unfold Yf;cases hI:W.isl[i]? with
  |none=>exact⟨up,ih.2⟩
  |some I=>
   dsimp only;cases hg:YB W S i I with
   |none=>exact⟨up,ih.2⟩
   |some s=>
    obtain⟨hs,hc⟩:=Cw hg;have si:=UC G hI hs;cases s with
    |put x T=>exact⟨up,ih.2⟩
    |jump T k=>exact⟨up,ih.2⟩
    |take f x=>
     refine⟨up,?_⟩;show _≤((Xp W S i).1.tak.set (W.fat f) (S.tak.getD (W.fat f) 0+1)).getD j 0;rw[getD_set];split
     ·rename_i z;rw[z.1];lia
     ·exact ih.2
    |give f T=>
     refine⟨?_,ih.2⟩;show(((Xp W S i).1.giv.set (W.fat f) ((Xp W S i).1.giv.getD (W.fat f) []++[T.val (rhoK (S.wd.getD i [])) W.w])).getD j []).length=_\/((((Xp W S i).1.giv.set (W.fat f) ((Xp W S i).1.giv.getD (W.fat f) []++[T.val (rhoK (S.wd.getD i [])) W.w])).getD j []).length=_/\_);rw[getD_set];split
     ·rename_i z
      have fm:F.name∈W.fns:=XI.mpr ⟨F,Xk hF,rfl⟩;have en:F.name=f:=G0 fm si.1 ((CJ G hF).trans z.1);have gv:F.giver=I.name:=G.en I (Xk hI) _ (Xk hs) F (Xk hF) en;have hi:=ZU hI;have hc:decide (((S.giv.getD (W.fat f) []).length:Int) - (S.tak.getD (W.fat f) 0:Nat)<2^(W.fer.map (·.k)).getD (W.fat f) 0)=true:=hc;have ek:(W.fer.map (·.k)).getD j 0=F.k:=by rw[Y2,Xg,hF];rfl
      rw[<- z.1,ek,decide_eq_true_eq]at hc;have p2:((2^F.k:Nat):Int)=2^F.k:=by simp
      rw[<- z.1,Y5,W4];rcases ih.1 with e|⟨_,_,g,hg,eg⟩
      ·exact .inr ⟨by rw[e],by lia,i,Dd _,by rw[gv];exact hi⟩
      ·have:=(Zz (Xx.mp eg).1 G.in_nd).mp (eg.trans ((congrArg some gv).trans hi.symm));lia
     ·exact up
theorem Qr{W:Wld}(G:W.Good):∀k:Nat,G1 W (YC W k)
 |0=>λj F hF=>by
  have e1:(Xo W).tak.getD j 0=0:=by show(W.fer.map λ_=>0).getD j 0=0;rw[Y2,Xg,hF];rfl
  have e2:(Xo W).giv.getD j []=[]:=by show(W.fer.map λ_=>[]).getD j []=[];rw[Y2,Xg,hF];rfl
  show(Xo W).tak.getD j 0≤((Xo W).giv.getD j []).length/\((Xo W).giv.getD j []).length≤(Xo W).tak.getD j 0+2^F.k;rw[e1,e2];exact⟨Xh _,YL _⟩
 |k+1=>λj F hF=>by
  have hS:=CI G k;have k1:=(VQ G hS W.isl.length).1;have hj:=(Xx.mp hF).1;have h1:=k1.ti j _ _ (ZT k1 hj) (FN k1 hj);have⟨h2,h3⟩:=Qq G hS hF W.isl.length;have h4:=(Qr G k j F hF).2;refine⟨h1,?_⟩;show((Xp W (YC W k) W.isl.length).1.giv.getD j []).length≤(Xp W (YC W k) W.isl.length).1.tak.getD j 0+2^F.k;rcases h2 with e|⟨e,b,_⟩<;>lia
theorem Qs:∀{ks:List Str} {vs:List MV} {k:Key} {u:MV},(k,u)∈zipK ks vs->∃(i:Nat) (z:Str),ks[i]?=some z/\k=Xf z/\vs[i]?=some u
 |[],_,_,_,h=>by cases h
 |_::_,[],_,_,h=>by cases h
 |a::ks,b::vs,k,u,h=>by
  rcases Xn.mp h with h|h
  ·cases h;exact⟨0,a,rfl,rfl,rfl⟩
  ·obtain⟨i,z,h1,h2,h3⟩:=Qs h;exact⟨i+1,z,by simpa using h1,h2,by simpa using h3⟩
theorem CK{M:MH}{ks:List Str}(nd:ks.Nodup){vs vs':List MV}{a b:Addr}{n:Nat}(l:vs.length=ks.length)(l':vs'.length=ks.length)(h:M a=some (.dic (zipK ks vs)))(h':M b=some (.dic (zipK ks vs')))
  (e:∀(i:Nat) u v,vs[i]?=some u->vs'[i]?=some v->Alike M n u v):Alike M (n+1) (.ref a) (.ref b):=by
 refine Alike.dic h h' (by rw[Yl l,Yl l']) λk u hu=>?_
 obtain⟨i,z,hz,rfl,hi⟩:=Qs hu;have hin:=(Xx.mp hz).1;have hv:=X6 (show i<vs'.length by rw[l'];exact hin)
 exact⟨_,Zl nd hz hv,e i u _ hi hv⟩
theorem Qt{W:Wld}(G:W.Good){c:Nat}{S:Std}(hS:SOk W c S){M:MH}{A B:StA}(h:StdAt W S M A)(h':StdAt W S M B):Alike M 4 A.mv B.mv:=by
 have li:W.ins.length=W.isl.length:=by unfold Wld.ins;rw[X2]
 have lf:W.fns.length=W.fer.length:=by unfold Wld.fns;rw[X2]
 have flat:∀{ns:List Nat} (i:Nat) u v,(ns.map natM)[i]?=some u->(ns.map natM)[i]?=some v->Alike M 2 u v:=λi u v a b=>by
  rw[a]at b;cases b;obtain⟨_,rfl⟩:=Y9 a;exact Alike.flat 2 rfl
 refine Alike.tup rfl λi u v hu hv=>?_
 match i,hu,hv with
 |0,hu,hv=>
  cases hu;cases hv;exact CK G.in_nd (by rw[X2,hS.nl,li]) (by rw[X2,hS.nl,li]) h.n h'.n flat
 |1,hu,hv=>
  cases hu;cases hv;refine CK G.in_nd (by rw[X2,h.wl,li]) (by rw[X2,h'.wl,li]) h.w h'.w λi u v a b=>?_
  obtain⟨hi,rfl⟩:=Y9 a;obtain⟨hi',rfl⟩:=Y9 b;have hI:=X6 (show i<W.isl.length by rw[<- h.wl];exact hi)
  have hk:=Z3 hS hI;have fl:=(hS.wi i _ _ hI hk).nodup (G.io _ (Xk hI)).nd;exact Alike.dicFlat 1 (h.wv i _ _ (X6 hi) hk) (h'.wv i _ _ (X6 hi') hk) fl.1 fl.2
 |2,hu,hv=>
  cases hu;cases hv;refine CK G.fn_nd (by rw[X2,h.gl,lf]) (by rw[X2,h'.gl,lf]) h.g h'.g λi u v a b=>?_
  obtain⟨hi,rfl⟩:=Y9 a;obtain⟨hi',rfl⟩:=Y9 b;have hg:i<S.giv.length:=by rw[hS.gl,<- h.gl];exact hi
  refine Alike.lstFlat 1 (.inr ⟨_,rfl,h.gv i _ _ (X6 hi) (X6 hg)⟩) (.inr ⟨_,rfl,h'.gv i _ _ (X6 hi') (X6 hg)⟩) λv hv=>?_;obtain⟨x,_,rfl⟩:=XI.mp hv;rfl
 |3,hu,hv=>
  cases hu;cases hv;exact CK G.fn_nd (by rw[X2,hS.tl,lf]) (by rw[X2,hS.tl,lf]) h.t h'.t flat
 |n+4,hu,_=>simp at hu
noncomputable def CL(I:Isl)(n:Nat):MV:=match I.stps[n]? with
 |some s=>s.mv
 |none=>.tup [.str "none",.str ""]
theorem Bc{z:Str}(h:Z2 z):Uq z=true:=by
 unfold Uq;rw[Array.all_eq_true];intro i hi;have:=h.2.2 z.cps[i] (by rw[Array.mem_toList_iff];exact Array.getElem_mem hi)
 exact decide_eq_true (by omega)
theorem Tm.data{M:MH}{ns:List Str}(hn:∀x∈ns,Z2 x):∀{T:Tm},(∀x∈T.reads,x∈ns)->∃d,DM M T.mv d/\d.canLay0=true/\d.depth≤T.depth
 |.num n,_=>⟨.tuple [.str "num",.int n],.tup (.cons (.str _) (.cons (.int _) .nil)),by simp only[ZE,Vq,UQ];decide+kernel,by simp[ZF,Vr,Tm.depth]⟩
 |.var x,h=>⟨.tuple [.str "var",.str x],.tup (.cons (.str _) (.cons (.str _) .nil)),by
   have:=Bc (hn x (h x (by simp[Tm.reads])))
   simp only[ZE,Vq,this,UQ];decide+kernel,by simp[ZF,Vr,Tm.depth]⟩
 |.two f a b,h=>by
  obtain⟨d1,a1,a2,a3⟩:=Tm.data (M:=M) hn (T:=a) λx hx=>h x (by simp[Tm.reads,hx])
  obtain⟨d2,b1,b2,b3⟩:=Tm.data (M:=M) hn (T:=b) λx hx=>h x (by simp[Tm.reads,hx])
  refine⟨.tuple [.str f.str,d1,d2],.tup (.cons (.str _) (.cons a1 (.cons b1 .nil))),?_,?_⟩
  ·have:Uq f.str=true:=by cases f<;>decide+kernel
   simp only[ZE,Vq,this,a2,b2,UQ]
  ·simp only[ZF,Vr,Tm.depth];omega
 |.pick c a b,h=>by
  obtain⟨d0,c1,c2,c3⟩:=Tm.data (M:=M) hn (T:=c) λx hx=>h x (by simp[Tm.reads,hx])
  obtain⟨d1,a1,a2,a3⟩:=Tm.data (M:=M) hn (T:=a) λx hx=>h x (by simp[Tm.reads,hx])
  obtain⟨d2,b1,b2,b3⟩:=Tm.data (M:=M) hn (T:=b) λx hx=>h x (by simp[Tm.reads,hx])
  refine⟨.tuple [.str "pick",d0,d1,d2],.tup (.cons (.str _) (.cons c1 (.cons a1 (.cons b1 .nil)))),?_,?_⟩
  ·have:Uq ("pick":Str)=true:=by decide+kernel
   simp only[ZE,Vq,this,a2,b2,c2,UQ]
  ·simp only[ZF,Vr,Tm.depth];omega
theorem Bd{x y:MV}{r:List MV}:cutM (x::y::r) none (some 2)=[x,y]:=by
 have:=Pf (x::y::r) 2;exact this
theorem Be{M:MH}{a b g:Str}{d:Yr}{y:MV}(ha:Uq a=true)(hb:Uq b=true)(hg:Uq g=true)(hy:DM M y d)(hd:d.canLay0=true)(hl:d.depth≤60){k:Bool->Prop}(q:k (decide (a=b)&&U7 d (.str g))):wEq (.tup [.str a,y]) (.tup [.str b,.str g]) M k:=by
 refine Zos rfl (.tup (.cons (.str a) (.cons hy .nil))) (.tup (.cons (.str b) (.cons (.str g) .nil))) ?_ ?_ ?_
 ·unfold ZG;rw[Yd];refine⟨by simp only[ZE,Vq,ha,hd,UQ],decide_eq_true ?_⟩
  simp only[ZF,Vr]
  omega
 ·unfold ZG;rw[Yd];refine⟨by simp only[ZE,Vq,hb,hg,UQ],decide_eq_true ?_⟩
  simp only[ZF,Vr]
  omega
 ·have e:U7 (.tuple [.str a,d]) (.tuple [.str b,.str g])=(decide (a=b)&&U7 d (.str g)):=by
   simp only[U7,PyData.eqvAll,UQ];congr 1
  rw[e];exact q
noncomputable def Z4(tag:Str)(f:Str):Option Stp->Bool
 |some (.give f' _)=>decide ("give"=tag)&&decide (f'=f)
 |some (.take f' _)=>decide ("take"=tag)&&decide (f'=f)
 |some (.put x _)=>decide ("put"=tag)&&decide (x=f)
 |_=>false
theorem G2(x y:Str):U7 (.str x) (.str y)=decide (x=y):=by
 simp only[U7];by_cases e:x=y
 ·subst e;simp
 ·rw[decide_eq_false e];simpa using e
theorem Qu{W:Wld}(G:W.Good){i:Nat}{I:Isl}(hI:W.isl[i]?=some I) {n:Nat} {tag f:Str} (ht:tag="give"\/tag="take") (hf:Z2 f) {M:MH} {Q:QM} (q:Q (.bl (Z4 tag f I.stps[n]?)) M):
  wSl (CL I n) none (some 2) M λx M1=>wCmp .Eq x (.tup [.str tag,.str f]) M1 Q:=by
 have tok:Uq tag=true:=by rcases ht with rfl|rfl<;>decide+kernel
 have fk:=Bc hf;unfold CL;cases hs:I.stps[n]? with
 |none=>
  rw[hs]at q;show wCmp .Eq (.tup (cutM _ none (some 2))) _ _ _;rw[Bd,WD];refine Be (by decide+kernel) tok fk (.str "") (by simp only[ZE];decide+kernel) (by simp[ZF]) ?_
  have e:decide (("none":Str)=tag)=false:=by rcases ht with rfl|rfl<;>decide+kernel
  rw[e];exact q
 |some s=>
  rw[hs]at q;have si:=UC G hI hs;have gd:=(G.io I (Xk hI)).gd;cases s with
  |give f' T=>
   have hf':=Bc (G.fg f' si.1);show wCmp .Eq (.tup (cutM _ none (some 2))) _ _ _;rw[Bd,WD];refine Be (by decide+kernel) tok fk (.str f') (by simp only[ZE];exact hf') (by simp[ZF]) ?_
   rw[G2];exact q
  |take f' x=>
   have hf':=Bc (G.fg f' si.1);show wCmp .Eq (.tup (cutM _ none (some 2))) _ _ _;rw[Bd,WD];refine Be (by decide+kernel) tok fk (.str f') (by simp only[ZE];exact hf') (by simp[ZF]) ?_
   rw[G2];exact q
  |put x T=>
   have hx:=Bc (gd x si.1);show wCmp .Eq (.tup (cutM _ none (some 2))) _ _ _;rw[Bd,WD];refine Be (by decide+kernel) tok fk (.str x) (by simp only[ZE];exact hx) (by simp[ZF]) ?_
   rw[G2];exact q
  |jump T k=>
   obtain⟨d,d1,d2,d3⟩:=Tm.data (M:=M) gd si.1.2.2;have dd:=si.1.1;show wCmp .Eq (.tup (cutM _ none (some 2))) _ _ _;rw[Bd,WD];refine Be (by decide+kernel) tok fk d1 d2 (by omega) ?_
   have e:decide (("jump":Str)=tag)=false:=by rcases ht with rfl|rfl<;>decide+kernel
   rw[e];exact q
theorem Zmd{W:Wld}(G:W.Good){c:Nat}{S:Std}(hS:SOk W c S){j:Nat}{F:Fer}(hF:W.fer[j]?=some F):
  (∀x,canM W S (.take F.name x)=decide (S.tak.getD j 0<(S.giv.getD j []).length))/\(∀T,canM W S (.give F.name T)=decide (((S.giv.getD j []).length:Int) - (S.tak.getD j 0:Nat)<2^F.k)):=by
 have fat:=CJ G hF;refine⟨λx=>?_,λT=>?_⟩
 ·show decide (S.tak.getD (W.fat F.name) 0<(S.giv.getD (W.fat F.name) []).length)=_;rw[fat]
 ·show decide (((S.giv.getD (W.fat F.name) []).length:Int) - (S.tak.getD (W.fat F.name) 0:Nat)<2^(W.fer.map (·.k)).getD (W.fat F.name) 0)=_;have ek:(W.fer.map (·.k)).getD j 0=F.k:=by rw[Y2,Xg,hF];rfl
  rw[fat,ek]
theorem ZiK{f:Str}{s:Stp}(h:Z4 "give" f (some s)=true):∃T,s=.give f T:=by
 have a:decide (("take":Str)="give")=false:=by decide+kernel
 have b:decide (("put":Str)="give")=false:=by decide+kernel
 cases s with
 |give f' T=>
  simp only[Z4,Yd,decide_eq_true_eq]at h;exact⟨T,by rw[h.2]⟩
 |take f' x=>simp only[Z4,a,UP]at h;cases h
 |put x T=>simp only[Z4,b,UP]at h;cases h
 |jump T k=>cases h
theorem ZiJ{f:Str}{s:Stp}(h:Z4 "take" f (some s)=true):∃x,s=.take f x:=by
 have a:decide (("give":Str)="take")=false:=by decide+kernel
 have b:decide (("put":Str)="take")=false:=by decide+kernel
 cases s with
 |take f' x=>
  simp only[Z4,Yd,decide_eq_true_eq]at h;exact⟨x,by rw[h.2]⟩
 |give f' T=>simp only[Z4,a,UP]at h;cases h
 |put x T=>simp only[Z4,b,UP]at h;cases h
 |jump T k=>cases h
noncomputable abbrev CM:SpM:=λvs M Q=>∃(W:Wld) (S:Std) (A:StA) (c:Nat) (pf:Addr) (i:Nat) (I:Isl) (n:Nat) (s:Stp),vs=[s.mv,.ref pf,A.mv]/\W.Good/\SOk W c S/\G1 W S/\StdAt W S M A/\M pf=some (.lst (W.fer.map Fer.mv))/\W.isl[i]?=some I/\I.stps[n]?=some s/\Q (.bl (!canM W S s)) M
theorem Z9k:MonW CM:=by walk_at "m"
theorem Zd7(T:Txt K mg t):FnOk P w K mg base CX0 1 t.f__law_shut t.d__law_shut ["step","ferries","stand"] (liSp K CM):=by
 refine T.q__law_shut.F.okM ZcV (Xs (Φ:=[]) (Xt T) (Xu T) rfl nl0 nl0:Fts P w K mg base 0 Ot []) Fo ZdI (λvs M Q h=>?_) (λvs M Q h=>?_)
 ·obtain⟨_,_,_,_,_,_,_,_,_,rfl,_⟩:=h;rfl
 obtain⟨W,S,A,c,pf,i,I,n,s,rfl,G,hS,cap,hA,hpf,hI,hs,q⟩:=h;show wSs _ _ _ [some s.mv,some (.ref pf),some A.mv,none,none,none,none,none,none] M;have si:=UC G hI hs;have sv:CL I n=s.mv:=by unfold CL;rw[hs]
 delta Fo Os;rw[StA.mv]
 repeat (first|walk_at "s"|simp only[hpf])
 obtain⟨J2,hJ2⟩:∃J2:Nat->Sm->MH->Prop,∀k σ M1,J2 k σ M1↔∃v3 v4 v5 v6 v7 v8,M1=M/\(∀f x,s=.take f x->W.fat f<k->canM W S s=true)/\(∀f T,s=.give f T->W.fat f<k->canM W S s=true)/\σ=[some s.mv,some (.ref pf),some (.tup [.ref A.pn,.ref A.pw,.ref A.pg,.ref A.pt]),v3,v4,v5,v6,v7,v8]:=⟨_,λ_ _ _=>XT⟩;refine⟨J2,(hJ2 0 _ _).mpr ⟨_,_,_,_,_,_,rfl,λ_ _ _ z=>by lia,λ_ _ _ z=>by lia,rfl⟩,λk σ M1 h=>?_,?_,?_⟩
 ·obtain⟨_,_,_,_,_,_,rfl,_⟩:=(hJ2 _ _ _).mp h;exact hpf
 ·rintro k u σ M1 hu h;obtain⟨v3,v4,v5,v6,v7,v8,rfl,iT,iG,rfl⟩:=(hJ2 _ _ _).mp h;obtain⟨hk,rfl⟩:=Y9 (show(W.fer.map Fer.mv)[k]?=some u from hu);obtain⟨F,hF⟩:∃F,W.fer[k]?=some F:=⟨_,X6 hk⟩;have eF:W.fer[k]=F:=Yk ((X6 hk).symm.trans hF);rw[eF];have fm:F.name∈W.fns:=XI.mpr ⟨F,Xk hF,rfl⟩;have fat:=CJ G hF;obtain⟨hT,hG⟩:=Zmd G hS hF;obtain⟨c1,c2⟩:=cap k F hF;obtain⟨b,b1,b2⟩:=hA.gs_at hS fm;have kA:=Uf G hS fm;rw[fat]at b2 kA;have k3:=(G.fo F (Xk hF)).k3;delta Oq;rw[Fer.mv]
  repeat (first|walk_at "s"|simp only[hA.g])
  refine⟨_,Zm G fm b1,?_⟩
  repeat (first|walk_at "s"|simp only[b2,hA.t])
  refine⟨_,kA,?_⟩;walk_at "s";rw[X2];have p2:((2^F.k:Nat):Int)=2^F.k:=by simp
  have nx:(∀x,s=.take F.name x->canM W S s=true)->wSs [] Fn {nx:=J2 (k+1),rt:=λv M=>Q v M,bk:=λσ M=>wSs [] Fm {nx:=λ_ M'=>Q .non M',rt:=Q} σ M,ct:=J2 (k+1)} [some s.mv,some (.ref pf),some (.tup [.ref A.pn,.ref A.pw,.ref A.pg,.ref A.pt]),some (.str F.name),some (.str F.giver),some (.str F.taker),some (.int F.k),some (.int F.st),some (.int (((S.giv.getD k []).length:Nat) - (S.tak.getD k 0:Nat)))] M1:=by
   intro hTk;have fin:(∀T,s=.give F.name T->canM W S s=true)->J2 (k+1) [some s.mv,some (.ref pf),some (.tup [.ref A.pn,.ref A.pw,.ref A.pg,.ref A.pt]),some (.str F.name),some (.str F.giver),some (.str F.taker),some (.int F.k),some (.int F.st),some (.int (((S.giv.getD k []).length:Nat) - (S.tak.getD k 0:Nat)))] M1:=λhGv=>by
    refine(hJ2 _ _ _).mpr ⟨_,_,_,_,_,_,rfl,λf x e z=>?_,λf T e z=>?_,rfl⟩
    ·rcases Gc.mp z with z|z
     ·exact iT f x e z
     ·exact hTk x (by rw[e]at si;rw[e,G0 si.1 fm (z.trans fat.symm)])
    ·rcases Gc.mp z with z|z
     ·exact iG f T e z
     ·exact hGv T (by rw[e]at si;rw[e,G0 si.1 fm (z.trans fat.symm)])
   delta Fn;walk_at "s";rw[<- sv];refine Qu G hI (.inl rfl) (G.fg _ fm) ?_;rw[hs];walk_at "s";rw[sv];have e2:(1:Int)*2^((F.k:Nat):Int).toNat=2^F.k:=by simp
   cases hr:Z4 "give" F.name (some s)with
   |false=>
    rw[if_neg (by simp)]
    exact fin λT e=>by subst e;simp[Z4]at hr
   |true=>
    obtain⟨T,rfl⟩:=ZiK hr;rw[if_pos rfl];refine⟨⟨by lia,by lia⟩,?_⟩
    rw[e2];by_cases hh:(((S.giv.getD k []).length:Nat):Int) - (S.tak.getD k 0:Nat)=2^F.k
    ·rw[if_pos hh];delta On;walk_at "s";have hc:canM W S (.give F.name T)=false:=(hG T).trans (decide_eq_false (by lia))
     rw[hc]at q;exact q
    ·rw[if_neg hh];exact fin λ_ _=>(hG T).trans (decide_eq_true (by lia))
  delta Op;walk_at "s";rw[<- sv];refine Qu G hI (.inr rfl) (G.fg _ fm) ?_;rw[hs];walk_at "s";rw[sv];cases hr:Z4 "take" F.name (some s)with
  |false=>
   rw[if_neg (by simp)]
   exact nx λx e=>by subst e;simp[Z4]at hr
  |true=>
   obtain⟨x,rfl⟩:=ZiJ hr;rw[if_pos rfl];by_cases hh:(((S.giv.getD k []).length:Nat):Int) - (S.tak.getD k 0:Nat)=0
   ·rw[if_pos hh];delta Oo;walk_at "s";have hc:canM W S (.take F.name x)=false:=(hT x).trans (decide_eq_false (by lia))
    rw[hc]at q;exact q
   ·rw[if_neg hh];exact nx λ_ _=>(hT x).trans (decide_eq_true (by lia))
 ·rintro σ M1 h;obtain⟨v3,v4,v5,v6,v7,v8,rfl,iT,iG,rfl⟩:=(hJ2 _ _ _).mp h;have el:(Src.lst pf (W.fer.map Fer.mv)).len=W.fer.length:=X2 _;rw[el]at iT iG;delta Fm;walk_at "s";have hc:canM W S s=true:=by
   cases s with
   |take f x=>exact iT f x rfl (Ye si.1).2
   |give f T=>exact iG f T rfl (Ye si.1).2
   |put x T=>rfl
   |jump T k=>rfl
  rw[hc]at q;exact q
theorem VT{k:Str}{v:MV}:∀{ks:List Str} {vs:List MV},vs.length=ks.length->k∉ks->putM (zipK ks vs) (Xf k) v=zipK (ks++[k]) (vs++[v])
 |[],[],_,_=>rfl
 |[],_::_,h,_=>by cases h
 |_::_,[],h,_=>by cases h
 |a::ks,b::vs,h,n=>by
  show putM ((Xf a,b)::zipK ks vs) _ _=(Xf a,b)::zipK (ks++[k]) (vs++[v]);unfold putM;rw[if_neg λe=>n (by rw[Us e];exact Yh ..),VT (by simpa using h) λz=>n (Yb _ z)]
structure StA.Own (A:StA) (M0:MH):Prop where
 nd:A.own.Nodup
 wn:A.ws.Nodup
 ww:∀a∈A.ws,a∉A.own
 fr:∀a,A.has a->M0 a=none
theorem StA.Own.new{A:StA}{M0:MH}(h:A.Own M0):A.New M0:=⟨h.nd,λa ha=>h.fr a (.inl ha),h.ww⟩
theorem StdAt.put_d{W:Wld}{B:Std}{M M0:MH}{A:StA}(h:StdAt W B M A)(N:A.Own M0){i:Nat}{p:Addr}(hp:A.ws[i]?=some p) (kvs:List (Key×MV)):StdAt W {B with wd:=B.wd.set i kvs} (updM M p (.dic kvs)) A:=by
 have np:=N.ww p (Xk hp);have k:∀{a:Addr} {u:MO},a∈A.own->M a=some u->updM M p (.dic kvs) a=some u:=λha e=>by
  rw[X9 λz=>by subst z;exact np ha];exact e
 refine⟨k (by simp[StA.own]) h.n,k (by simp[StA.own]) h.w,k (by simp[StA.own]) h.g,k (by simp[StA.own]) h.t,h.wl,h.gl,λi' a kv x y=>?_,λi' a kv x y=>k (YV (Xk x)) (h.gv i' a kv x y)⟩
 rcases ZS y with⟨rfl,rfl⟩|⟨ne,y⟩
 ·rw[hp]at x;cases x;exact Xb
 ·rw[X9 λz=>ne ?_]
  ·exact h.wv i' a kv x y
  ·subst z;exact(Zz (Xx.mp x).1 N.wn).mp (x.trans hp.symm)
section
variable{w:Nat}{Is:List Isl}{Fs:List Fer}{B:Std}{M M' M0:MH}{A:StA}{p:Addr}
theorem StdAt.addI(h:StdAt ⟨w,Is,Fs⟩ B M A)(N:A.Own M0){I:Isl}{n:Nat}{kvs:List (Key×MV)}(nl:B.num.length=Is.length)(wl:B.wd.length=Is.length)(ni:I.name∉Is.map (·.name))
  (h1:M' A.pn=some (.dic (putM (zipK (Is.map (·.name)) (B.num.map natM)) (Xf I.name) (natM n)))) (h2:M' A.pw=some (.dic (putM (zipK (Is.map (·.name)) (A.ws.map MV.ref)) (Xf I.name) (.ref p)))) (h3:M' p=some (.dic kvs))
  (h4:∀a o,A.has a->a≠A.pn->a≠A.pw->M a=some o->M' a=some o):StdAt ⟨w,Is++[I],Fs⟩ {B with num:=B.num++[n],wd:=B.wd++[kvs]} M' {A with ws:=A.ws++[p]}:=by
 obtain⟨⟨a1,a2,a3,a4⟩,⟨b1,b2,b3⟩,⟨c1,c2⟩,d1,e⟩:=Zn N.nd;have hl:A.ws.length=Is.length:=h.wl;refine⟨?_,?_,h4 _ _ (.inl (by simp[StA.own])) a2.symm b1.symm h.g,h4 _ _ (.inl (by simp[StA.own])) a3.symm b2.symm h.t,by show(A.ws++[p]).length=(Is++[I]).length;rw[Y5,Y5,hl];rfl,h.gl,λi a kv x y=>?_,λi a kv x y=>?_⟩
 ·rw[h1,VT (by rw[X2,X2,nl]) ni]
  show _=some (MO.dic (zipK ((Is++[I]).map (·.name)) ((B.num++[n]).map natM)));rw[Y4,Y4];rfl
 ·show M' A.pw=some (MO.dic (zipK ((Is++[I]).map (·.name)) ((A.ws++[p]).map MV.ref)));rw[h2,VT (by rw[X2,X2,hl]) ni,Y4,Y4];rfl
 ·rcases UG x with⟨l,x⟩|⟨rfl,rfl⟩<;>rcases UG y with⟨l',y⟩|⟨e',rfl⟩
  ·have o:=N.ww a (Xk x);exact h4 _ _ (.inr (Xk x)) (λz=>o (by rw[z];simp[StA.own])) (λz=>o (by rw[z];simp[StA.own])) (h.wv i a kv x y)
  ·lia
  ·lia
  ·exact h3
 ·have o:=Xk x;exact h4 _ _ (.inl (YV o)) (λz=>a4 (by rw[<- z];exact o)) (λz=>b3 (by rw[<- z];exact o)) (h.gv i a kv x y)
theorem StdAt.addF(h:StdAt ⟨w,Is,Fs⟩ B M A)(N:A.Own M0){F:Fer}{n:Nat}{xs:List Int}(nl:B.tak.length=Fs.length)(wl:B.giv.length=Fs.length)(ni:F.name∉Fs.map (·.name))
  (h1:M' A.pg=some (.dic (putM (zipK (Fs.map (·.name)) (A.gs.map MV.ref)) (Xf F.name) (.ref p)))) (h2:M' A.pt=some (.dic (putM (zipK (Fs.map (·.name)) (B.tak.map natM)) (Xf F.name) (natM n)))) (h3:M' p=some (.lst (xs.map MV.int)))
  (h4:∀a o,A.has a->a≠A.pg->a≠A.pt->M a=some o->M' a=some o):StdAt ⟨w,Is,Fs++[F]⟩ {B with giv:=B.giv++[xs],tak:=B.tak++[n]} M' {A with gs:=A.gs++[p]}:=by
 obtain⟨⟨a1,a2,a3,a4⟩,⟨b1,b2,b3⟩,⟨c1,c2⟩,d1,e⟩:=Zn N.nd;have hl:A.gs.length=Fs.length:=h.gl;refine⟨h4 _ _ (.inl (by simp[StA.own])) a2 a3 h.n,h4 _ _ (.inl (by simp[StA.own])) b1 b2 h.w,?_,?_,h.wl,by show(A.gs++[p]).length=(Fs++[F]).length;rw[Y5,Y5,hl];rfl,λi a kv x y=>?_,λi a kv x y=>?_⟩
 ·show M' A.pg=some (MO.dic (zipK ((Fs++[F]).map (·.name)) ((A.gs++[p]).map MV.ref)));rw[h1,VT (by rw[X2,X2,hl]) ni,Y4,Y4];rfl
 ·show M' A.pt=some (MO.dic (zipK ((Fs++[F]).map (·.name)) ((B.tak++[n]).map natM)));rw[h2,VT (by rw[X2,X2,nl]) ni,Y4,Y4];rfl
 ·have o:=N.ww a (Xk x);exact h4 _ _ (.inr (Xk x)) (λz=>o (by rw[z];simp[StA.own])) (λz=>o (by rw[z];simp[StA.own])) (h.wv i a kv x y)
 ·rcases UG x with⟨l,x⟩|⟨rfl,rfl⟩<;>rcases UG y with⟨l',y⟩|⟨e',rfl⟩
  ·have o:=Xk x;exact h4 _ _ (.inl (YV o)) (λz=>c2 (by rw[<- z];exact o)) (λz=>d1 (by rw[<- z];exact o)) (h.gv i a kv x y)
  ·lia
  ·lia
  ·exact h3
theorem StA.Own.addI(N:A.Own M0)(h0:M0 p=none)(hp:¬A.has p):StA.Own {A with ws:=A.ws++[p]} M0:=by
 refine⟨N.nd,?_,λa ha=>?_,λa ha=>?_⟩
 ·show(A.ws++[p]).Nodup;rw[Zx];exact⟨N.wn,by simp,λa ha b hb e=>by rw[YE]at hb;subst hb;subst e;exact hp (.inr ha)⟩
 ·rcases Ys.mp (show a∈A.ws++[p]from ha)with ha|ha
  ·exact N.ww a ha
  ·rw[YE]at ha;subst ha;exact λz=>hp (.inl z)
 ·rcases ha with ha|ha
  ·exact N.fr a (.inl ha)
  ·rcases Ys.mp (show a∈A.ws++[p]from ha)with ha|ha
   ·exact N.fr a (.inr ha)
   ·rw[YE]at ha;subst ha;exact h0
theorem StA.Own.addF(N:A.Own M0)(h0:M0 p=none)(hp:¬A.has p):StA.Own {A with gs:=A.gs++[p]} M0:=by
 have eo:StA.own {A with gs:=A.gs++[p]}=A.own++[p]:=rfl;refine⟨?_,N.wn,λa ha=>?_,λa ha=>?_⟩
 ·rw[eo,Zx];exact⟨N.nd,by simp,λa ha b hb e=>by rw[YE]at hb;subst hb;subst e;exact hp (.inl ha)⟩
 ·rw[eo,Ys,YE];rintro(z|rfl)
  ·exact N.ww a ha z
  ·exact hp (.inr ha)
 ·rcases ha with ha|ha
  ·rw[eo]at ha;rcases Ys.mp ha with ha|ha
   ·exact N.fr a (.inl ha)
   ·rw[YE]at ha;subst ha;exact h0
  ·exact N.fr a (.inr ha)
end
theorem StdAt.live{W:Wld}{S:Std}{M:MH}{A:StA}(h:StdAt W S M A)(lg:S.giv.length=W.fer.length)(lw:S.wd.length=W.isl.length){a:Addr}(ha:A.has a)(n:M a=none):False:=by
 rcases ha with z|z
 ·unfold StA.own at z;simp only[Xn]at z;rcases z with rfl|rfl|rfl|rfl|z
  ·rw[h.n]at n;cases n
  ·rw[h.w]at n;cases n
  ·rw[h.g]at n;cases n
  ·rw[h.t]at n;cases n
  ·obtain⟨j,hj,rfl⟩:=Y0 z;rw[h.gv j _ _ (X6 hj) (X6 (show j<S.giv.length by rw[lg,<- h.gl];exact hj))]at n;cases n
 ·obtain⟨j,hj,rfl⟩:=Y0 z;rw[h.wv j _ _ (X6 hj) (X6 (show j<S.wd.length by rw[lw,<- h.wl];exact hj))]at n;cases n
noncomputable def Wld.part(W:Wld)(i j:Nat):Wld:=⟨W.w,W.isl.take i,W.fer.take j⟩
noncomputable def Std.part(S:Std)(i j:Nat):Std:=⟨S.num.take i,S.wd.take i,S.giv.take j,S.tak.take j⟩
theorem CN{W:Wld}{S:Std}{c:Nat}(hS:SOk W c S)(i:Nat):(S.num.take i).length=(W.isl.take i).length/\(S.wd.take i).length=(W.isl.take i).length:=by
 rw[XL,XL,XL,hS.nl,hS.wl];exact⟨rfl,rfl⟩
theorem Qv{W:Wld}{S:Std}{c:Nat}(hS:SOk W c S)(i:Nat):(S.giv.take i).length=(W.fer.take i).length/\(S.tak.take i).length=(W.fer.take i).length:=by
 rw[XL,XL,XL,hS.gl,hS.tl];exact⟨rfl,rfl⟩
theorem YG{α:Type}{xs:List α}{i:Nat}{x:α}(h:xs[i]?=some x):xs.take (i+1)=xs.take i++[x]:=by rw[ZZ,h];rfl
theorem StdAt.whole{W:Wld}{S:Std}{M:MH}{A:StA}{c:Nat}(hS:SOk W c S)(h:StdAt (W.part W.isl.length W.fer.length) (S.part W.isl.length W.fer.length) M A):StdAt W S M A:=by
 have e1:W.part W.isl.length W.fer.length=W:=by unfold Wld.part;rw[W7,W7]
 have e2:S.part W.isl.length W.fer.length=S:=by
  unfold Std.part;rw[YQ (by rw[hS.nl];exact Xh _),YQ (by rw[hS.wl];exact Xh _),YQ (by rw[hS.gl];exact Xh _),YQ (by rw[hS.tl];exact Xh _)]
 rw[e1,e2]at h;exact h
theorem Bf{α:Type}{xs:List α}{f:α->Str}(nd:(xs.map f).Nodup){i:Nat}{x:α}(h:xs[i]?=some x):f x∉(xs.take i).map f:=λz=>by
 obtain⟨y,hy,e⟩:=XI.mp z;obtain⟨k,hk,rfl⟩:=Y0 hy;rw[XL]at hk;rw[CY]at e;have hi:=(Xx.mp h).1;have:=(Zz (i:=k) (j:=i) (by rw[X2];lia) nd).mp (by rw[Xg,Xg,h,X6 (by lia)];exact congrArg some e)
 lia
theorem four{M:MH}{a b c d:Addr}(ha:M a=none)(hb:updM M a (.dic []) b=none)(hc:updM (updM M a (.dic [])) b (.dic []) c=none)(hd:updM (updM (updM M a (.dic [])) b (.dic [])) c (.dic []) d=none)(W:Wld)(S:Std):
  ∃M',updM (updM (updM (updM M a (.dic [])) b (.dic [])) c (.dic [])) d (.dic [])=M'/\SameM M M'/\StdAt (W.part 0 0) (S.part 0 0) M' ⟨a,b,c,d,[],[]⟩/\StA.Own ⟨a,b,c,d,[],[]⟩ M:=by
 have s1:=SameM.new ha (.dic []);have e1:updM M a (.dic []) a=some (.dic []):=Xb;generalize updM M a _=M1 at*;have s2:=SameM.new hb (.dic []);have e2:updM M1 b (.dic []) b=some (.dic []):=Xb;generalize updM M1 b _=M2 at*;have s3:=SameM.new hc (.dic []);have e3:updM M2 c (.dic []) c=some (.dic []):=Xb;generalize updM M2 c _=M3 at*;have s4:=SameM.new hd (.dic []);have e4:updM M3 d (.dic []) d=some (.dic []):=Xb;generalize updM M3 d _=M4 at*;refine⟨M4,rfl,((s1.trans s2).trans s3).trans s4,⟨((s2.trans s3).trans s4) _ _ e1,(s3.trans s4) _ _ e2,s4 _ _ e3,e4,rfl,rfl,λi a k x=>by simp at x,λi a k x=>by simp at x⟩,?_,D6,λa h=>(nomatch h),λx hx=>?_⟩
 ·show [a,b,c,d].Nodup;simp only[YF,Xn,Y3,or_false,not_or,not_false_eq_true,D6,and_true];exact⟨⟨neM e1 hb,neM (s2 _ _ e1) hc,neM ((s2.trans s3) _ _ e1) hd⟩,⟨neM e2 hc,neM (s3 _ _ e2) hd⟩,neM e3 hd⟩
 ·rcases hx with hx|hx
  ·have hx:x∈ [a,b,c,d]:=hx;simp only[Xn,Y3,or_false]at hx;rcases hx with rfl|rfl|rfl|rfl
   ·exact ha
   ·exact s1.free hb
   ·exact(s1.trans s2).free hc
   ·exact((s1.trans s2).trans s3).free hd
  ·cases hx
theorem SameM.both{M M':MH}(s:SameM M M')(a:Addr)(o:MO):SameM (updM M a o) (updM M' a o):=λb u e=>by
 by_cases z:b=a
 ·subst z;rw[Xb]at e ⊢;exact e
 ·rw[X9 z]at e ⊢;exact s _ _ e
theorem SameM.thaw{M M':MH}{a:Addr}{o u:MO}(s:SameM (updM M a u) M')(h:M a=some o):SameM M (updM M' a o):=λb v e=>by
 by_cases z:b=a
 ·subst z;rw[Xb];rw[h]at e;exact e
 ·rw[X9 z];exact s _ _ (by rw[X9 z];exact e)
theorem froz{M:MH}{a:Addr}{kvs:List (Key×MV)}(o:Obj)(h:M a=some (.dic kvs)):∃Mf,updM M a (.fdic o kvs)=Mf/\Mf a=some (.fdic o kvs)/\(∀b,b≠a->Mf b=M b)/\∀b,M b=none->Mf b=none:=
 ⟨_,rfl,Xb,λ_ z=>X9 z,λb z=>by rw[X9 λe=>by rw[e,h]at z;cases z];exact z⟩
theorem G3{W:Wld}{vs:List MV}(l:vs.length=W.isl.length){j:Nat}{u:MV}(hu:((zipK W.ins vs).map λp=>kM p.1)[j]?=some u):∃I,W.isl[j]?=some I/\u=.str I.name:=by
 rw[B3 (by rw[l];unfold Wld.ins;rw[X2])]at hu
 unfold Wld.ins at hu;rw[Xg,Xg]at hu;cases e:W.isl[j]? with
 |none=>rw[e]at hu;cases hu
 |some I=>rw[e]at hu;cases hu;exact⟨I,rfl,rfl⟩
theorem G4{W:Wld}{vs:List MV}(l:vs.length=W.fer.length){j:Nat}{u:MV}(hu:((zipK W.fns vs).map λp=>kM p.1)[j]?=some u):∃F,W.fer[j]?=some F/\u=.str F.name:=by
 rw[B3 (by rw[l];unfold Wld.fns;rw[X2])]at hu
 unfold Wld.fns at hu;rw[Xg,Xg]at hu;cases e:W.fer[j]? with
 |none=>rw[e]at hu;cases hu
 |some I=>rw[e]at hu;cases hu;exact⟨I,rfl,rfl⟩
noncomputable abbrev Bg:SpM:=λvs M Q=>∃(W:Wld) (pi pf:Addr) (ys:List MV),vs=[.ref pi,.ref pf]/\W.Good/\M pi=some (.lst ys)/\IslsIn M W.isl ys/\M pf=some (.lst (W.fer.map Fer.mv))/\∀M' A,SameM M M'->StdAt W (Xo W) M' A->(∀a∈A.ws,a≠A.pn)->Q A.mv M'
theorem Qw:MonW Bg:=by walk_at "m"
noncomputable def wdK(I:Isl)(k:Nat):List (Key×MV):=zipK (I.vars.take k) ((I.prs.map λp=>MV.int p.2).take k)
theorem Zcd(T:Txt K mg t):FnOk P w K mg base CX0 1 t.f__law_first t.d__law_first ["islands","ferries"] (liSp K Bg):=by
 refine T.q__law_first.F.okM Zc5 (Xs (Φ:=[]) (Xt T) (Xu T) rfl nl0 nl0:Fts P w K mg base 0 Oc []) Fk ZcC (λvs M Q h=>?_) (λvs M Q h=>?_)
 ·obtain⟨_,_,_,_,rfl,_⟩:=h;rfl
 obtain⟨W,pi,pf,ys,rfl,G,hpi,hIs,hpf,q⟩:=h;show wSs _ _ _ [some (.ref pi),some (.ref pf),none,none,none,none,none,none,none] M;have hok:=FS G;have i5:=G.i5;have f6:=G.f6;have indn:(W.isl.map (·.name)).Nodup:=G.in_nd;have fndn:(W.fer.map (·.name)).Nodup:=G.fn_nd;delta Fk Ob;walk_at "s";intro pn hpn pw hpw pg hpg pt hpt;obtain⟨M4,e4,s4,h4,N4⟩:=four hpn hpw hpg hpt W (Xo W);rw[e4];delta Oa;clear hpn hpw hpg hpt e4
 repeat (first|walk_at "s"|simp only[s4 _ _ hpi])
 obtain⟨J,hJ⟩:∃J:Nat->Sm->MH->Prop,∀j σ M',J j σ M'↔∃ws v3 v4 v5 v6 v7,SameM M M'/\StdAt (W.part j 0) ((Xo W).part j 0) M' ⟨pn,pw,pg,pt,ws,[]⟩/\StA.Own ⟨pn,pw,pg,pt,ws,[]⟩ M/\σ=[some (.ref pi),some (.ref pf),some (.tup [.ref pn,.ref pw,.ref pg,.ref pt]),v3,v4,v5,v6,v7,none]:=⟨_,λ_ _ _=>XT⟩;refine⟨J,(hJ 0 _ _).mpr ⟨[],_,_,_,_,_,s4,h4,N4,rfl⟩,λj σ M' h=>?_,?_,?_⟩
 ·obtain⟨_,_,_,_,_,_,s,_⟩:=(hJ _ _ _).mp h;exact s _ _ hpi
 ·rintro j u σ M' hu h;obtain⟨ws,v3,v4,v5,v6,v7,s,hA,N,rfl⟩:=(hJ _ _ _).mp h;have hu:ys[j]?=some u:=hu;have hj:j<W.isl.length:=by rw[<- hIs.1];exact(Xx.mp hu).1
  obtain⟨I,hI⟩:∃I,W.isl[j]?=some I:=⟨_,X6 hj⟩;obtain⟨ia,ib,rfl,ha,hb⟩:=hIs.2 j _ _ hI hu;have ok:=G.io I (Xk hI);obtain⟨tl,tw⟩:=CN hok j;have jl:(W.isl.take j).length=j:=by rw[XL];lia
  obtain⟨⟨a1,a2,a3,a4⟩,⟨b1,b2,b3⟩,⟨c1,c2⟩,d1,e⟩:=Zn N.nd;delta O9
  repeat (first|walk_at "s"|simp only[hA.n])
  have zl:(zipK (W.part j 0).ins (((Xo W).part j 0).num.map natM)).length=j:=by
   rw[Yl]
   ·unfold Wld.ins;rw[X2];exact jl
   ·unfold Wld.ins;rw[X2,X2];exact tl
  have zw:(zipK (W.part j 0).ins (ws.map MV.ref)).length=j:=by
   rw[Yl]
   ·unfold Wld.ins;rw[X2];exact jl
   ·unfold Wld.ins;rw[X2,X2];exact hA.wl
  refine⟨by rw[zl];lia,?_⟩
  delta O8;walk_at "s";intro p hp;have hpM:=s.free (B0 hp);have hp':=B0 hp;have p0:¬StA.has ⟨pn,pw,pg,pt,ws,[]⟩ p:=λz=>hA.live rfl tw z hp';have np:p≠pn:=λz=>p0 (.inl (by simp[StA.own,z]))
  have nw:p≠pw:=λz=>p0 (.inl (by simp[StA.own,z]))
  have eW:updM (updM M' pn (.dic (putM (zipK (W.part j 0).ins (((Xo W).part j 0).num.map natM)) (Xf I.name) (.int 0)))) p (.dic []) pw=some (.dic (zipK (W.part j 0).ins (ws.map MV.ref))):=by
   rw[X9 nw.symm,X9 a1.symm];exact hA.w
  repeat (first|walk_at "s"|simp only[eW])
  refine⟨by rw[zw];lia,?_⟩
  have sN:=((s.upd (N.fr pn (.inl (by simp[StA.own]))) (.dic (putM (zipK (W.part j 0).ins (((Xo W).part j 0).num.map natM)) (Xf I.name) (.int 0)))).upd hpM (.dic [])).upd (N.fr pw (.inl (by simp[StA.own]))) (.dic (putM (zipK (W.part j 0).ins (ws.map MV.ref)) (Xf I.name) (.ref p)))
  have hB:=hA.addI N (I:=I) (n:=0) (p:=p) (kvs:=wdK I 0) (M':=updM (updM (updM M' pn (.dic (putM (zipK (W.part j 0).ins (((Xo W).part j 0).num.map natM)) (Xf I.name) (.int 0)))) p (.dic [])) pw (.dic (putM (zipK (W.part j 0).ins (ws.map MV.ref)) (Xf I.name) (.ref p)))) tl tw (Bf indn hI)
   (by rw[X9 a1,X9 np.symm,Xb];rfl) (by rw[Xb];rfl) (by rw[X9 nw,Xb];rfl) (λa o ha n1 n2 e=>by rw[X9 n2,X9 (λz=>p0 (by rw[<- z];exact ha)),X9 n1];exact e)
  have N':=N.addI hpM p0;have hpw:=hB.wv j p;generalize updM (updM (updM M' pn _) p _) pw _=M5 at*;delta O7
  repeat (first|walk_at "s"|simp only[sN _ _ ha])
  obtain⟨J2,hJ2⟩:∃J2:Nat->Sm->MH->Prop,∀k σ M',J2 k σ M'↔∃v6 v7,SameM M M'/\StdAt ⟨W.w,W.isl.take j++[I],W.fer.take 0⟩ ⟨(Xo W).num.take j++[0],(Xo W).wd.take j++[wdK I k],(Xo W).giv.take 0,(Xo W).tak.take 0⟩ M' ⟨pn,pw,pg,pt,ws++[p],[]⟩/\σ=[some (.ref pi),some (.ref pf),some (.tup [.ref pn,.ref pw,.ref pg,.ref pt]),some (.str I.name),some (.ref ia),some (.ref ib),v6,v7,none]:=⟨_,λ_ _ _=>XT⟩;refine⟨J2,(hJ2 0 _ _).mpr ⟨_,_,sN,hB,rfl⟩,λk σ M' h=>?_,?_,?_⟩
  ·obtain⟨_,_,s,_⟩:=(hJ2 _ _ _).mp h;exact s _ _ ha
  ·rintro k u σ M6 hu h;obtain⟨v6,v7,s6,hC,rfl⟩:=(hJ2 _ _ _).mp h;obtain⟨hk,rfl⟩:=Y9 (show(I.prs.map prV)[k]?=some u from hu);have wl:ws.length=j:=by have:=hA.wl;rw[<- jl];exact this
   have ep:(ws++[p])[j]?=some p:=by rw[<- wl];simp
   have ek:((Xo W).wd.take j++[wdK I k])[j]?=some (wdK I k):=by
    have:((Xo W).wd.take j).length=j:=by rw[tw,jl]
    conv=>lhs;rw[<- this]
    simp
   have hd:=hC.wv j p _ ep ek;have vl:(I.prs.map λp=>MV.int p.2).length=I.vars.length:=by unfold Isl.vars;rw[X2,X2]
   delta O6;simp only[prV]
   repeat (first|walk_at "s"|simp only[hC.w])
   refine⟨.ref p,Zl (i:=j) ?_ ?_ ?_,?_⟩
   ·show((W.isl.take j++[I]).map (·.name)).Nodup;rw[<- YG hI,W8];exact indn.sublist (Bt ..)
   ·show((W.isl.take j++[I]).map (·.name))[j]?=some I.name;rw[<- YG hI,W8,W3 (Dd _),Xg,hI];rfl
   ·rw[Xg,ep];rfl
   have ez:putM (wdK I k) (Xf (I.prs[k]).1) (.int (I.prs[k]).2)=wdK I (k+1):=by
    unfold wdK;have e1:I.vars[k]?=some (I.prs[k]).1:=by unfold Isl.vars;rw[Xg,X6 hk];rfl
    rw[VT (by rw[XL,XL,vl]) (by
     have:=Bf (f:=(·.1)) (show(I.prs.map (·.1)).Nodup from ok.nd) (X6 hk);unfold Isl.vars;rw[<- W8];exact this),YG e1,YG (x:=MV.int (I.prs[k]).2) (by rw[Xg,X6 hk];rfl)]
   repeat (first|walk_at "s"|simp only[hd])
   rw[ez];have zk:(wdK I k).length≤6:=by
    unfold wdK;rw[Yl (by rw[XL,XL,vl]),XL]
    have:=ok.nv;unfold Isl.vars;rw[X2];lia
   refine⟨by lia,(hJ2 _ _ _).mpr ⟨_,_,s6.upd hpM _,?_,rfl⟩⟩
   have:=hC.put_d N' ep (wdK I (k+1));have es:((Xo W).wd.take j++[wdK I k]).set j (wdK I (k+1))=(Xo W).wd.take j++[wdK I (k+1)]:=by
    have l:((Xo W).wd.take j).length=j:=by rw[tw,jl]
    rw[List.set_append_right _ _ (by lia),l,Nat.sub_self];rfl
   rw[es]at this;exact this
  ·rintro σ M6 h;obtain⟨v6,v7,s6,hC,rfl⟩:=(hJ2 _ _ _).mp h;have el:(Src.lst ia (I.prs.map prV)).len=I.prs.length:=X2 _;rw[el]at hC;have ew:wdK I I.prs.length=wd0 I:=by
    unfold wdK wd0;rw[YQ (by unfold Isl.vars;rw[X2];exact Xh _),YQ (by rw[X2];exact Xh _)]
   rw[ew]at hC;refine(hJ _ _ _).mpr ⟨ws++[p],_,_,_,_,_,s6,?_,N',rfl⟩;unfold Wld.part Std.part;rw[YG hI,YG (show(Xo W).num[j]?=some 0 by show(W.isl.map _)[j]?=_;rw[Xg,hI];rfl),YG (show(Xo W).wd[j]?=some (wd0 I) by show(W.isl.map _)[j]?=_;rw[Xg,hI];rfl)]
   exact hC
 ·rintro σ M' h;obtain⟨ws,v3,v4,v5,v6,v7,s,hA,N,rfl⟩:=(hJ _ _ _).mp h;have el:(Src.lst pi ys).len=W.isl.length:=hIs.1;rw[el]at hA;delta O5
  repeat (first|walk_at "s"|simp only[s _ _ hpf])
  obtain⟨J2,hJ2⟩:∃J2:Nat->Sm->MH->Prop,∀k σ M',J2 k σ M'↔∃gs v8,SameM M M'/\StdAt (W.part W.isl.length k) ((Xo W).part W.isl.length k) M' ⟨pn,pw,pg,pt,ws,gs⟩/\StA.Own ⟨pn,pw,pg,pt,ws,gs⟩ M/\σ=[some (.ref pi),some (.ref pf),some (.tup [.ref pn,.ref pw,.ref pg,.ref pt]),v3,v4,v5,v6,v7,v8]:=⟨_,λ_ _ _=>XT⟩;refine⟨J2,(hJ2 0 _ _).mpr ⟨[],_,s,hA,N,rfl⟩,λk σ M' h=>?_,?_,?_⟩
  ·obtain⟨_,_,s,_⟩:=(hJ2 _ _ _).mp h;exact s _ _ hpf
  ·rintro j u σ M' hu h;obtain⟨gs,v8,s,hA,N,rfl⟩:=(hJ2 _ _ _).mp h;obtain⟨hj,rfl⟩:=Y9 (show(W.fer.map Fer.mv)[j]?=some u from hu);obtain⟨F,hF⟩:∃F,W.fer[j]?=some F:=⟨_,X6 hj⟩;have eF:W.fer[j]=F:=Yk ((X6 hj).symm.trans hF);rw[eF];obtain⟨tg,tt⟩:=Qv hok j;obtain⟨tl,tw⟩:=CN hok W.isl.length;have jl:(W.fer.take j).length=j:=by rw[XL];lia
   obtain⟨⟨a1,a2,a3,a4⟩,⟨b1,b2,b3⟩,⟨c1,c2⟩,d1,e⟩:=Zn N.nd;have zl:(zipK (W.part W.isl.length j).fns (((Xo W).part W.isl.length j).tak.map natM)).length=j:=by
    rw[Yl]
    ·unfold Wld.fns;rw[X2];exact jl
    ·unfold Wld.fns;rw[X2,X2];exact tt
   have zw:(zipK (W.part W.isl.length j).fns (gs.map MV.ref)).length=j:=by
    rw[Yl]
    ·unfold Wld.fns;rw[X2];exact jl
    ·unfold Wld.fns;rw[X2,X2];exact hA.gl
   delta O4
   repeat (first|walk_at "s"|simp only[Fer.mv])
   intro p hp;have hpM:=s.free hp;have p0:¬StA.has ⟨pn,pw,pg,pt,ws,gs⟩ p:=λz=>hA.live tg tw z hp;have ng:p≠pg:=λz=>p0 (.inl (by simp[StA.own,z]))
   have nt:p≠pt:=λz=>p0 (.inl (by simp[StA.own,z]))
   have eG:updM M' p (.lst []) pg=some (.dic (zipK (W.part W.isl.length j).fns (gs.map MV.ref))):=by rw[X9 ng.symm];exact hA.g
   repeat (first|walk_at "s"|simp only[eG])
   refine⟨by rw[zw];lia,?_⟩
   delta O3;have eT:updM (updM M' p (.lst [])) pg (.dic (putM (zipK (W.part W.isl.length j).fns (gs.map MV.ref)) (Xf F.name) (.ref p))) pt=some (.dic (zipK (W.part W.isl.length j).fns (((Xo W).part W.isl.length j).tak.map natM))):=by
    rw[X9 c1.symm,X9 nt.symm];exact hA.t
   repeat (first|walk_at "s"|simp only[eT])
   refine⟨by rw[zl];lia,?_⟩
   have sN:=((s.upd hpM (.lst [])).upd (N.fr pg (.inl (by simp[StA.own]))) (.dic (putM (zipK (W.part W.isl.length j).fns (gs.map MV.ref)) (Xf F.name) (.ref p)))).upd (N.fr pt (.inl (by simp[StA.own]))) (.dic (putM (zipK (W.part W.isl.length j).fns (((Xo W).part W.isl.length j).tak.map natM)) (Xf F.name) (.int 0)))
   refine(hJ2 _ _ _).mpr ⟨gs++[p],_,sN,?_,N.addF hpM p0,rfl⟩;unfold Wld.part Std.part;rw[YG hF,YG (show(Xo W).giv[j]?=some [] by show(W.fer.map _)[j]?=_;rw[Xg,hF];rfl),YG (show(Xo W).tak[j]?=some 0 by show(W.fer.map _)[j]?=_;rw[Xg,hF];rfl)]
   exact hA.addF N (F:=F) (n:=0) (p:=p) (xs:=[]) tt tg (Bf fndn hF)
    (by rw[X9 c1,Xb];rfl) (by rw[Xb];rfl) (by rw[X9 nt,X9 ng,Xb];rfl) (λa o ha n1 n2 e=>by rw[X9 n2,X9 n1,X9 (λz=>p0 (by rw[<- z];exact ha))];exact e)
  ·rintro σ M' h;obtain⟨gs,v8,s,hA,N,rfl⟩:=(hJ2 _ _ _).mp h;have el:(Src.lst pf (W.fer.map Fer.mv)).len=W.fer.length:=X2 _;rw[el]at hA;delta O2;walk_at "s";exact q _ ⟨pn,pw,pg,pt,ws,gs⟩ s (hA.whole hok) λa ha e=>N.ww a ha (by rw[e];simp[StA.own])
noncomputable abbrev V9:SpM:=λvs M Q=>∃(W:Wld) (S:Std) (A:StA) (c:Nat),vs=[A.mv]/\W.Good/\SOk W c S/\StdAt W S M A/\(∀a∈A.ws,a≠A.pn)/\∀M' A',SameM M M'->StdAt W S M' A'->A'.Own M->Q A'.mv M'
theorem G5:MonW V9:=by walk_at "m"
theorem Qx(T:Txt K mg t):FnOk P w K mg base CX0 1 t.f__law_copy t.d__law_copy ["stand"] (liSp K V9):=by
 refine T.q__law_copy.F.okM ZcX (Xs (Φ:=[]) (Xt T) (Xu T) rfl nl0 nl0:Fts P w K mg base 0 Om []) Fl ZdK (λvs M Q h=>?_) (λvs M Q h=>?_)
 ·obtain⟨_,_,_,_,rfl,_⟩:=h;rfl
 obtain⟨W,S,A,c,rfl,G,hok,hS,nA,q⟩:=h;show wSs _ _ _ [some A.mv,none,none] M;have i5:=G.i5;have f6:=G.f6;have li:W.ins.length=W.isl.length:=by unfold Wld.ins;rw[X2]
 have lf:W.fns.length=W.fer.length:=by unfold Wld.fns;rw[X2]
 have indn:(W.isl.map (·.name)).Nodup:=G.in_nd;have fndn:(W.fer.map (·.name)).Nodup:=G.fn_nd;delta Fl Ol;rw[StA.mv];walk_at "s";intro pn hpn pw hpw pg hpg pt hpt;obtain⟨M4,e4,s4,h4,N4⟩:=four hpn hpw hpg hpt W S;rw[e4];delta Oj;clear hpn hpw hpg hpt e4
 repeat (first|walk_at "s"|simp only[s4 _ _ hS.n])
 intro o;obtain⟨Mf,hMf,fz,nf,ff⟩:=froz o hS.n;have s5:=s4.both A.pn (.fdic o (zipK W.ins (S.num.map natM)));rw[hMf]at s5;obtain⟨J,hJ⟩:∃J:Nat->Sm->MH->Prop,∀j σ M',J j σ M'↔∃ws v2,SameM Mf M'/\StdAt (W.part j 0) (S.part j 0) M' ⟨pn,pw,pg,pt,ws,[]⟩/\StA.Own ⟨pn,pw,pg,pt,ws,[]⟩ M/\σ=[some (.tup [.ref A.pn,.ref A.pw,.ref A.pg,.ref A.pt]),some (.tup [.ref pn,.ref pw,.ref pg,.ref pt]),v2]:=⟨_,λ_ _ _=>XT⟩;have off:∀{A':StA} {a:Addr} {u:MO},A'.Own M->M a=some u->a∉A'.own/\a∉A'.ws:=λN e=>⟨λz=>neM e (N.fr _ (.inl z)) rfl,λz=>neM e (N.fr _ (.inr z)) rfl⟩;refine⟨J,(hJ 0 _ _).mpr ⟨[],_,s5,h4.offd (off N4 hS.n).1 (off N4 hS.n).2 _,N4,rfl⟩,λj σ M' h=>?_,?_,?_⟩
 ·obtain⟨_,_,s,_⟩:=(hJ _ _ _).mp h;exact s _ _ fz
 ·rintro j u σ M' hu h;obtain⟨ws,v2,s,hA,N,rfl⟩:=(hJ _ _ _).mp h;obtain⟨I,hI,rfl⟩:=G3 (by rw[X2];exact hok.nl) hu
  have hj:=(Xx.mp hI).1;obtain⟨tl,tw⟩:=CN hok j;have jl:(W.isl.take j).length=j:=by rw[XL];lia
  obtain⟨⟨a1,a2,a3,a4⟩,⟨b1,b2,b3⟩,⟨c1,c2⟩,d1,e⟩:=Zn N.nd;obtain⟨wa,wa1,wa2⟩:=hS.ws_at hok hI;have npw:A.pw≠A.pn:=λz=>by
   have h1:=hS.w;rw[z,hS.n]at h1;have h2:=V7 G hok hI;injection h1 with h1;injection h1 with h1;rw[h1,Zf G hI wa1]at h2;cases h2
  have mw:=s _ _ ((nf _ npw).trans hS.w);have ma:=s _ _ ((nf _ (nA wa (Xk wa1))).trans wa2);have mn:=s _ _ fz;delta Oi
  repeat (first|walk_at "s"|simp only[mn])
  refine⟨_,V7 G hok hI,?_⟩
  repeat (first|walk_at "s"|simp only[hA.n])
  have zl:(zipK (W.part j 0).ins ((S.part j 0).num.map natM)).length=j:=by
   rw[Yl]
   ·unfold Wld.ins;rw[X2];exact jl
   ·unfold Wld.ins;rw[X2,X2];exact tl
  have zw:(zipK (W.part j 0).ins (ws.map MV.ref)).length=j:=by
   rw[Yl]
   ·unfold Wld.ins;rw[X2];exact jl
   ·unfold Wld.ins;rw[X2,X2];exact hA.wl
  refine⟨by rw[zl];lia,?_⟩
  have f1:=ff pn (N.fr pn (.inl (by simp[StA.own])))
  have f2:=ff pw (N.fr pw (.inl (by simp[StA.own])))
  delta Oh;have s6:=s.upd f1 (.dic (putM (zipK (W.part j 0).ins ((S.part j 0).num.map natM)) (Xf I.name) (.int (S.num.getD j 0:Nat))));have up:∀a o,M' a=some o->a≠pn->updM M' pn (.dic (putM (zipK (W.part j 0).ins ((S.part j 0).num.map natM)) (Xf I.name) (.int (S.num.getD j 0:Nat)))) a=some o:=λa o h n=>by rw[X9 n];exact h
  repeat (first|walk_at "s"|simp only[up _ _ mw (neM ((nf _ npw).trans hS.w) f1)])
  refine⟨_,Zf G hI wa1,?_⟩
  repeat (first|walk_at "s"|simp only[up _ _ ma (neM ((nf _ (nA wa (Xk wa1))).trans wa2) f1)])
  intro p hp;have hp':=B0 hp;have hpf:=s.free hp';have hpM:M p=none:=by
   by_cases z:p=A.pn
   ·rw[z,fz]at hpf;cases hpf
   ·rwa [nf p z]at hpf
  have p0:¬StA.has ⟨pn,pw,pg,pt,ws,[]⟩ p:=λz=>hA.live rfl tw z hp';have np:p≠pn:=λz=>p0 (.inl (by simp[StA.own,z]))
  have nw:p≠pw:=λz=>p0 (.inl (by simp[StA.own,z]))
  have eW:updM (updM M' pn (.dic (putM (zipK (W.part j 0).ins ((S.part j 0).num.map natM)) (Xf I.name) (.int (S.num.getD j 0:Nat))))) p (.dic (S.wd.getD j [])) pw=some (.dic (zipK (W.part j 0).ins (ws.map MV.ref))):=by
   rw[X9 nw.symm,X9 a1.symm];exact hA.w
  repeat (first|walk_at "s"|simp only[eW])
  refine⟨by rw[zw];lia,(hJ _ _ _).mpr ⟨ws++[p],_,(s6.upd hpf _).upd f2 _,?_,N.addI hpM p0,rfl⟩⟩
  unfold Wld.part Std.part;rw[YG hI,YG (FM hok hI),YG (Z3 hok hI)];exact hA.addI N (I:=I) (n:=S.num.getD j 0) (p:=p) (kvs:=S.wd.getD j []) tl tw (Bf indn hI)
   (by rw[X9 a1,X9 np.symm,Xb];rfl) (by rw[Xb];rfl) (by rw[X9 nw,Xb]) (λa o ha n1 n2 e=>by rw[X9 n2,X9 (λz=>p0 (by rw[<- z];exact ha)),X9 n1];exact e)
 ·rintro σ M' h;obtain⟨ws,v2,s,hA,N,rfl⟩:=(hJ _ _ _).mp h;have el:(Src.dic A.pn o (zipK W.ins (S.num.map natM))).len=W.isl.length:=by
   show(zipK W.ins (S.num.map natM)).length=_;rw[Yl (by rw[X2,hok.nl,li]),li]
  rw[el]at hA;rw[<- hMf]at s;have s:=s.thaw hS.n;have hA:=hA.offd (off N hS.n).1 (off N hS.n).2 (.dic (zipK W.ins (S.num.map natM)));clear h hJ J fz nf ff s5 hMf Mf;generalize updM M' A.pn _=M5 at*;delta Og
  repeat (first|walk_at "s"|simp only[s _ _ hS.g])
  intro o;obtain⟨Mf,hMf,fz,nf,ff⟩:=froz o hS.g;have s5:=s.both A.pg (.fdic o (zipK W.fns (A.gs.map MV.ref)));rw[hMf]at s5;obtain⟨J,hJ⟩:∃J:Nat->Sm->MH->Prop,∀j σ M',J j σ M'↔∃gs v2,SameM Mf M'/\StdAt (W.part W.isl.length j) (S.part W.isl.length j) M' ⟨pn,pw,pg,pt,ws,gs⟩/\StA.Own ⟨pn,pw,pg,pt,ws,gs⟩ M/\σ=[some (.tup [.ref A.pn,.ref A.pw,.ref A.pg,.ref A.pt]),some (.tup [.ref pn,.ref pw,.ref pg,.ref pt]),v2]:=⟨_,λ_ _ _=>XT⟩;refine⟨J,(hJ 0 _ _).mpr ⟨[],_,s5,hA.offd (off N hS.g).1 (off N hS.g).2 _,N,rfl⟩,λj σ M' h=>?_,?_,?_⟩
  ·obtain⟨_,_,s,_⟩:=(hJ _ _ _).mp h;exact s _ _ fz
  ·rintro j u σ M' hu h;obtain⟨gs,v2,s,hA,N,rfl⟩:=(hJ _ _ _).mp h;obtain⟨F,hF,rfl⟩:=G4 (by rw[X2];exact hS.gl) hu
   have hj:=(Xx.mp hF).1;have fm:F.name∈W.fns:=XI.mpr ⟨F,Xk hF,rfl⟩;have fat:=CJ G hF;obtain⟨tg,tt⟩:=Qv hok j;obtain⟨tl,tw⟩:=CN hok W.isl.length;have jl:(W.fer.take j).length=j:=by rw[XL];lia
   obtain⟨⟨a1,a2,a3,a4⟩,⟨b1,b2,b3⟩,⟨c1,c2⟩,d1,e⟩:=Zn N.nd;obtain⟨wa,wa1,wa2⟩:=hS.gs_at hok fm;have npw:A.pt≠A.pg:=λz=>by
    have h1:=hS.t;rw[z,hS.g]at h1;have h2:=Uf G hok fm;injection h1 with h1;injection h1 with h1;rw[<- h1,Zm G fm wa1]at h2;cases h2
   have nwa:wa≠A.pg:=λz=>by rw[z,hS.g]at wa2;cases wa2
   have mt:=s _ _ ((nf _ npw).trans hS.t);have ma:=s _ _ ((nf _ nwa).trans wa2);have mg:=s _ _ fz;have f1:=ff pg (N.fr pg (.inl (by simp[StA.own])))
   have f2:=ff pt (N.fr pt (.inl (by simp[StA.own])))
   have zl:(zipK (W.part W.isl.length j).fns ((S.part W.isl.length j).tak.map natM)).length=j:=by
    rw[Yl]
    ·unfold Wld.fns;rw[X2];exact jl
    ·unfold Wld.fns;rw[X2,X2];exact tt
   have zw:(zipK (W.part W.isl.length j).fns (gs.map MV.ref)).length=j:=by
    rw[Yl]
    ·unfold Wld.fns;rw[X2];exact jl
    ·unfold Wld.fns;rw[X2,X2];exact hA.gl
   delta Of
   repeat (first|walk_at "s"|simp only[mg])
   refine⟨_,Zm G fm wa1,?_⟩
   repeat (first|walk_at "s"|simp only[ma])
   intro p hp;have hpf:=s.free hp;have hpM:M p=none:=by
    by_cases z:p=A.pg
    ·rw[z,fz]at hpf;cases hpf
    ·rwa [nf p z]at hpf
   have p0:¬StA.has ⟨pn,pw,pg,pt,ws,gs⟩ p:=λz=>hA.live tg tw z hp;have ng:p≠pg:=λz=>p0 (.inl (by simp[StA.own,z]))
   have nt:p≠pt:=λz=>p0 (.inl (by simp[StA.own,z]))
   rw[fat];have eG:updM M' p (.lst ((S.giv.getD j []).map MV.int)) pg=some (.dic (zipK (W.part W.isl.length j).fns (gs.map MV.ref))):=by rw[X9 ng.symm];exact hA.g
   repeat (first|walk_at "s"|simp only[eG])
   refine⟨by rw[zw];lia,?_⟩
   delta Oe;have eA:updM (updM M' p (.lst ((S.giv.getD j []).map MV.int))) pg (.dic (putM (zipK (W.part W.isl.length j).fns (gs.map MV.ref)) (Xf F.name) (.ref p))) A.pt=some (.dic (zipK W.fns (S.tak.map natM))):=by
    rw[X9 (neM ((nf _ npw).trans hS.t) f1),X9 (neM mt hp)];exact mt
   repeat (first|walk_at "s"|simp only[eA])
   refine⟨_,Uf G hok fm,?_⟩;have eT:updM (updM M' p (.lst ((S.giv.getD j []).map MV.int))) pg (.dic (putM (zipK (W.part W.isl.length j).fns (gs.map MV.ref)) (Xf F.name) (.ref p))) pt=some (.dic (zipK (W.part W.isl.length j).fns ((S.part W.isl.length j).tak.map natM))):=by
    rw[X9 c1.symm,X9 nt.symm];exact hA.t
   repeat (first|walk_at "s"|simp only[eT])
   rw[fat];refine⟨by rw[zl];lia,(hJ _ _ _).mpr ⟨gs++[p],_,((s.upd hpf _).upd f1 _).upd f2 _,?_,N.addF hpM p0,rfl⟩⟩
   unfold Wld.part Std.part;rw[YG hF,YG (ZT hok hj),YG (FN hok hj)];exact hA.addF N (F:=F) (n:=S.tak.getD j 0) (p:=p) (xs:=S.giv.getD j []) tt tg (Bf fndn hF)
    (by rw[X9 c1,Xb];rfl) (by rw[Xb];rfl) (by rw[X9 nt,X9 ng,Xb]) (λa o ha n1 n2 e=>by rw[X9 n2,X9 n1,X9 (λz=>p0 (by rw[<- z];exact ha))];exact e)
  ·rintro σ M' h;obtain⟨gs,v2,s,hA,N,rfl⟩:=(hJ _ _ _).mp h;have el:(Src.dic A.pg o (zipK W.fns (A.gs.map MV.ref))).len=W.fer.length:=by
    show(zipK W.fns (A.gs.map MV.ref)).length=_;rw[Yl (by rw[X2,hS.gl,lf]),lf]
   rw[el]at hA;rw[<- hMf]at s;have s:=s.thaw hS.g;have hA:=hA.offd (off N hS.g).1 (off N hS.g).2 (.dic (zipK W.fns (A.gs.map MV.ref)));delta Od;walk_at "s";exact q _ ⟨pn,pw,pg,pt,ws,gs⟩ s (hA.whole hok) N
noncomputable abbrev Bh:SpM:=λvs M Q=>∃(W:Wld) (S:Std) (A:StA) (c:Nat) (pi pf:Addr) (ys:List MV),vs=[.int W.w,.ref pi,.ref pf,A.mv]/\W.Good/\SOk W c S/\c≤900/\G1 W S/\StdAt W S M A/\(∀a∈A.ws,a≠A.pn)/\M pi=some (.lst ys)/\IslsIn M W.isl ys/\M pf=some (.lst (W.fer.map Fer.mv))/\
 ∀M' A' p,SameM M M'->StdAt W (Cy W S) M' A'->(∀a∈A'.ws,a≠A'.pn)->M' p=some (.lst ((PY W S).map MV.str))->Q (.tup [A'.mv,.ref p]) M'
theorem Qy:MonW Bh:=by walk_at "m"
theorem Zcb(T:Txt K mg t):FnOk P w K mg base CX0 50 t.f__law_round t.d__law_round ["width","islands","ferries","stand"] (liSp K Bh):=by
 refine T.q__law_round.F.okM Zc3 (Xs (Φ:=[("_law_copy",V9),("_law_shut",CM),("worth",(YU 40))]) (Xt T) (Xu T) rfl (fMc ⟨G5,(fMc ⟨Z9k,(fMc ⟨(AN _),nl0⟩)⟩)⟩) (fMc ⟨⟨_,_,_,FnOk.mono (Qx T) (by decide),T.q__law_copy.m,T.q__law_copy.F.kp,T.q__law_copy.b⟩,(fMc ⟨⟨_,_,_,FnOk.mono (Zd7 T) (by decide),T.q__law_shut.m,T.q__law_shut.F.kp,T.q__law_shut.b⟩,(fMc ⟨⟨_,_,_,FnOk.mono (AO T 40) (by decide),T.q_worth.m,T.q_worth.F.kp,T.q_worth.b⟩,nl0⟩)⟩)⟩):Fts P w K mg base 49 OL [("_law_copy",V9),("_law_shut",CM),("worth",(YU 40))]) Fp ZcA (fun vs M Q h=>?_) (fun vs M Q h=>?_)
 ·obtain⟨_,_,_,_,_,_,_,rfl,_⟩:=h;rfl
 obtain⟨W,S,A,c,pi,pf,ys,rfl,G,hS,hc9,cap,hA,nA,hpi,hIs,hpf,q⟩:=h;show wSs _ _ _ [some (.int W.w),some (.ref pi),some (.ref pf),some A.mv,none,none,none,none,none,none,none,none,none] M;have i5:=G.i5;have f6:=G.f6;have li:W.ins.length=W.isl.length:=by unfold Wld.ins;rw[X2]
 have lf:W.fns.length=W.fer.length:=by unfold Wld.fns;rw[X2]
 delta Fp OK;walk_at "s";refine⟨W,S,A,c,rfl,G,hS,hA,nA,λM1 B s1 hB N=>?_⟩;delta OJ;walk_at "s";intro D hD;have nD:¬B.has D:=λz=>hB.live hS.gl hS.wl z hD;have s2:=s1.trans (SameM.new hD (.lst []));have hB2:=hB.keep (SameM.new hD (.lst []));have hd2:updM M1 D (.lst []) D=some (.lst []):=Xb;have hD0:=s1.free hD;generalize updM M1 D _=M2 at*;delta OI
 repeat (first|walk_at "s"|simp only[s2 _ _ hpi])
 obtain⟨J,hJ⟩:∃J:Nat->Sm->MH->Prop,∀j σ M',J j σ M'↔∃v6 v7 v8 v9 v10 v11 v12,SameM M M'/\StdAt W (Xp W S j).1 M' B/\M' D=some (.lst ((Xp W S j).2.map MV.str))/\σ=[some (.int W.w),some (.ref pi),some (.ref pf),some A.mv,some B.mv,some (.ref D),v6,v7,v8,v9,v10,v11,v12]:=⟨_,λ_ _ _=>XT⟩;refine⟨J,(hJ _ _ _).mpr ⟨_,_,_,_,_,_,_,s2,hB2,hd2,rfl⟩,λj σ M' h=>?_,?_,?_⟩
 ·obtain⟨_,_,_,_,_,_,_,s,_⟩:=(hJ _ _ _).mp h;exact s _ _ hpi
 ·rintro j u σ M' hu h;obtain⟨v6,v7,v8,v9,v10,v11,v12,s,hR,hd,rfl⟩:=(hJ _ _ _).mp h;have hu:ys[j]?=some u:=hu;have hj:j<W.isl.length:=by rw[<- hIs.1];exact(Xx.mp hu).1
  obtain⟨I,hI⟩:∃I,W.isl[j]?=some I:=⟨_,X6 hj⟩;obtain⟨ia,ib,rfl,ha,hb⟩:=hIs.2 j _ _ hI hu;obtain⟨k1,k2,k3,k4⟩:=VQ G hS j;have hA':=hA.keep s;have hr:Xp W S (j+1)=Yf W S j (Xp W S j):=rfl;have ew:=Qp (W:=W) (S:=S) j (Xh j);have back:∀v9 v10 v11 v12,YB W S j I=none->J (j+1) [some (.int W.w),some (.ref pi),some (.ref pf),some A.mv,some B.mv,some (.ref D),some (.str I.name),some (.ref ia),some (.ref ib),v9,v10,v11,v12] M':=by
   intro v9 v10 v11 v12 e;have e2:Yf W S j (Xp W S j)=Xp W S j:=by unfold Yf;rw[hI];dsimp only;rw[e]
   refine(hJ _ _ _).mpr ⟨_,_,_,_,_,_,_,s,?_,?_,rfl⟩
   ·rw[hr,e2];exact hR
   ·rw[hr,e2];exact hd
  obtain⟨wa,wa1,wa2⟩:=hA'.ws_at hS hI;delta OH;rw[StA.mv]
  repeat (first|walk_at "s"|simp only[hA'.n])
  refine⟨_,V7 G hS hI,?_⟩;delta OG
  repeat (first|walk_at "s"|simp only[s _ _ hb])
  rw[X2];cases hs:I.stps[S.num.getD j 0]? with
  |none=>
   have:=CP.mp hs;rw[if_neg (by lia)]
   exact back _ _ _ _ (by unfold YB;rw[hs])
  |some st=>
   have hl:=(Xx.mp hs).1;have est:atI (I.stps.map Stp.mv) (S.num.getD j 0:Nat)=some st.mv:=XH (by rw[Xg,hs];rfl)
   have si:=UC G hI hs;rw[if_pos (by lia)]
   refine⟨_,est,?_⟩
   try walk_at "s"
   refine⟨W,S,A,c,pf,j,I,S.num.getD j 0,st,rfl,G,hS,cap,hA',s _ _ hpf,hI,hs,?_⟩
   try walk_at "s"
   cases hcan:canM W S st with
   |false=>
    try walk_at "s"
    exact back _ _ _ _ (by unfold YB;rw[hs];dsimp only;rw[hcan];rfl)
   |true=>
    have hg:YB W S j I=some st:=by unfold YB;rw[hs];dsimp only;rw[hcan];rfl
    have e2:Yf W S j (Xp W S j)=(YN W S j st (Xp W S j).1,(Xp W S j).2++[I.name]):=by unfold Yf;rw[hI];dsimp only;rw[hg]
    have wd:=hS.wi j I _ hI (Z3 hS hI);have nd:=(G.io I (Xk hI)).nd;have rd:=wd.reads nd;have bw:(Xp W S j).1.wd[j]?=some (S.wd.getD j []):=by rw[Z3 k1 hI,ew]
    obtain⟨p2,p21,p22⟩:=hR.ws_at k1 hI;rw[ew]at p22
    try walk_at "s"
    delta OF
    repeat (first|walk_at "s"|simp only[s _ _ hb])
    refine⟨_,est,?_⟩;delta OE
    repeat (first|walk_at "s"|simp only[hA'.w])
    refine⟨_,Zf G hI wa1,?_⟩;delta OD
    repeat (first|walk_at "s"|simp only[hd,X2])
    refine⟨⟨_,rfl⟩,by lia,?_⟩
    have s3:=s.upd hD0 (.lst ((Xp W S j).2.map MV.str++[.str I.name]));have hR3:=hR.offd (λz=>nD (.inl z)) (λz=>nD (.inr z)) (.lst ((Xp W S j).2.map MV.str++[.str I.name]));have hd3:updM M' D (.lst ((Xp W S j).2.map MV.str++[.str I.name])) D=some (.lst (((Xp W S j).2++[I.name]).map MV.str)):=by rw[Xb,Y4];rfl
    generalize updM M' D _=M3 at*;obtain⟨R,hRR⟩:∃R,(Xp W S j).1=R:=⟨_,rfl⟩;rw[hRR]at hR3 k1 bw e2;obtain⟨nm,hnm⟩:∃nm,(Xp W S j).2++[I.name]=nm:=⟨_,rfl⟩;rw[hnm]at e2 hd3;clear hd hR hA' p22 wa2 ew k2 k3 k4;have fin:∀M'' v12,SameM M M''->StdAt W (YN W S j st R) M'' B->M'' D=some (.lst (nm.map MV.str))->J (j+1) [some (.int W.w),some (.ref pi),some (.ref pf),some (.tup [.ref A.pn,.ref A.pw,.ref A.pg,.ref A.pt]),some B.mv,some (.ref D),some (.str I.name),some (.ref ia),some (.ref ib),some (.int (S.num.getD j 0:Nat)),some st.mv,some (.ref wa),v12] M'':=by
     intro M'' v12 a1 a2 a3;exact(hJ _ _ _).mpr ⟨_,_,_,_,_,_,_,a1,by rw[hr,e2];exact a2,by rw[hr,e2];exact a3,rfl⟩
    have nDa:∀{a:Addr},B.has a->D≠a:=λha z=>nD (z▸ha);have hpn:B.has B.pn:=.inl (by simp[StA.own])
    have hpt:B.has B.pt:=.inl (by simp[StA.own])
    have hp2:B.has p2:=.inr (Xk p21);delta OC;rw[StA.mv]
    repeat (first|walk_at "s"|simp only[hR3.n])
    have zl:(zipK W.ins (R.num.map natM)).length≤5:=by rw[Yl (by rw[X2,k1.nl,li])];lia
    refine⟨by lia,?_⟩
    have ez:putM (zipK W.ins (R.num.map natM)) (Xf I.name) (.int ((S.num.getD j 0:Nat)+1))=zipK W.ins ((R.num.set j (S.num.getD j 0+1)).map natM):=by
     rw[UB (by rw[X2,k1.nl,li]) G.in_nd (ZU hI),UM];rfl
    rw[ez];have s4:=s3.upd (N.fr _ hpn) (.dic (zipK W.ins ((R.num.set j (S.num.getD j 0+1)).map natM)));have hR4:=hR3.put_n N.new (R.num.set j (S.num.getD j 0+1));have hd4:updM M3 B.pn (.dic (zipK W.ins ((R.num.set j (S.num.getD j 0+1)).map natM))) D=some (.lst (nm.map MV.str)):=by rw[X9 (nDa hpn)];exact hd3
    generalize updM M3 B.pn _=M4 at*;clear hR3 hd3 s3;have e1:((S.num.getD j 0:Nat)+1:Int).toNat=S.num.getD j 0+1:=by lia
    have hA4:=hA.keep s4;obtain⟨wa',wb1,wb2⟩:=hA4.ws_at hS hI;rw[wa1]at wb1;cases wb1;have ewd:R.wd.set j (S.wd.getD j [])=R.wd:=by
     apply W6;intro k;rw[UI];by_cases e:j=k
     ·subst e;rw[if_pos rfl,bw,if_pos (Xx.mp bw).1]
     ·rw[if_neg e]
    have hp4:M4 p2=some (.dic (S.wd.getD j [])):=hR4.wv j p2 _ p21 bw;have wlen:=wd.len;have vn:=(G.io I (Xk hI)).nv;have vl:I.vars.length≤6:=by unfold Isl.vars;rw[X2];exact vn
    delta OB;cases st with
    |take f x=>
     obtain⟨v,ev,ev2,hv⟩:=FO hS si.1 hcan;obtain⟨ga,ga1,ga2⟩:=hA4.gs_at hS si.1;simp only[Stp.mv]at fin ⊢;walk_at "s";delta OA
     repeat (first|walk_at "s"|simp only[hA4.t])
     refine⟨_,Uf G hS si.1,?_⟩;delta Oz
     repeat (first|walk_at "s"|simp only[hA4.g])
     refine⟨_,Zm G si.1 ga1,?_⟩
     repeat (first|walk_at "s"|simp only[ga2])
     refine⟨_,XH (by rw[Xg,ev2];rfl),?_⟩
     repeat (first|walk_at "s"|simp only[hR4.w])
     refine⟨_,Zf G hI p21,?_⟩
     repeat (first|walk_at "s"|simp only[hp4])
     refine⟨by lia,?_⟩
     have s5:=s4.upd (N.fr _ hp2) (.dic (putM (S.wd.getD j []) (Xf x) (.int v)));have hR5:=hR4.put_d N p21 (putM (S.wd.getD j []) (Xf x) (.int v));have hd5:updM M4 p2 (.dic (putM (S.wd.getD j []) (Xf x) (.int v))) D=some (.lst (nm.map MV.str)):=by rw[X9 (nDa hp2)];exact hd4
     generalize updM M4 p2 _=M5 at*;delta Oy
     repeat (first|walk_at "s"|simp only[hR5.t])
     have zt:(zipK W.fns (R.tak.map natM)).length≤6:=by rw[Yl (by rw[X2,k1.tl,lf])];lia
     refine⟨by lia,?_⟩
     have et:putM (zipK W.fns (R.tak.map natM)) (Xf f) (.int ((S.tak.getD (W.fat f) 0:Nat)+1))=zipK W.fns ((R.tak.set (W.fat f) (S.tak.getD (W.fat f) 0+1)).map natM):=by
      rw[UB (by rw[X2,k1.tl,lf]) G.fn_nd (Ye si.1).1,UM];rfl
     rw[et];have s6:=s5.upd (N.fr _ hpt) (.dic (zipK W.fns ((R.tak.set (W.fat f) (S.tak.getD (W.fat f) 0+1)).map natM)));have hR6:=hR5.put_t N.new (R.tak.set (W.fat f) (S.tak.getD (W.fat f) 0+1));have hd6:updM M5 B.pt (.dic (zipK W.fns ((R.tak.set (W.fat f) (S.tak.getD (W.fat f) 0+1)).map natM))) D=some (.lst (nm.map MV.str)):=by rw[X9 (nDa hpt)];exact hd5
     generalize updM M5 B.pt _=M6 at*;delta AJ;walk_at "s";delta AI;walk_at "s";delta AH;walk_at "s";refine fin M6 _ s6 ?_ hd6;unfold YN;rw[ev];show StdAt W ⟨R.num.set j ((S.num.getD j 0:Nat)+1:Int).toNat,R.wd.set j (putM (S.wd.getD j []) (Xf x) (.int v)),R.giv,R.tak.set (W.fat f) (S.tak.getD (W.fat f) 0+1)⟩ M6 B;rw[e1];exact hR6
    |give f U=>
     have lg:W.fat f<B.gs.length:=by rw[hR4.gl];exact(Ye si.1).2
     obtain⟨gb,gb1⟩:∃gb,B.gs[W.fat f]?=some gb:=⟨_,X6 lg⟩;have gb2:=hR4.gv _ gb _ gb1 (ZT k1 (Ye si.1).2);have hgb:B.has gb:=.inl (YV (Xk gb1));have gl:=(k1.gi _ (Xk (ZT k1 (Ye si.1).2))).1;simp only[Stp.mv]at fin ⊢;walk_at "s";delta AJ;walk_at "s";delta Ox
     repeat (first|walk_at "s"|simp only[hR4.g])
     refine⟨_,Zm G si.1 gb1,?_⟩
     repeat (first|walk_at "s"|simp only[gb2])
     refine⟨⟨_,rfl⟩,U,W.w,wa,S.wd.getD j [],rhoK (S.wd.getD j []),rfl,XV si.2.1 (by decide),G.w1,G.w2,wb2,rd.tm si.2,?_⟩
     repeat (first|walk_at "s"|simp only[gb2])
     rw[X2];refine⟨by lia,?_⟩
     have hR5:=hR4.put_g N.new gb1 (R.giv.getD (W.fat f) []++[U.val (rhoK (S.wd.getD j [])) W.w]);rw[Y4]at hR5;have s5:=s4.upd (N.fr _ hgb) (.lst ((R.giv.getD (W.fat f) []).map MV.int++[.int (U.val (rhoK (S.wd.getD j [])) W.w)]));have hd5:updM M4 gb (.lst ((R.giv.getD (W.fat f) []).map MV.int++[.int (U.val (rhoK (S.wd.getD j [])) W.w)])) D=some (.lst (nm.map MV.str)):=by rw[X9 (nDa hgb)];exact hd4
     delta AI;walk_at "s";delta AH;walk_at "s";refine fin _ _ s5 ?_ hd5;unfold YN;show StdAt W ⟨R.num.set j ((S.num.getD j 0:Nat)+1:Int).toNat,R.wd.set j (S.wd.getD j []),R.giv.set (W.fat f) (R.giv.getD (W.fat f) []++[U.val (rhoK (S.wd.getD j [])) W.w]),R.tak⟩ _ B;rw[e1,ewd];exact hR5
    |put x U=>
     simp only[Stp.mv]at fin ⊢;walk_at "s";delta AJ;walk_at "s";delta AI;walk_at "s";delta Ow;walk_at "s";refine⟨U,W.w,wa,S.wd.getD j [],rhoK (S.wd.getD j []),rfl,XV si.2.1 (by decide),G.w1,G.w2,wb2,rd.tm si.2,?_⟩
     repeat (first|walk_at "s"|simp only[hR4.w])
     refine⟨_,Zf G hI p21,?_⟩
     repeat (first|walk_at "s"|simp only[hp4])
     refine⟨by lia,?_⟩
     have s5:=s4.upd (N.fr _ hp2) (.dic (putM (S.wd.getD j []) (Xf x) (.int (U.val (rhoK (S.wd.getD j [])) W.w))));have hR5:=hR4.put_d N p21 (putM (S.wd.getD j []) (Xf x) (.int (U.val (rhoK (S.wd.getD j [])) W.w)));have hd5:updM M4 p2 (.dic (putM (S.wd.getD j []) (Xf x) (.int (U.val (rhoK (S.wd.getD j [])) W.w)))) D=some (.lst (nm.map MV.str)):=by rw[X9 (nDa hp2)];exact hd4
     delta AH;walk_at "s";refine fin _ _ s5 ?_ hd5;unfold YN;show StdAt W ⟨R.num.set j ((S.num.getD j 0:Nat)+1:Int).toNat,R.wd.set j (putM (S.wd.getD j []) (Xf x) (.int (U.val (rhoK (S.wd.getD j [])) W.w))),R.giv,R.tak⟩ _ B;rw[e1];exact hR5
    |jump U k=>
     simp only[Stp.mv]at fin ⊢;walk_at "s";delta AJ;walk_at "s";delta AI;walk_at "s";delta AH;walk_at "s";refine⟨U,W.w,wa,S.wd.getD j [],rhoK (S.wd.getD j []),rfl,XV si.1.1 (by decide),G.w1,G.w2,wb2,rd.tm si.1,?_⟩
     walk_at "s";by_cases hv:U.val (rhoK (S.wd.getD j [])) W.w=0
     ·rw[if_neg (λz=>z hv)];refine fin _ _ s4 ?_ hd4;unfold YN;have el:Ya (.jump U k) (rhoK (S.wd.getD j [])) W.w (S.num.getD j 0)=(S.num.getD j 0:Nat)+1:=if_neg (λz=>z hv);rw[el,e1];show StdAt W ⟨R.num.set j (S.num.getD j 0+1),R.wd.set j (S.wd.getD j []),R.giv,R.tak⟩ _ B;rw[ewd];exact hR4
     ·rw[if_pos hv];delta Ov
      repeat (first|walk_at "s"|simp only[hR4.n])
      have zl:(zipK W.ins ((R.num.set j (S.num.getD j 0+1)).map natM)).length≤5:=by rw[Yl (by rw[X2,UJ,k1.nl,li])];lia
      refine⟨by lia,?_⟩
      have ek:MV.int k=natM k.toNat:=by unfold natM;rw[U5 si.2.1]
      have ez:putM (zipK W.ins ((R.num.set j (S.num.getD j 0+1)).map natM)) (Xf I.name) (.int k)=zipK W.ins ((R.num.set j k.toNat).map natM):=by
       rw[ek,UB (by rw[X2,UJ,k1.nl,li]) G.in_nd (ZU hI),<- UM,List.set_set]
      rw[ez];have hR5:=hR4.put_n N.new (R.num.set j k.toNat);refine fin _ _ (s4.upd (N.fr _ hpn) _) ?_ (by rw[X9 (nDa hpn)];exact hd4)
      unfold YN;have el:Ya (.jump U k) (rhoK (S.wd.getD j [])) W.w (S.num.getD j 0)=k:=if_pos hv;rw[el];show StdAt W ⟨R.num.set j k.toNat,R.wd.set j (S.wd.getD j []),R.giv,R.tak⟩ _ B;rw[ewd];exact hR5
 ·rintro σ M' h;obtain⟨v6,v7,v8,v9,v10,v11,v12,s,hR,hd,rfl⟩:=(hJ _ _ _).mp h;have el:(Src.lst pi ys).len=W.isl.length:=hIs.1;rw[el]at hR hd;delta Ou;walk_at "s";exact q M' B D s hR (λa ha e=>N.ww a ha (by rw[e];simp[StA.own])) hd
noncomputable abbrev CO:SpM:=λvs M Q=>∃i,vs=[.int i]/\Q (.bl true) M
theorem Z80:MonW CO:=by walk_at "m"
theorem Zca(T:Txt K mg t):FnOk P w K mg base CX0 1 t.f__law_whole t.d__law_whole ["found"] (liSp K CO):=by
 refine T.q__law_whole.F.okM Zc2 (Xs (Φ:=[]) (Xt T) (Xu T) rfl nl0 nl0:Fts P w K mg base 0 ON []) Fq Zcz (λvs M Q h=>?_) (λvs M Q h=>?_)
 ·obtain⟨i,rfl,_⟩:=h;rfl
 obtain⟨i,rfl,q⟩:=h;show wSs _ _ _ [some (.int i)] M;delta Fq OM;walk_at "s"
 simpa using q
noncomputable abbrev Bi:SpM:=λvs M Q=>∃(W:Wld) (S:Std) (A B:StA) (c:Nat),vs=[B.mv,A.mv]/\W.Good/\SOk W c S/\StdAt W S M B/\StdAt W S M A/\(∀a,B.has a->¬A.has a)/\(∀a∈A.ws,a≠A.pn)/\∀M',SameM M M'->Q (.bl true) M'
theorem Qz:MonW Bi:=by walk_at "m"
theorem Z9j(T:Txt K mg t):FnOk P w K mg base CX0 2 t.f__law_is_stand t.d__law_is_stand ["found","due"] (liSp K Bi):=by
 refine T.q__law_is_stand.F.okM Z9g (Xs (Φ:=[("_law_whole",CO)]) (Xt T) (Xu T) rfl (fMc ⟨Z80,nl0⟩) (fMc ⟨⟨_,_,_,(FnOk.mono (Zca T) (by decide)),T.q__law_whole.m,T.q__law_whole.F.kp,T.q__law_whole.b⟩,nl0⟩):Fts P w K mg base 1 OW [("_law_whole",CO)]) Ft Z9r (fun vs M Q h=>?_) (fun vs M Q h=>?_)
 ·obtain⟨_,_,_,_,_,rfl,_⟩:=h;rfl
 obtain⟨W,S,A,B,c,rfl,G,hok,hB,hA,dis,nA,q⟩:=h;show wSs _ _ _ [some B.mv,some A.mv,none,none] M;have li:W.ins.length=W.isl.length:=by unfold Wld.ins;rw[X2]
 have lf:W.fns.length=W.fer.length:=by unfold Wld.fns;rw[X2]
 have hp:A.has A.pn/\A.has A.pw/\A.has A.pg/\A.has A.pt/\B.has B.pn/\B.has B.pw/\B.has B.pg/\B.has B.pt:=by
  refine⟨.inl ?_,.inl ?_,.inl ?_,.inl ?_,.inl ?_,.inl ?_,.inl ?_,.inl ?_⟩<;>simp[StA.own]
 obtain⟨hAn,hAw,hAg,hAt,hBn,hBw,hBg,hBt⟩:=hp;have ne:∀{a b:Addr},B.has b->A.has a->b≠a:=λhb ha z=>dis _ hb (z▸ha);have ea:=Qt G hok hB hA;rw[Ft,OV,StA.mv,StA.mv]at*;walk_at "s";refine E7 rfl ea (by decide) ?_
 walk_at "s";delta OU
 repeat (first|walk_at "s"|simp only[hA.n])
 intro o;obtain⟨Mf,hMf,fz,nf,ff⟩:=froz o hA.n;rw[hMf];obtain⟨J,hJ⟩:∃J:Nat->Sm->MH->Prop,∀j σ M',J j σ M'↔∃v2 v3,SameM Mf M'/\σ=[some (.tup [.ref B.pn,.ref B.pw,.ref B.pg,.ref B.pt]),some (.tup [.ref A.pn,.ref A.pw,.ref A.pg,.ref A.pt]),v2,v3]:=⟨_,λ_ _ _=>XT⟩;refine⟨J,(hJ 0 _ _).mpr ⟨_,_,SameM.refl _,rfl⟩,λj σ M' h=>?_,?_,?_⟩
 ·obtain⟨_,_,s,_⟩:=(hJ _ _ _).mp h;exact s _ _ fz
 ·rintro j u σ M' hu h;obtain⟨v2,v3,s,rfl⟩:=(hJ _ _ _).mp h;obtain⟨I,hI,rfl⟩:=G3 (by rw[X2];exact hok.nl) hu
  have hj:=(Xx.mp hI).1;obtain⟨wa,wa1,wa2⟩:=hA.ws_at hok hI;obtain⟨wb,wb1,wb2⟩:=hB.ws_at hok hI;have hwa:A.has wa:=.inr (Xk wa1);have hwb:B.has wb:=.inr (Xk wb1);have nwa:=nA wa (Xk wa1);have npw:A.pw≠A.pn:=λz=>by
   have h1:=hA.w;rw[z,hA.n]at h1;have h2:=V7 G hok hI;injection h1 with h1;injection h1 with h1;rw[h1,Zf G hI wa1]at h2;cases h2
  have wd:=hok.wi j I _ hI (Z3 hok hI);have nd:=(G.io I (Xk hI)).nd;delta OT
  repeat (first|walk_at "s"|simp only[s _ _ ((nf _ (ne hBn hAn)).trans hB.n)])
  refine⟨_,V7 G hok hI,_,rfl,?_⟩
  repeat (first|walk_at "s"|simp only[s _ _ ((nf _ (ne hBw hAn)).trans hB.w)])
  refine⟨_,Zf G hI wb1,?_⟩
  repeat (first|walk_at "s"|simp only[s _ _ ((nf _ (ne hwb hAn)).trans wb2)])
  delta OS
  repeat (first|walk_at "s"|simp only[s _ _ ((nf _ npw).trans hA.w)])
  refine⟨_,Zf G hI wa1,?_⟩;have ma:=s _ _ ((nf _ nwa).trans wa2)
  repeat (first|walk_at "s"|simp only[ma])
  intro o2;obtain⟨J2,hJ2⟩:∃J2:Nat->Sm->MH->Prop,∀k σ M'',J2 k σ M''↔∃v3,SameM (updM M' wa (.fdic o2 (S.wd.getD j []))) M''/\σ=[some (.tup [.ref B.pn,.ref B.pw,.ref B.pg,.ref B.pt]),some (.tup [.ref A.pn,.ref A.pw,.ref A.pg,.ref A.pt]),some (.str I.name),v3]:=⟨_,λ_ _ _=>XT⟩;refine⟨J2,(hJ2 0 _ _).mpr ⟨_,SameM.refl _,rfl⟩,λk σ M'' h=>?_,?_,?_⟩
  ·obtain⟨_,s,_⟩:=(hJ2 _ _ _).mp h;exact s _ _ Xb
  ·rintro k u σ M'' hu h;obtain⟨v3,s2,rfl⟩:=(hJ2 _ _ _).mp h;have hu:((S.wd.getD j []).map λp=>kM p.1)[k]?=some u:=hu;obtain⟨vs,vl,ek,hv⟩:=wd;rw[ek,B3 (by rw[X2];exact vl)]at hu
   obtain⟨hk,rfl⟩:=Y9 hu;have up:∀a o,M' a=some o->a≠wa->M'' a=some o:=λa o h n=>s2 _ _ (by rw[X9 n];exact h)
   delta OR
   repeat (first|walk_at "s"|simp only[up _ _ (s _ _ ((nf _ (ne hBw hAn)).trans hB.w)) (ne hBw hwa)])
   refine⟨_,Zf G hI wb1,?_⟩
   repeat (first|walk_at "s"|simp only[up _ _ (s _ _ ((nf _ (ne hwb hAn)).trans wb2)) (ne hwb hwa)])
   refine⟨.int vs[k],?_,_,rfl,?_⟩
   ·rw[ek];exact Zl nd (X6 hk) (by rw[Xg,X6 (by lia)];rfl)
   walk_at "s";exact(hJ2 _ _ _).mpr ⟨_,s2,rfl⟩
  ·rintro σ M'' h;obtain⟨v3,s2,rfl⟩:=(hJ2 _ _ _).mp h;exact(hJ _ _ _).mpr ⟨_,_,s.trans (s2.thaw ma),rfl⟩
 ·rintro σ M' h;obtain⟨v2,v3,s,rfl⟩:=(hJ _ _ _).mp h;rw[<- hMf]at s;have s:=s.thaw hA.n;clear h hJ J fz nf ff hMf Mf;generalize updM M' A.pn _=M5 at*;delta OQ
  repeat (first|walk_at "s"|simp only[s _ _ hA.g])
  intro o;obtain⟨Mf,hMf⟩:∃Mf,updM M5 A.pg (.fdic o (zipK W.fns (A.gs.map MV.ref)))=Mf:=⟨_,rfl⟩;have fz:Mf A.pg=some (.fdic o (zipK W.fns (A.gs.map MV.ref))):=by rw[<- hMf,Xb]
  have nf:∀a o,a≠A.pg->M a=some o->Mf a=some o:=λa o h e=>by rw[<- hMf,X9 h];exact s _ _ e
  rw[hMf];obtain⟨J,hJ⟩:∃J:Nat->Sm->MH->Prop,∀j σ M',J j σ M'↔∃v2 v3,SameM Mf M'/\σ=[some (.tup [.ref B.pn,.ref B.pw,.ref B.pg,.ref B.pt]),some (.tup [.ref A.pn,.ref A.pw,.ref A.pg,.ref A.pt]),v2,v3]:=⟨_,λ_ _ _=>XT⟩;refine⟨J,(hJ 0 _ _).mpr ⟨_,_,SameM.refl _,rfl⟩,λj σ M' h=>?_,?_,?_⟩
  ·obtain⟨_,_,s,_⟩:=(hJ _ _ _).mp h;exact s _ _ fz
  ·rintro j u σ M' hu h;obtain⟨v2,v3,s,rfl⟩:=(hJ _ _ _).mp h;obtain⟨F,hF,rfl⟩:=G4 (by rw[X2];exact hA.gl) hu
   have hj:=(Xx.mp hF).1;have fm:F.name∈W.fns:=XI.mpr ⟨F,Xk hF,rfl⟩;obtain⟨wb,wb1,wb2⟩:=hB.gs_at hok fm;have hwb:B.has wb:=.inl (YV (Xk wb1));delta OP
   repeat (first|walk_at "s"|simp only[s _ _ (nf _ _ (ne hBg hAg) hB.g)])
   refine⟨_,Zm G fm wb1,?_⟩
   repeat (first|walk_at "s"|simp only[s _ _ (nf _ _ (ne hwb hAg) wb2)])
   repeat (first|walk_at "s"|simp only[s _ _ (nf _ _ (ne hBt hAg) hB.t)])
   refine⟨_,Uf G hok fm,_,rfl,?_⟩;walk_at "s";exact(hJ _ _ _).mpr ⟨_,_,s,rfl⟩
  ·rintro σ M' h;obtain⟨v2,v3,s2,rfl⟩:=(hJ _ _ _).mp h;rw[<- hMf]at s2;have s3:=s.trans (s2.thaw (s _ _ hA.g));delta OO;walk_at "s";exact q _ s3
theorem ZnW(T:Txt K mg t):FnOk P w K mg base CX0 60 t.f_law t.d_law ["script"] (liSp K Jl):=by
 refine T.q_law.F.okM ZmX (Xs (Φ:=[("_law_cell",UD),("_law_copy",V9),("_law_first",Bg),("_law_is_stand",Bi),("_law_made",Bb),("_law_mix",XZ),("_law_round",Bh),("_law_world",Ba),("first_stand",B4),("round_of",B6)]) (Xt T) (Xu T) rfl (fMc ⟨CG,(fMc ⟨G5,(fMc ⟨Qw,(fMc ⟨Qz,(fMc ⟨Qo,(fMc ⟨Zo,(fMc ⟨Qy,(fMc ⟨Qn,(fMc ⟨Q4,(fMc ⟨Q6,nl0⟩)⟩)⟩)⟩)⟩)⟩)⟩)⟩)⟩)⟩) (fMc ⟨⟨_,_,_,(FnOk.mono (Q7 T) (by decide)),T.q__law_cell.m,T.q__law_cell.F.kp,T.q__law_cell.b⟩,(fMc ⟨⟨_,_,_,(FnOk.mono (Qx T) (by decide)),T.q__law_copy.m,T.q__law_copy.F.kp,T.q__law_copy.b⟩,(fMc ⟨⟨_,_,_,(FnOk.mono (Zcd T) (by decide)),T.q__law_first.m,T.q__law_first.F.kp,T.q__law_first.b⟩,(fMc ⟨⟨_,_,_,(FnOk.mono (Z9j T) (by decide)),T.q__law_is_stand.m,T.q__law_is_stand.F.kp,T.q__law_is_stand.b⟩,(fMc ⟨⟨_,_,_,(FnOk.mono (Zd8 T) (by decide)),T.q__law_made.m,T.q__law_made.F.kp,T.q__law_made.b⟩,(fMc ⟨⟨_,_,_,(FnOk.mono (V8 T) (by decide)),T.q__law_mix.m,T.q__law_mix.F.kp,T.q__law_mix.b⟩,(fMc ⟨⟨_,_,_,(FnOk.mono (Zcb T) (by decide)),T.q__law_round.m,T.q__law_round.F.kp,T.q__law_round.b⟩,(fMc ⟨⟨_,_,_,(FnOk.mono (Zc9 T) (by decide)),T.q__law_world.m,T.q__law_world.F.kp,T.q__law_world.b⟩,(fMc ⟨⟨_,_,_,(FnOk.mono (ZaV T) (by decide)),T.q_first_stand.m,T.q_first_stand.F.kp,T.q_first_stand.b⟩,(fMc ⟨⟨_,_,_,(FnOk.mono (Zej T) (by decide)),T.q_round_of.m,T.q_round_of.F.kp,T.q_round_of.b⟩,nl0⟩)⟩)⟩)⟩)⟩)⟩)⟩)⟩)⟩)⟩):Fts P w K mg base 59 Pe [("_law_cell",UD),("_law_copy",V9),("_law_first",Bg),("_law_is_stand",Bi),("_law_made",Bb),("_law_mix",XZ),("_law_round",Bh),("_law_world",Ba),("first_stand",B4),("round_of",B6)]) Fu Zow (fun vs M Q h=>?_) (fun vs M Q h=>?_)
 ·obtain⟨ns,rfl,_⟩:=h;rfl
 obtain⟨ns,rfl,h63,q⟩:=h;have hΦ:=(Zk (Φ:=[("_law_cell",UD),("_law_copy",V9),("_law_first",Bg),("_law_is_stand",Bi),("_law_made",Bb),("_law_mix",XZ),("_law_round",Bh),("_law_world",Ba),("first_stand",B4),("round_of",B6)]) (fMc ⟨CG,(fMc ⟨G5,(fMc ⟨Qw,(fMc ⟨Qz,(fMc ⟨Qo,(fMc ⟨Zo,(fMc ⟨Qy,(fMc ⟨Qn,(fMc ⟨Q4,(fMc ⟨Q6,nl0⟩)⟩)⟩)⟩)⟩)⟩)⟩)⟩)⟩)⟩));show wSs _ _ _ [some (.frl (ns.map .int)),none,none,none,none,none,none,none,none,none] M;delta Fu Pd;walk_at "s";refine⟨ns,rfl,h63,λW pi pf ys M1 s1 G f1 f2 f3 hpi hIs hpf=>?_⟩;have i5:=G.i5;have li:W.ins.length=W.isl.length:=by unfold Wld.ins;rw[X2]
 have lf:W.fns.length=W.fer.length:=by unfold Wld.fns;rw[X2]
 delta Pc;walk_at "s";refine⟨W,pi,pf,ys,rfl,G,hpi,hIs,hpf,λM2 s2=>?_⟩;delta Pb;walk_at "s";refine⟨W,pi,pf,ys,rfl,G,s2 _ _ hpi,hIs.keep s2,s2 _ _ hpf,λM3 A s3 hA nA=>?_⟩;have hok0:=FS G;delta Pa;walk_at "s";refine⟨W,rfl,G,λM4 B s4 hB NB wB=>?_⟩
 try walk_at "s"
 refine⟨W,Xo W,A,B,0,rfl,G,hok0,hB,hA.keep s4,λa hb ha=>?_,nA,λM5 s5=>?_⟩
 ·obtain⟨o,ho⟩:=hA.alive hok0 ha;rw[hb.elim (NB.fr a) (wB a)]at ho;cases ho
 try walk_at "s"
 delta P9;walk_at "s";refine⟨ns,0,rfl,by decide,λv0=>?_⟩
 walk_at "s";refine⟨v0,2,rfl,?_⟩;walk_at "s";obtain⟨m,hm,hm2⟩:∃m:Nat,1+Yg v0 2%16=(m:Int)/\m≤16:=⟨(1+Yg v0 2%16).toNat,by lia,by lia⟩
 rw[hm];have s15:=((s2.trans s3).trans s4).trans s5;obtain⟨J,hJ⟩:∃J:Nat->Sm->MH->Prop,∀k σ M',J k σ M'↔∃A v4 v5 v6 v7 v8 v9,SameM M1 M'/\StdAt W (YC W k) M' A/\(∀a∈A.ws,a≠A.pn)/\σ=[some (.frl (ns.map MV.int)),some (.tup [.int W.w,.ref pi,.ref pf]),some W.mv,some A.mv,v4,v5,v6,v7,v8,v9]:=⟨_,λ_ _ _=>XT⟩;refine⟨by lia,by lia,J,(hJ 0 _ _).mpr ⟨A,_,_,_,_,_,_,s15,(hA.keep s4).keep s5,nA,rfl⟩,λj σ M' h=>trivial,?_,?_⟩
 ·clear hA nA hB NB wB A B s15 s5 s4 s3 s2;rintro k u σ M' hu h;obtain⟨A,v4,v5,v6,v7,v8,v9,s,hA,nA,rfl⟩:=(hJ _ _ _).mp h;obtain⟨hk,rfl⟩:=AK hu;have hk:k<m:=by simpa using hk
  have ok:=CI G k;have ok1:=CI G (k+1);have e1:YC W (k+1)=Cy W (YC W k):=rfl;delta P8;walk_at "s";refine⟨W,YC W k,A,5*k,pi,pf,ys,rfl,G,ok,by lia,Qr G k,hA,nA,s _ _ hpi,hIs.keep s,s _ _ hpf,λM6 D pn s6 hD nD hn6=>?_⟩
  walk_at "s";delta P7;walk_at "s";refine⟨W,YC W k,A,5*k,rfl,G,ok,hA.keep s6,nA,λM7 C s7 hC NC=>?_⟩;delta P6;walk_at "s";refine⟨W,YC W k,C,5*k,rfl,G,ok,by lia,hC,λM8 B pb s8 hB NB wB hpb hb8=>?_⟩
  rw[<- e1]at hB hD;have fr:∀a,B.has a->M7 a=none:=λa hb=>hb.elim (NB.fr a) (wB a);have hD7:=hD.keep s7;delta P5;walk_at "s";refine⟨W,YC W (k+1),D,B,5*(k+1),rfl,G,ok1,hB,hD7.keep s8,λa hb ha=>?_,nD,λM9 s9=>?_⟩
  ·obtain⟨o,ho⟩:=hD7.alive ok1 ha;rw[fr a hb]at ho;cases ho
  walk_at "s";delta P4;have hb9:=s9 _ _ hb8;have hn9:=s9 _ _ (s8 _ _ (s7 _ _ hn6))
  repeat (first|walk_at "s"|simp only[hb9])
  refine E7 rfl (Alike.lstFlat 0 (.inr ⟨_,rfl,hb9⟩) (.inr ⟨_,rfl,hn9⟩) λv hv=>by obtain⟨x,_,rfl⟩:=XI.mp hv;rfl) (by decide) ?_
  try walk_at "s"
  have hB9:=hB.keep s9;have s79:=s8.trans s9;have wl:∀a∈B.ws,∃kvs,M9 a=some (.dic kvs)/\kvs.length≤6:=λa ha=>by
   obtain⟨i,hi,rfl⟩:=Y0 ha;have hI:=X6 (show i<W.isl.length by rw[<- hB9.wl];exact hi)
   have hw:=Z3 ok1 hI;refine⟨_,hB9.wv i _ _ (X6 hi) hw,?_⟩;rw[(ok1.wi i _ _ hI hw).len];unfold Isl.vars;rw[X2];exact(G.io _ (Xk hI)).nv
  have gl:∀a∈B.gs,∃xs,M9 a=some (.lst xs)/\xs.length≤100:=λa ha=>by
   obtain⟨i,hi,rfl⟩:=Y0 ha;have hg:=ZT ok1 (show i<W.fer.length by rw[<- hB9.gl];exact hi)
   refine⟨_,hB9.gv i _ _ (X6 hi) hg,?_⟩;rw[X2];have:=(ok1.gi _ (Xk hg)).1;lia
  obtain⟨⟨_,_,_,_⟩,⟨b1,b2,b3⟩,⟨c1,c2⟩,d1,gnd⟩:=Zn NB.nd;have hw9:=hB9.w;have bwl:=hB9.wl;have bgl:=hB9.gl;have s0:=s;have hg9:=hB9.g;have bw:B.has B.pw:=.inl (by simp[StA.own])
  have bg:B.has B.pg:=.inl (by simp[StA.own])
  have wpw:∀a∈B.ws,a≠B.pw/\a≠B.pg/\a∉B.gs:=λa ha=>⟨λz=>NB.ws a ha (by rw[z];simp[StA.own]),λz=>NB.ws a ha (by rw[z];simp[StA.own]),λz=>NB.ws a ha (YV z)⟩
  clear hB9 hb9 hn9 hB hb8 hn6;delta P3;rw[StA.mv,StA.mv]
  repeat (first|walk_at "s"|simp only[s79 _ _ hD7.n])
  intro o;obtain⟨Mf,hMf⟩:∃Mf,updM M7 D.pn (.fdic o (zipK W.ins ((YC W (k+1)).num.map natM)))=Mf:=⟨_,rfl⟩;have fz:Mf D.pn=some (.fdic o (zipK W.ins ((YC W (k+1)).num.map natM))):=by rw[<- hMf,Xb]
  have ff:∀a,B.has a->a≠D.pn/\Mf a=none:=λa h=>by
   have n:=(neM hD7.n (fr a h)).symm;exact⟨n,by rw[<- hMf,X9 n];exact fr a h⟩
  have sf:=s79.both D.pn (.fdic o (zipK W.ins ((YC W (k+1)).num.map natM)));rw[hMf]at sf;obtain⟨K1,hK1⟩:∃K1:Nat->Sm->MH->Prop,∀j σ M',K1 j σ M'↔∃v9,SameM Mf M'/\M' B.pw=some (.dic (zipK W.ins (B.ws.map MV.ref)))/\M' B.pg=some (.dic (zipK W.fns (B.gs.map MV.ref)))/\(∀a∈B.ws,∃kvs,M' a=some (.dic kvs)/\kvs.length≤6+j)/\(∀a∈B.gs,∃xs,M' a=some (.lst xs)/\xs.length≤100)/\
   σ=[some (.frl (ns.map MV.int)),some (.tup [.int W.w,.ref pi,.ref pf]),some W.mv,some A.mv,some (.int (0+(k:Nat))),some (.tup [.ref D.pn,.ref D.pw,.ref D.pg,.ref D.pt]),some (.ref pn),some C.mv,some (.tup [.tup [.ref B.pn,.ref B.pw,.ref B.pg,.ref B.pt],.ref pb]),v9]:=⟨_,λ_ _ _=>XT⟩
  refine⟨K1,(hK1 0 _ _).mpr ⟨_,sf,by rw[X9 (ff _ bw).1];exact hw9,by rw[X9 (ff _ bg).1];exact hg9,λa ha=>by rw[X9 (ff a (.inr ha)).1];exact wl a ha,λa ha=>by rw[X9 (ff a (.inl (YV ha))).1];exact gl a ha,rfl⟩,λj σ M' h=>?_,?_,?_⟩
  ·obtain⟨_,s,_⟩:=(hK1 _ _ _).mp h;exact s _ _ fz
  ·rintro j u σ M' hu h;obtain⟨v9,s,hw,hg,hws,hgs,rfl⟩:=(hK1 _ _ _).mp h;obtain⟨I,hI,rfl⟩:=G3 (by rw[X2];exact ok1.nl) hu
   have hj:=(Xx.mp hI).1;obtain⟨wb,wb1⟩:∃wb,B.ws[j]?=some wb:=by
    exact⟨_,X6 (by rw[bwl];exact hj)⟩
   have wbm:=Xk wb1;obtain⟨kvs,hk1,hk2⟩:=hws wb wbm;obtain⟨n1,n2,n3⟩:=wpw wb wbm;delta P2
   repeat (first|walk_at "s"|simp only[hw])
   refine⟨_,Zf G hI wb1,?_⟩
   repeat (first|walk_at "s"|simp only[hk1])
   refine⟨by lia,(hK1 _ _ _).mpr ⟨_,s.upd (ff wb (.inr wbm)).2 _,by rw[X9 n1.symm];exact hw,by rw[X9 n2.symm];exact hg,λa ha=>?_,λa ha=>by rw[X9 (λz=>n3 (by rw[<- z];exact ha))];exact hgs a ha,rfl⟩⟩
   by_cases z:a=wb
   ·subst z;refine⟨_,Xb,XV (Pg _ _ _) (by lia)⟩
   ·rw[X9 z];obtain⟨kv,z1,z2⟩:=hws a ha;exact⟨kv,z1,by lia⟩
  ·rintro σ M' h;obtain⟨v9,s,hw,hg,hws,hgs,rfl⟩:=(hK1 _ _ _).mp h;rw[<- hMf]at s;have s:=s.thaw hD7.n;have hg:updM M' D.pn (.dic (zipK W.ins ((YC W (k+1)).num.map natM))) B.pg=_:=(X9 (ff _ bg).1).trans hg;have hgs:∀a∈B.gs,∃xs,updM M' D.pn (.dic (zipK W.ins ((YC W (k+1)).num.map natM))) a=some (.lst xs)/\xs.length≤100:=λa ha=>by rw[X9 (ff a (.inl (YV ha))).1];exact hgs a ha
   clear h hK1 K1 fz ff sf hMf Mf hws hw hw9 hg9 wl gl;generalize updM M' D.pn _=M10 at*;delta P1
   repeat (first|walk_at "s"|simp only[s _ _ hD7.g])
   intro o;obtain⟨Mf,hMf⟩:∃Mf,updM M7 D.pg (.fdic o (zipK W.fns (D.gs.map MV.ref)))=Mf:=⟨_,rfl⟩;have fz:Mf D.pg=some (.fdic o (zipK W.fns (D.gs.map MV.ref))):=by rw[<- hMf,Xb]
   have ff:∀a,B.has a->a≠D.pg/\Mf a=none:=λa h=>by
    have n:=(neM hD7.g (fr a h)).symm;exact⟨n,by rw[<- hMf,X9 n];exact fr a h⟩
   have sf:=s.both D.pg (.fdic o (zipK W.fns (D.gs.map MV.ref)));rw[hMf]at sf;obtain⟨K1,hK1⟩:∃K1:Nat->Sm->MH->Prop,∀j σ M',K1 j σ M'↔∃v9,SameM Mf M'/\M' B.pg=some (.dic (zipK W.fns (B.gs.map MV.ref)))/\(∀a∈B.gs,∃xs,M' a=some (.lst xs)/\xs.length≤100+j)/\
    σ=[some (.frl (ns.map MV.int)),some (.tup [.int W.w,.ref pi,.ref pf]),some W.mv,some A.mv,some (.int (0+(k:Nat))),some (.tup [.ref D.pn,.ref D.pw,.ref D.pg,.ref D.pt]),some (.ref pn),some C.mv,some (.tup [.tup [.ref B.pn,.ref B.pw,.ref B.pg,.ref B.pt],.ref pb]),v9]:=⟨_,λ_ _ _=>XT⟩
   refine⟨K1,(hK1 0 _ _).mpr ⟨_,sf,by rw[X9 (ff _ bg).1];exact hg,λa ha=>by rw[X9 (ff a (.inl (YV ha))).1];exact hgs a ha,rfl⟩,λj σ M' h=>?_,?_,?_⟩
   ·obtain⟨_,s,_⟩:=(hK1 _ _ _).mp h;exact s _ _ fz
   ·rintro j u σ M' hu h;obtain⟨v9,s,hg,hgs,rfl⟩:=(hK1 _ _ _).mp h;obtain⟨F,hF,rfl⟩:=G4 (by rw[X2];exact hD7.gl) hu
    have hj:=(Xx.mp hF).1;have fm:F.name∈W.fns:=XI.mpr ⟨F,Xk hF,rfl⟩;obtain⟨wb,wb1⟩:∃wb,B.gs[W.fat F.name]?=some wb:=⟨_,X6 (by rw[bgl];exact(Ye fm).2)⟩
    have wbm:=Xk wb1;obtain⟨xs,hk1,hk2⟩:=hgs wb wbm;have f6:=G.f6;delta P0
    repeat (first|walk_at "s"|simp only[hg])
    refine⟨_,Zm G fm wb1,?_⟩
    repeat (first|walk_at "s"|simp only[hk1])
    refine⟨⟨_,rfl⟩,by lia,(hK1 _ _ _).mpr ⟨_,s.upd (ff wb (.inl (YV wbm))).2 _,by rw[X9 (λz=>c2 (by rw[z];exact wbm))];exact hg,λa ha=>?_,rfl⟩⟩
    by_cases z:a=wb
    ·subst z;refine⟨_,Xb,by rw[Y5,W4];lia⟩
    ·rw[X9 z];obtain⟨kv,z1,z2⟩:=hgs a ha;exact⟨kv,z1,by lia⟩
   ·rintro σ M' h;obtain⟨v9,s2,hg,hgs,rfl⟩:=(hK1 _ _ _).mp h;rw[<- hMf]at s2;have s2:=s2.thaw hD7.g;generalize updM M' D.pg _=M11 at*;delta OZ;have ea:=Qt G ok (hC.keep s2) (((hA.keep s6).keep s7).keep s2);rw[StA.mv,StA.mv]at ea ⊢;walk_at "s";refine E7 rfl ea (by decide) ?_
    try walk_at "s"
    delta OY;walk_at "s";exact(hJ _ _ _).mpr ⟨D,_,_,_,_,_,_,((s0.trans s6).trans s7).trans s2,hD7.keep s2,nD,rfl⟩
 ·rintro σ M' h;obtain⟨A,v4,v5,v6,v7,v8,v9,s,hA,nA,rfl⟩:=(hJ _ _ _).mp h;delta OX;walk_at "s";exact q _
end
theorem all_mk{l:D9}{w:Xe}{K:X5}{h:Heap}{mg:Str->Option X0}{fa:Addr}(X:K.In h)(G:h.Ns XA mg)(hfa:mg "law"=some (.ref fa))
  {f1 f2 f3 f4 f5 f6 f7 f8 f9 f10 f11 f12 f13 f14 f15 f16 f17 f18 f19 f20 f21 f22 f23 f24 f25 f26 f27 f28 f29 f30 f31 f32 f33 f34 f35 f36 f37 f38 f39 f40 f41 f42 f43 f44 f45 f46 f47 f48 f49 f50 f51 f52 f53 f54:Addr} {d1 d2 d3 d4 d5 d6 d7 d8 d9 d10 d11 d12 d13 d14 d15 d16 d17 d18 d19 d20 d21 d22 d23 d24 d25 d26 d27 d28 d29 d30 d31 d32 d33 d34 d35 d36 d37 d38 d39 d40 d41 d42 d43 d44 d45 d46 d47 d48 d49 d50 d51 d52 d53 d54:Xi}
  {tk1:Tok}
  {tk2:Tok}
  {tk3:Tok}
  {tk4:Tok}
  {tk5:Tok}
  {tk6:Tok}
  {tk7:Tok}
  {tk8:Tok}
  {tk9:Tok}
  {tk10:Tok}
  (h1:Fn1 K "is_whole" WH f1 d1)
  (h2:Fn1 K "is_width" WI f2 d2)
  (h3:Fn1 K "two_to" WJ f3 d3)
  (h4:Fn1 K "fits" WK f4 d4)
  (h5:Fn1 K "cut" WL f5 d5)
  (h6:Fn1 K "parts_within" WM f6 d6)
  (h7:Fn1 K "size_of" WN f7 d7)
  (h8:Fn1 K "names_read" WO f8 d8)
  (h9:Fn1 K "vars_in" WP f9 d9)
  (h10:Fn1 K "worth_of_two" WQ f10 d10)
  (h11:Fn1 K "worth" WR f11 d11)
  (h12:Fn1 K "wish" WT f12 d12)
  (h13:Fn1 K "number_after" WU f13 d13)
  (h14:Fn1 K "words_after" WV f14 d14)
  (h15:Fn1 K "after" WW f15 d15)
  (h16:Fn1 K "is_name" WX f16 d16)
  (h17:Fn1 K "refuse_name" WY f17 d17)
  (h18:Fn1 K "refuse_unknown" WZ f18 d18)
  (h19:Fn1 K "refuse_ferry_names" A0 f19 d19)
  (h20:Fn1 K "refuse_variables" A1 f20 d20)
  (h21:Fn1 K "refuse_term" A3 f21 d21)
  (h22:Fn1 K "refuse_step" A4 f22 d22)
  (h23:Fn1 K "refuse_island" A5 f23 d23)
  (h24:Fn1 K "refuse_islands" A6 f24 d24)
  (h25:Fn1 K "refuse_ferry" A7 f25 d25)
  (h26:Fn1 K "refuse_wrong_end" A8 f26 d26)
  (h27:Fn1 K "refuse_wrong_ends" A9 f27 d27)
  (h28:Fn1 K "frozen" Aa f28 d28)
  (h29:Fn1 K "made" Ab f29 d29)
  (h30:Fn1 K "one_called" Ac f30 d30)
  (h31:Fn1 K "island_of" Ad f31 d31)
  (h32:Fn1 K "ferry_of" Ae f32 d32)
  (h33:Fn1 K "first_stand" Af f33 d33)
  (h34:Fn1 K "copy_of" Ag f34 d34)
  (h35:Fn1 K "wish_of" Ah f35 d35)
  (h36:Fn1 K "can_be" Ai f36 d36)
  (h37:Fn1 K "do_step" Aj f37 d37)
  (h38:Fn1 K "round_of" Ak f38 d38)
  (h39:Fn1 K "_law_cell" Al f39 d39)
  (h40:Fn1 K "_law_mix" Am f40 d40)
  (h41:Fn1 K "_law_names" An f41 d41)
  (h42:Fn1 K "_law_word" Ao f42 d42)
  (h43:Fn1 K "_law_term" Ap f43 d43)
  (h44:Fn1 K "_law_step" Aq f44 d44)
  (h45:Fn1 K "_law_ferries" Ar f45 d45)
  (h46:Fn1 K "_law_world" As f46 d46)
  (h47:Fn1 K "_law_made" At f47 d47)
  (h48:Fn1 K "_law_first" Au f48 d48)
  (h49:Fn1 K "_law_copy" Av f49 d49)
  (h50:Fn1 K "_law_shut" Aw f50 d50)
  (h51:Fn1 K "_law_round" Ax f51 d51)
  (h52:Fn1 K "_law_whole" Ay f52 d52)
  (h53:Fn1 K "_law_is_stand" Az f53 d53)
  (h54:Fn1 K "law" AA f54 d54)
  (z1:XM K XA "all"=some none)
  (z2:XM K XA "bool"=some none)
  (z3:XM K XA "dict"=some none)
  (z4:XM K XA "int"=some none)
  (z5:XM K XA "isinstance"=some none)
  (z6:XM K XA "len"=some none)
  (z7:XM K XA "list"=some none)
  (z8:XM K XA "max"=some none)
  (z9:XM K XA "min"=some none)
  (z10:XM K XA "range"=some none)
  (z11:XM K XA "set"=some none)
  (z12:XM K XA "sorted"=some none)
  (z13:XM K XA "tuple"=some none)
  (g1:XM K XA "MOST_WIDTH"=some (some (.int 64 tk1)))
  (g2:XM K XA "MOST_LETTERS"=some (some (.int 8 tk2)))
  (g3:XM K XA "MOST_ISLANDS"=some (some (.int 5 tk3)))
  (g4:XM K XA "MOST_FERRIES"=some (some (.int 6 tk4)))
  (g5:XM K XA "MOST_VARS"=some (some (.int 6 tk5)))
  (g6:XM K XA "MOST_STEPS"=some (some (.int 12 tk6)))
  (g7:XM K XA "MOST_PARTS"=some (some (.int 30 tk7)))
  (g8:XM K XA "MOST_DEPTH"=some (some (.int 8 tk8)))
  (g9:XM K XA "MOST_K"=some (some (.int 3 tk9)))
  (g10:XM K XA "MOST_STAGES"=some (some (.int 3 tk10))):
  ∃fd:Xi,(∀(s:X1) (v:X0),BindsTo s fd ⟨[v],[]⟩ [("script",v)])/\∀base:Heap,K.In base->base.Ns XA mg->FnOk l.prog w K mg base CX0 60 fa fd ["script"] (Cc K):=by
 have e:=hfa.symm.trans (Z0 X G h54.a);cases e;have T:Txt K mg ⟨f1,d1,f2,d2,f3,d3,f4,d4,f5,d5,f6,d6,f7,d7,f8,d8,f9,d9,f10,d10,f11,d11,f12,d12,f13,d13,f14,d14,f15,d15,f16,d16,f17,d17,f18,d18,f19,d19,f20,d20,f21,d21,f22,d22,f23,d23,f24,d24,f25,d25,f26,d26,f27,d27,f28,d28,f29,d29,f30,d30,f31,d31,f32,d32,f33,d33,f34,d34,f35,d35,f36,d36,f37,d37,f38,d38,f39,d39,f40,d40,f41,d41,f42,d42,f43,d43,f44,d44,f45,d45,f46,d46,f47,d47,f48,d48,f49,d49,f50,d50,f51,d51,f52,d52,f53,d53,fa,d54⟩:={
  q_is_whole:=h1.t X G λ_ _ _ _ _ _=>us1 (λ_=>rfl)
  q_is_width:=h2.t X G λ_ _ _ _ _ _=>us1 (λ_=>rfl)
  q_two_to:=h3.t X G λ_ _ _ _ _ _=>us1 (λ_=>rfl)
  q_fits:=h4.t X G λ_ _ _ _ _ _=>us2 (λ_ _=>rfl)
  q_cut:=h5.t X G λ_ _ _ _ _ _=>us2 (λ_ _=>rfl)
  q_parts_within:=h6.t X G λ_ _ _ _ _ _=>us1 (λ_=>rfl)
  q_size_of:=h7.t X G λ_ _ _ _ _ _=>us1 (λ_=>rfl)
  q_names_read:=h8.t X G λ_ _ _ _ _ _=>us1 (λ_=>rfl)
  q_vars_in:=h9.t X G λ_ _ _ _ _ _=>us1 (λ_=>rfl)
  q_worth_of_two:=h10.t X G λ_ _ _ _ _ _=>us4 (λ_ _ _ _=>rfl)
  q_worth:=h11.t X G λ_ _ _ _ _ _=>us3 (λ_ _ _=>rfl)
  q_wish:=h12.t X G λ_ _ _ _ _ _=>us4 (λ_ _ _ _=>rfl)
  q_number_after:=h13.t X G λ_ _ _ _ _ _=>us4 (λ_ _ _ _=>rfl)
  q_words_after:=h14.t X G λ_ _ _ _ _ _=>us4 (λ_ _ _ _=>rfl)
  q_after:=h15.t X G λ_ _ _ _ _ _=>us5 (λ_ _ _ _ _=>rfl)
  q_is_name:=h16.t X G λ_ _ _ _ _ _=>us1 (λ_=>rfl)
  q_refuse_name:=h17.t X G λ_ _ _ _ _ _=>us2 (λ_ _=>rfl)
  q_refuse_unknown:=h18.t X G λ_ _ _ _ _ _=>us2 (λ_ _=>rfl)
  q_refuse_ferry_names:=h19.t X G λ_ _ _ _ _ _=>us1 (λ_=>rfl)
  q_refuse_variables:=h20.t X G λ_ _ _ _ _ _=>us2 (λ_ _=>rfl)
  q_refuse_term:=h21.t X G λ_ _ _ _ _ _=>us2 (λ_ _=>rfl)
  q_refuse_step:=h22.t X G λ_ _ _ _ _ _=>us4 (λ_ _ _ _=>rfl)
  q_refuse_island:=h23.t X G λ_ _ _ _ _ _=>us3 (λ_ _ _=>rfl)
  q_refuse_islands:=h24.t X G λ_ _ _ _ _ _=>us3 (λ_ _ _=>rfl)
  q_refuse_ferry:=h25.t X G λ_ _ _ _ _ _=>us2 (λ_ _=>rfl)
  q_refuse_wrong_end:=h26.t X G λ_ _ _ _ _ _=>us4 (λ_ _ _ _=>rfl)
  q_refuse_wrong_ends:=h27.t X G λ_ _ _ _ _ _=>us2 (λ_ _=>rfl)
  q_frozen:=h28.t X G λ_ _ _ _ _ _=>us1 (λ_=>rfl)
  q_made:=h29.t X G λ_ _ _ _ _ _=>us3 (λ_ _ _=>rfl)
  q_one_called:=h30.t X G λ_ _ _ _ _ _=>us2 (λ_ _=>rfl)
  q_island_of:=h31.t X G λ_ _ _ _ _ _=>us2 (λ_ _=>rfl)
  q_ferry_of:=h32.t X G λ_ _ _ _ _ _=>us2 (λ_ _=>rfl)
  q_first_stand:=h33.t X G λ_ _ _ _ _ _=>us1 (λ_=>rfl)
  q_copy_of:=h34.t X G λ_ _ _ _ _ _=>us1 (λ_=>rfl)
  q_wish_of:=h35.t X G λ_ _ _ _ _ _=>us3 (λ_ _ _=>rfl)
  q_can_be:=h36.t X G λ_ _ _ _ _ _=>us3 (λ_ _ _=>rfl)
  q_do_step:=h37.t X G λ_ _ _ _ _ _=>us5 (λ_ _ _ _ _=>rfl)
  q_round_of:=h38.t X G λ_ _ _ _ _ _=>us2 (λ_ _=>rfl)
  q__law_cell:=h39.t X G λ_ _ _ _ _ _=>us2 (λ_ _=>rfl)
  q__law_mix:=h40.t X G λ_ _ _ _ _ _=>us2 (λ_ _=>rfl)
  q__law_names:=h41.t X G λ_ _ _ _ _ _=>us2 (λ_ _=>rfl)
  q__law_word:=h42.t X G λ_ _ _ _ _ _=>us2 (λ_ _=>rfl)
  q__law_term:=h43.t X G λ_ _ _ _ _ _=>us3 (λ_ _ _=>rfl)
  q__law_step:=h44.t X G λ_ _ _ _ _ _=>us5 (λ_ _ _ _ _=>rfl)
  q__law_ferries:=h45.t X G λ_ _ _ _ _ _=>us3 (λ_ _ _=>rfl)
  q__law_world:=h46.t X G λ_ _ _ _ _ _=>us2 (λ_ _=>rfl)
  q__law_made:=h47.t X G λ_ _ _ _ _ _=>us1 (λ_=>rfl)
  q__law_first:=h48.t X G λ_ _ _ _ _ _=>us2 (λ_ _=>rfl)
  q__law_copy:=h49.t X G λ_ _ _ _ _ _=>us1 (λ_=>rfl)
  q__law_shut:=h50.t X G λ_ _ _ _ _ _=>us3 (λ_ _ _=>rfl)
  q__law_round:=h51.t X G λ_ _ _ _ _ _=>us4 (λ_ _ _ _=>rfl)
  q__law_whole:=h52.t X G λ_ _ _ _ _ _=>us1 (λ_=>rfl)
  q__law_is_stand:=h53.t X G λ_ _ _ _ _ _=>us2 (λ_ _=>rfl)
  q_law:=h54.t X G λ_ _ _ _ _ _=>us1 (λ_=>rfl)
  z_all:=YZ X G z1
  z_bool:=YZ X G z2
  z_dict:=YZ X G z3
  z_int:=YZ X G z4
  z_isinstance:=YZ X G z5
  z_len:=YZ X G z6
  z_list:=YZ X G z7
  z_max:=YZ X G z8
  z_min:=YZ X G z9
  z_range:=YZ X G z10
  z_set:=YZ X G z11
  z_sorted:=YZ X G z12
  z_tuple:=YZ X G z13
  c_MOST_WIDTH:=⟨_,Z0 X G g1⟩
  c_MOST_LETTERS:=⟨_,Z0 X G g2⟩
  c_MOST_ISLANDS:=⟨_,Z0 X G g3⟩
  c_MOST_FERRIES:=⟨_,Z0 X G g4⟩
  c_MOST_VARS:=⟨_,Z0 X G g5⟩
  c_MOST_STEPS:=⟨_,Z0 X G g6⟩
  c_MOST_PARTS:=⟨_,Z0 X G g7⟩
  c_MOST_DEPTH:=⟨_,Z0 X G g8⟩
  c_MOST_K:=⟨_,Z0 X G g9⟩
  c_MOST_STAGES:=⟨_,Z0 X G g10⟩
 }
 exact⟨d54,h54.bt λ_ _ _ _ _ _ _=>rfl,λbase _ _=>ZlO (FnOk.mono (ZnW T) (by decide))⟩
theorem walk{l:D9}{q:Xl}{loose:List Str}{XP:(Str->Option X0)->Heap->Prop}{YP:Xe->Heap->Prop}{d:DefRec}{K:Params->X5}(hn:l.most=some 63)(hdf:d.params.defaults=[])
  (hY:∀(w:Xe) (h:Heap),YP w h->(K w.params).In h)
  (F:∀(w:Xe) (mg:Str->Option X0) (fa:Addr) (h:Heap),(K w.params).In h->h.Ns XA mg->mg d.name=some (.ref fa)->
   ∃fd:Xi,(∀(s:X1) (u:X0),BindsTo s fd ⟨[u],[]⟩ [("script",u)])/\∀base:Heap,(K w.params).In base->base.Ns XA mg->FnOk l.prog w (K w.params) mg base CX0 60 fa fd ["script"] (Cc (K w.params))):
  PySem.W.WalkO q loose XP YP l.row.toRowW d [] (λf vs=>PySem.call f vs):=
 L2.walk_of (n:=63) (k:=60) (x:="script") (CX:=fun _=>CX0) (sp:=fun w=>Cc (K w.params)) hn (by decide) hdf ⟨rfl,by decide,by decide⟩ hY F (fun _ H a ns hl hO hS=>⟨a,ns,rfl,Zoq hO hS,hl,fun _=>rfl⟩) fun _ _ _ _ _ z=>z
end My
structure PySem.W.Fast:Prop where
 (tw6337340663657840175 tw15914410853890169883 tw8233714319716276609 tw1257582784580791921 tw12710066862182476246 tw5707240795884831159 tw890521839288674914 tw3070918682924388082 tw3224094114675752806 tw14910899397720310983 tw716143465141465777 tw1241828191242121464 tw4927240433945441846 tw16539707853637795832 tw11724085863005050176 tw1371238644617676455 tw5394081557039561705 tw12401620973948443615 tw17674409118802461545 tw16805385352791866825 tw2094217804796878961 tw14324113589565784290 tw17316177850512971275 tw10959589485943096774 tw7213748823141292584 tw709892253922393573 tw17041747301899708067 tw15676323762037738223 tw15027226279200094798 tw11004412661527033197 tw5525261200116828482 tw13864170689957484988 tw10471870231134590315 tw15949250980259200580 tw6072993985996671610 tw2342513638044473864 tw295159518395091366 tw12520446013745787875 tw3059903383906219535 tw4317557453547002941 tw9099963702016372151 tw8470408776083331708 tw15676283449574926200 tw8365843563530301422 tw12081404474055983428 tw7433884505174731410 tw112320361894967294 tw16672538966347049443 tw9672034048459253357 tw18041720888664517748 tw18165847534986998485 tw16216743040397510187 tw15760782779707005184 tw5885067666770429548 tw17607524813522882803 tw11485445473271415811 tw1331542857551500669 tw7719079431492523636 tw9408858634202129552 tw5327284138403170213 tw17216172341578011907 tw4513334732098317807 tw11890583949011531979 tw11746404141659752501 tw14679180836786058703 tw6430364278400328709 tw3431952009997382043 tw11993528570744801612 tw3554751826607319968 tw11143491595811502697 tw2013380450579381939 tw16008236595994565635 tw13113421685070916372 tw3462785932537053386 tw11449312125366696153 tw3426112865063209562 tw3491638128136139330 tw6550512170282589951 tw10578874989717903826 tw6222445909475207222 tw11185281049285020855 tw6158560234026757112 tw3702162642359858922 tw7072137085026432036 tw6951545954736670545 tw6437161037777564897 tw13508321559624822394 tw15927842409968753767 tw5283539265283066653 tw8445867300372612904 tw15426669570853700259 tw8152820651630287363 tw10626965783732841540 tw4191171822690835614 tw924932182004795636 tw4554457170017859712 tw15465229715633844604 tw13096999136001729665 tw9161394094186060169 tw14870385907456735693 tw2249725941590943162 tw11784539260337855489 tw16043291633969799875 tw13907541336881076470 tw4831610050013382828 tw948415596995072255 tw10201528111130970828 tw7712796858457824878 tw5548451882009081453 tw12629820758360010775 tw6624770064030700832 tw15505001045748282550 tw4702809754347987439 tw11834095955176751206 tw15077786088050180889 tw4021284589824282553 tw14566381069835623563 tw4478464346324253917 tw7375175369519964994 tw4001957726371861656 tw14127164447968114696 tw4844306387035703906 tw16413691971817875653 tw8531696447916545109 tw2784245782458596388 tw9617409620080137701 tw16687672848844378622 tw13392419235545160860 tw17718459663982494207 tw6373995918014570728 tw17842856492617620211 tw18083875503837873205 tw6389388254753053905 tw8151521711977303784 tw12893507866205516953 tw16854871951307750416 tw6796984912172657860 tw6833272464941140711 tw18015138255098516410 tw2970243788442922155 tw8779861123987215253 tw5135195181153093066 tw11050076070890901079 tw15372793671279837625 tw11723184934505309163 tw10025471160733015362 tw18302027819103050526 tw7832819124504705659 tw13708241485434386661 tw13808239464098221602 tw15879191956616906487 tw7175497899913339366 tw2049047580168974864 tw18074377645244969440 tw13540429168631078193 tw16169186502786829504 tw4859408799491098037 tw8275820940426191336 tw4784678054058493392 tw4301356066652475626 tw10031824026336775608 tw16103383011355225871 tw15269823203797519767 tw2292869259229809434 tw16116831603849136814 tw1576152109407137337 tw17476208992391756193 tw12971891092614694148 tw5988569945780384828 tw14209028716058296477 tw16440700643032900623 tw6632523677639696482 tw1329320263390753256 tw4089741586724046835 tw17618749871670156792 tw1937860571809628674 tw814211286466757867 tw10025817983613469939 tw15478106327601344408 tw13071451013943124096 tw9604495563390578586 tw13282274806016693823 tw70773112013490730 tw16911401343850218696 tw18270131117509624575 tw13590646657827985894 tw13798449814218947630 tw7100429745680601062 tw18092583471039989622 tw8668847857820468249 tw3408398935394766838 tw10445466297902391799 tw8582882126334667768 tw301965685540528786 tw3458502463151308414 tw483637776422655823 tw6344977871701474950 tw7206998797648583094 tw12185187970849871 tw8284675406214967003 tw16411109018307486510 tw9747339208235732274 tw259377801023259804 tw7515192940493211247 tw9887770510752483887 tw12389146960996971251 tw11759867756858574934 tw11703039583206170991 tw10517369133134993978 tw9514075737926118204 tw15483504408047125737 tw4610377057131393984 tw12376448711780414438 tw17089779069937768966 tw17173466290266955385 tw3899062834651830893 tw4883828331970453511 tw16047209606424823774 tw12929772848415700815 tw7687777030311122827 tw3784105669850400866 tw9513591765109866373 tw5692125734374980249 tw11737752469926722671 tw13032509555999247636 tw16299198738503029520 tw8957117854726943914 tw10915635333896363734 tw465212778305314359 tw9825881840241988375 tw9312816316983023029 tw1453420476963445350 tw16129232614149058121 tw14052974941103919354 tw5708781024439502589 tw17652773409232070682 tw15984406628414799087 tw3925164413444143619 tw1725962584525467610 tw2424589558737224672 tw7753740933014853729 tw3566635026210989769 tw6383282488849250761 tw12900415298250822157 tw8381372971754347812 tw3934263326290378875 tw5604609641419753354 tw13195647854859495516 tw14857721912408716553 tw7426664177448350714 tw16537053682640927293 tw11054777353036879045 tw13206412441733181932 tw16176251836163027779 tw4223252078484805098 tw2247159585733779381 tw12895106353219984522 tw17555095086974163069 tw16173221922428541018 tw8433452209651441686 tw11159965553803117042 tw344949749219594764 tw10281773236519383005 tw10931404642901043843 tw12072880875825565199 tw7289770479881430424 tw6141067144279115102 tw18420419684380444122 tw10776281178906645241 tw1501471624255544210 tw13314972318899060595 tw9434409265341107042 tw1978303896451056490 tw1965417918466608376 tw9647682046271776433 tw14801749102746222746 tw11631212600530499401 tw8668960353043516420 tw2719070927208220605 tw18285338619662291398 tw15134795641055275086 tw7234719093702757540 tw11191517712475286292 tw13970416389702127625 tw7503471382023668687 tw6652695906421120506 tw17501626367985217697 tw7629207895748294486 tw6271069880622897710 tw6695597336692337661 tw14019379362383092873 tw8803816223911331259 tw4562375259817307303 tw7150343952560008969 tw14259290400518968387 tw16428168997047243136 tw3392678666169691103 tw8751183594139123313 tw2612655729219356658 tw12967344128756384778 tw2857926955151335758 tw2987901065157947090 tw10418348179800553550 tw18399017659515050215 tw10284075480616154736 tw15238891926882100542 tw9758745500562869878 tw4095266142319172297 tw18098920404603521862 tw106485594439511955 tw13555677904802673799 tw1146355529536352741 tw3651824404508620125 tw13559824335847649433 tw1872746805073903929 tw10373810134889001446 tw450136087195612392 tw3347965762383149106 tw15566399108233472900 tw14491450284017109647 tw808913019168842471 tw15548729818266393448 tw9879353520973957732 tw7234338255347687735 tw10539248320661341006 tw16764780786747720 tw14873621839355337592 tw10419729211958260180 tw3110623141740051271 tw14532139721998638639 tw2292402376970272766 tw7943573703925472150 tw9254768340092006911 tw9285636061079144209 tw17342307646891093575 tw4469125031025712958 tw14522791218342096046 tw17754959923742046983 tw5583825429595080787 tw17185134734288757191 tw16282789880942397039 tw13229025430078231518 tw14690694811696817030 tw2344404135875595320 tw5221051036129734653 tw12533829957928616351 tw16414484934176404719 tw994746036048520775 tw16597597968428437654 tw5124219151047103323 tw16410820348166889294 tw4599334472947484488 tw8430083350555340013 tw2841722482644977358 tw3547282147453573213 tw754996593018789477 tw3095646268220100286 tw6042408056673271266 tw5171812564374843095 tw17826655235361769479 tw5213684487545130140 tw18090420210781850818 tw9624128788241704208 tw13416613562469537177 tw3959065280424529611 tw15080679242604897834 tw18406597095335170416 tw10946648667289494743 tw16095632082857863946 tw817212442902960800 tw9329590630252714788 tw11648040634037895310 tw5073943873691859380 tw10087329940135501789 tw7138426612270434764 tw10379466042855342491 tw13916723475974555518 tw17911511740681362106 tw7920184383552365044 tw6544105744903453348 tw8888431598022176373 tw9166736921455737649 tw7740449884398501056 tw18153474631501646351 tw17015741073266816674 tw12630178597989686256 tw10341634870675429005 tw10936767354663432326 tw3955971541990939860 tw11372050024250180076 tw8003415055278472003 tw6213552144776184575 tw7794810617023625206 tw12044522201616213091 tw15906009313564620377 tw13660354638978656556 tw17708230977952281722 tw13324830037486880633 tw15593549143435669667 tw3382466062102031844 tw10867137252019766430 tw6555428693028339707 tw14265198396507763549 tw15496632203980743502 tw4497337944163022441 tw3649804447714832022 tw6044450127488691338 tw12831388777069909311 tw15486048681911699104 tw10987364214011176023 tw11689769575786334666 tw9749683229081753021 tw11117468345966059078 tw2645172928663938516 tw16911648613025330825 tw3457236190127412068 tw13268296845494214934 tw10180089147721847826 tw16120235457997763186 tw1869664135605321229 tw8941544035306846792 tw11527791455433145937 tw5398747037697682655 tw14824725416642527106 tw6420087761762948910 tw15610215240364617456 tw6454209410552660620 tw1868595159941641868 tw13254828493370672218 tw9782837301518390926 tw14835511531148722126 tw2658773753320380636 tw2133964298201336239 tw7562410645278751771 tw17845389497130559113 tw15358901321477608758 tw5397548798273599936 tw10426001848753446499 tw1997220048749996553 tw6927445290713253595 tw7722257894531024149 tw13459722726833113157 tw2973082130983015833 tw15483113591589678723 tw11526708901891079386 tw12401649190274090468 tw11312136757242767004 tw14279042676666584052 tw10266805624169749123 tw15273691737872195337 tw16736441480492041338 tw7204831294473466953 tw16658801557769928922 tw5861977092307727070 tw17688511731527580378 tw4411781378508145846 tw5919354480810107808 tw14443000656350793970 tw8639526647895290389 tw6315822143270960834:True)
open PySem PySem.W PyProof.Rows
local macro_rules | `(tactic| walk_at "q_fn") => `(tactic| (refine' ⟨?a, L2.fun_mk ?l ?c ?k⟩; (case a => k_is); (case l => k_is); (case c => k_is); (case k => k_is)))
set_option maxRecDepth 100000 in
set_option maxHeartbeats 0 in
theorem PySem.Challenge.cw_bellferry_k24_a_round_holds : PySem.Challenge.rw_bellferry_k24_a_round.Holds := by
 w_on;o_law;k_head;(case hw=>w_witness2)
 k_fill
 refine My.walk (l:=PySem.Challenge.rw_bellferry_k24_a_round) rfl rfl (λw h Y=>PySem.W.kIn_of Y) ?F
 case F=>
  intro w mg fa h KX G hmg;refine' My.all_mk KX G hmg ?h1 ?h2 ?h3 ?h4 ?h5 ?h6 ?h7 ?h8 ?h9 ?h10 ?h11 ?h12 ?h13 ?h14 ?h15 ?h16 ?h17 ?h18 ?h19 ?h20 ?h21 ?h22 ?h23 ?h24 ?h25 ?h26 ?h27 ?h28 ?h29 ?h30 ?h31 ?h32 ?h33 ?h34 ?h35 ?h36 ?h37 ?h38 ?h39 ?h40 ?h41 ?h42 ?h43 ?h44 ?h45 ?h46 ?h47 ?h48 ?h49 ?h50 ?h51 ?h52 ?h53 ?h54 ?z1 ?z2 ?z3 ?z4 ?z5 ?z6 ?z7 ?z8 ?z9 ?z10 ?z11 ?z12 ?z13 ?g1 ?g2 ?g3 ?g4 ?g5 ?g6 ?g7 ?g8 ?g9 ?g10
  (case h1=>walk_at "q_fn")
  (case h2=>walk_at "q_fn")
  (case h3=>walk_at "q_fn")
  (case h4=>walk_at "q_fn")
  (case h5=>walk_at "q_fn")
  (case h6=>walk_at "q_fn")
  (case h7=>walk_at "q_fn")
  (case h8=>walk_at "q_fn")
  (case h9=>walk_at "q_fn")
  (case h10=>walk_at "q_fn")
  (case h11=>walk_at "q_fn")
  (case h12=>walk_at "q_fn")
  (case h13=>walk_at "q_fn")
  (case h14=>walk_at "q_fn")
  (case h15=>walk_at "q_fn")
  (case h16=>walk_at "q_fn")
  (case h17=>walk_at "q_fn")
  (case h18=>walk_at "q_fn")
  (case h19=>walk_at "q_fn")
  (case h20=>walk_at "q_fn")
  (case h21=>walk_at "q_fn")
  (case h22=>walk_at "q_fn")
  (case h23=>walk_at "q_fn")
  (case h24=>walk_at "q_fn")
  (case h25=>walk_at "q_fn")
  (case h26=>walk_at "q_fn")
  (case h27=>walk_at "q_fn")
  (case h28=>walk_at "q_fn")
  (case h29=>walk_at "q_fn")
  (case h30=>walk_at "q_fn")
  (case h31=>walk_at "q_fn")
  (case h32=>walk_at "q_fn")
  (case h33=>walk_at "q_fn")
  (case h34=>walk_at "q_fn")
  (case h35=>walk_at "q_fn")
  (case h36=>walk_at "q_fn")
  (case h37=>walk_at "q_fn")
  (case h38=>walk_at "q_fn")
  (case h39=>walk_at "q_fn")
  (case h40=>walk_at "q_fn")
  (case h41=>walk_at "q_fn")
  (case h42=>walk_at "q_fn")
  (case h43=>walk_at "q_fn")
  (case h44=>walk_at "q_fn")
  (case h45=>walk_at "q_fn")
  (case h46=>walk_at "q_fn")
  (case h47=>walk_at "q_fn")
  (case h48=>walk_at "q_fn")
  (case h49=>walk_at "q_fn")
  (case h50=>walk_at "q_fn")
  (case h51=>walk_at "q_fn")
  (case h52=>walk_at "q_fn")
  (case h53=>walk_at "q_fn")
  (case h54=>walk_at "q_fn")
  (case z1=>k_is)
  (case z2=>k_is)
  (case z3=>k_is)
  (case z4=>k_is)
  (case z5=>k_is)
  (case z6=>k_is)
  (case z7=>k_is)
  (case z8=>k_is)
  (case z9=>k_is)
  (case z10=>k_is)
  (case z11=>k_is)
  (case z12=>k_is)
  (case z13=>k_is)
  (case g1=>k_is)
  (case g2=>k_is)
  (case g3=>k_is)
  (case g4=>k_is)
  (case g5=>k_is)
  (case g6=>k_is)
  (case g7=>k_is)
  (case g8=>k_is)
  (case g9=>k_is)
  (case g10=>k_is)
#print axioms PySem.Challenge.cw_bellferry_k24_a_round_holds
